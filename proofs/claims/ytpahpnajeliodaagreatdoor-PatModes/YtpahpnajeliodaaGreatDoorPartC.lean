/- Texts that the proof of the law stands on: Bounds, Times0, Times, Local. -/
import Derived.Test.YtpahpnajeliodaaGreatDoorPartB
/- The reader's call bounds. -/
namespace Go.Proofs.YtpahpnajeliodaaGreatDoor
open Go.ChangeShapes Go.WideShapes Go.ChangeAt Go.RowKit
set_option linter.unusedVariables false
set_option linter.unusedSimpArgs false
def finF (s : ByteArray) (k n : Nat) (mx : Int) (lz : Bool) : Option (Nat × Int × Bool × Nat) :=
  if pfx s k ⟨#[125]⟩ then (if 0 ≤ mx ∧ mx < n then none else some (n, mx, lz, k + 1))
  else if pfx s k ⟨#[92, 125]⟩ then (if 0 ≤ mx ∧ mx < n then none else some (n, mx, lz, k + 2)) else none
/-- Bounds in braces from a place on: least, most, lazy, where they end. -/
def bndF (s : ByteArray) (k : Nat) : Option (Nat × Int × Bool × Nat) :=
  match numF s (if pfx s k ⟨#[45]⟩ then k + 1 else k) with
  | none => none
  | some (n, k2) =>
    if pfx s k2 ⟨#[44]⟩ then
      match numF s (k2 + 1) with
      | none => none
      | some (m, k3) => finF s k3 n (if k2 + 1 < k3 then (m : Int) else -1) (pfx s k ⟨#[45]⟩)
    else finF s k2 n (if (if pfx s k ⟨#[45]⟩ then k + 1 else k) < k2 then (n : Int) else -1) (pfx s k ⟨#[45]⟩)
/-- A node in a block of its own. -/
def NdBox (n : Nat) (d : Nd) (kv : Value) (w : World) : Prop := w.heap[n]? = some (.cells #[.int .u8 d.op, .int .u8 d.c, .int .u64 d.set.a, .int .u64 d.set.b, .int .u64 d.set.c, .int .u64 d.set.d, .int .i64 d.mn, .int .i64 d.mx, .bool d.lz, .int .i64 d.n, kv] 73 (0, 0))
section
variable {n : Nat} {d : Nd} {kv : Value} {w w' : World}
theorem NdBox.lt (h : NdBox n d kv w) : n < w.heap.size := (Array.getElem?_eq_some_iff.1 h).1
theorem NdBox.c6 (h : NdBox n d kv w) : w.cell? ⟨n, 6, none⟩ = some (.int .i64 d.mn) := by unfold NdBox at h; simp [World.cell?, h]
theorem NdBox.c7 (h : NdBox n d kv w) : w.cell? ⟨n, 7, none⟩ = some (.int .i64 d.mx) := by unfold NdBox at h; simp [World.cell?, h]
theorem NdBox.c8 (h : NdBox n d kv w) : w.cell? ⟨n, 8, none⟩ = some (.bool d.lz) := by unfold NdBox at h; simp [World.cell?, h]
theorem NdBox.fz (h : NdBox n d kv w) (j : Nat) : w.frozen? ⟨n, j, none⟩ = false := by unfold NdBox at h; simp [World.frozen?, h]
theorem NdBox.set6 (h : NdBox n d kv w) (v : Int) : NdBox n { d with mn := v } kv (w.setCell ⟨n, 6, none⟩ (.int .i64 v)) := by unfold NdBox at h ⊢; rw [heap_setCell h]; simp
theorem NdBox.set7 (h : NdBox n d kv w) (v : Int) : NdBox n { d with mx := v } kv (w.setCell ⟨n, 7, none⟩ (.int .i64 v)) := by unfold NdBox at h ⊢; rw [heap_setCell h]; simp
theorem NdBox.set8 (h : NdBox n d kv w) (v : Bool) : NdBox n { d with lz := v } kv (w.setCell ⟨n, 8, none⟩ (.bool v)) := by unfold NdBox at h ⊢; rw [heap_setCell h]; simp
theorem NdBox.heap (h : NdBox n d kv w) (e : w'.heap[n]? = w.heap[n]?) : NdBox n d kv w' := by unfold NdBox at h ⊢; rw [e]; exact h
theorem NdBox.kp (h : NdBox n d kv w) (k : Kp w w') : NdBox n d kv w' := h.heap (k.block n h.lt)
end
theorem pfx_le {s t : ByteArray} {k : Nat} (h : pfx s k t = true) (ht : 0 < t.size) : k + t.size ≤ s.size := by
  unfold pfx Lib.hasPrefix at h
  have := List.IsPrefix.length_le (List.isPrefixOf_iff_prefix.1 h)
  rw [List.length_drop, ← Lib.size_eq, ← Lib.size_eq] at this
  omega
/-- The reader's blocks, and one more. -/
def Rb3 (rb : Nat) (v : Qv) (n : Nat) (k : Nat) : Prop := Rb rb v k ∨ k = n
/-- What stands while bounds are read. -/
structure Bs (B rb : Nat) (s last : ByteArray) (r : RS) (vn : Qv) (nb : Nat) (kv : Value) (tb : Nat) (t : Tok) (w0 : World) (k : Nat) (d : Nd) (w : World) : Prop where
  rr : Rr B rb s last { r with k := k } vn w
  nd : NdBox nb d kv w
  fr : Fr (Rb3 rb vn nb) w0 w
  tok : TokBox tb t w
  ne : nb ≠ rb ∧ vn.ownBlock ≠ some nb ∧ tb ≠ rb ∧ vn.ownBlock ≠ some tb ∧ tb ≠ nb ∧ w0.heap.size ≤ tb
section
variable {B rb : Nat} {s last : ByteArray} {r : RS} {vn : Qv} {nb : Nat} {kv : Value} {tb : Nat} {t : Tok} {w0 : World} {k : Nat} {d : Nd} {w w1 : World}
theorem Bs.adv (h : Bs B rb s last r vn nb kv tb t w0 k d w) {k' : Nat} (hr : Rr B rb s last { r with k := k' } vn w1) (a : Adv rb vn w vn w1) : Bs B rb s last r vn nb kv tb t w0 k' d w1 := by
  refine ⟨hr, h.nd.heap (a.fr.block nb h.nd.lt fun q => ?_), h.fr.trans' a.fr (fun _ _ q => .inl q), h.tok.adv a h.ne.2.2.1 h.ne.2.2.2.1, h.ne⟩
  rcases q with q | q
  · exact h.ne.1 q
  · exact h.ne.2.1 q
theorem Bs.set (h : Bs B rb s last r vn nb kv tb t w0 k d w) {j : Nat} {v : Value} {d' : Nd} (hd : NdBox nb d' kv (w.setCell ⟨nb, j, none⟩ v)) : Bs B rb s last r vn nb kv tb t w0 k d' (w.setCell ⟨nb, j, none⟩ v) := by
  have f : Fr (On nb) w (w.setCell ⟨nb, j, none⟩ v) := fr_set _ _ _ _
  refine ⟨?_, hd, h.fr.trans' f (fun _ _ q => .inr q), h.tok.fr f h.ne.2.2.2.2.1, h.ne⟩
  obtain ⟨ns, hr⟩ := h.rr
  have e : ∀ j', j' ≠ nb → (w.setCell ⟨nb, j, none⟩ v).heap[j']? = w.heap[j']? := fun j' hj => heap_setCell_other hj
  have hrow : ∀ {e' : TypeId} {size n : Nat} {v' : Value} {xs : List Value}, w.ownsRow B e' size v' n xs → v'.ownBlock ≠ some nb → (w.setCell ⟨nb, j, none⟩ v).ownsRow B e' size v' n xs := fun ho hv => by
    refine ⟨ho.1, ?_⟩
    rcases ho.2 with q | ⟨b, cap, cur, rfl, hb, hg, rest⟩
    · exact .inl q
    · exact .inr ⟨b, cap, cur, rfl, hb, by rw [e b (fun q => hv (by rw [q]; rfl))]; exact hg, rest⟩
  refine ⟨ns, hr.ge, hr.scn.heap (e rb (Ne.symm h.ne.1)), hrow hr.row (by have := h.ne.2.1; exact this), hr.apart, hr.nds, fun x hx => ⟨hrow (hr.kids x hx).1 fun q => ?_, (hr.kids x hx).2⟩, fun z hz => by rw [size_setCell]; exact hr.kbl z hz⟩
  rcases (hr.kids x hx).1.2 with ⟨e1, _⟩ | ⟨b, cap, cur, e1, hb, hg, rest⟩
  · rw [e1] at q; cases q
  · rw [e1] at q
    simp only [Value.ownBlock, Option.some.injEq] at q
    subst q
    have := h.nd
    unfold NdBox at this
    rw [hg] at this
    injection this with this
    injection this with _ this _
    exact absurd this (by decide)
theorem Bs.set6 (h : Bs B rb s last r vn nb kv tb t w0 k d w) (v : Int) : Bs B rb s last r vn nb kv tb t w0 k { d with mn := v } (w.setCell ⟨nb, 6, none⟩ (.int .i64 v)) := h.set (h.nd.set6 v)
theorem Bs.set7 (h : Bs B rb s last r vn nb kv tb t w0 k d w) (v : Int) : Bs B rb s last r vn nb kv tb t w0 k { d with mx := v } (w.setCell ⟨nb, 7, none⟩ (.int .i64 v)) := h.set (h.nd.set7 v)
theorem Bs.set8 (h : Bs B rb s last r vn nb kv tb t w0 k d w) (v : Bool) : Bs B rb s last r vn nb kv tb t w0 k { d with lz := v } (w.setCell ⟨nb, 8, none⟩ (.bool v)) := h.set (h.nd.set8 v)
theorem Bs.below (h : Bs B rb s last r vn nb kv tb t w0 k d w) (hn : B ≤ nb) (hB : B ≤ w0.heap.size) : Below B w0 w := by
  obtain ⟨ns, hr⟩ := h.rr
  refine h.fr.below hB fun j hj q => ?_
  rcases q with (q | q) | q
  · have := hr.ge; omega
  · have := (hr.own j q).1; omega
  · omega
/-- What a call of bounds comes to. -/
def BndP (B rb : Nat) (s last : ByteArray) (r : RS) (vn : Qv) (nb : Nat) (kv : Value) (w : World) (pl : Nat) (R : Option (Nat × Int × Bool × Nat)) (e : Ending) (w' : World) : Prop :=
  match R with
  | some (n, mx, lz, j) => e = .returned (.tuple #[]) ∧ Rr B rb s last { r with k := j } vn w' ∧ NdBox nb { op := 7, mn := n, mx := mx, lz := lz } kv w' ∧ Fr (Rb3 rb vn nb) w w'
  | none => e = Wrong 32 pl ∧ Fr (Rb3 rb vn nb) w w'
theorem Bs.skip (h : Bs B rb s last r vn nb kv tb t w0 k d w) (hs : s.size ≤ 400) (hk : k ≤ s.size) (x : ByteArray) (hx : x.size ≤ 400) {y : Bool} (hy : pfx s k x = y) :
    Calls Tryz.prog 92 #[.pointer (some ⟨rb, 0, none⟩), .string x] w fun e w' => e = .returned (.bool y) ∧ Bs B rb s last r vn nb kv tb t w0 (if y then k + x.size else k) d w' := by
  refine (rskip h.rr hs hk x hx (y := y) hy).mono ?_
  rintro e w' ⟨rfl, q1, q2⟩
  exact ⟨rfl, h.adv q1 (Adv.on vn q2)⟩
theorem Bs.num_ok (h : Bs B rb s last r vn nb kv tb t w0 k d w) (hs : s.size ≤ 400) (hk : k ≤ s.size) {n j : Nat} (hn : numF s k = some (n, j)) :
    Calls Tryz.prog 93 #[.pointer (some ⟨rb, 0, none⟩), t.val] w fun e w' => e = .returned (.tuple #[.int .i64 n, .bool (decide (k < j))]) ∧ Bs B rb s last r vn nb kv tb t w0 j d w' := by
  have := number_any h.rr hs hk t
  simp only at this
  rw [hn] at this
  refine this.mono ?_
  rintro e w' ⟨rfl, q1, q2⟩
  exact ⟨rfl, h.adv q1 q2⟩
theorem Bs.num_no (h : Bs B rb s last r vn nb kv tb t w0 k d w) (hs : s.size ≤ 400) (hk : k ≤ s.size) (hn : numF s k = none) (hB : B ≤ w0.heap.size) (hnb : B ≤ nb) :
    Calls Tryz.prog 93 #[.pointer (some ⟨rb, 0, none⟩), t.val] w fun e w' => e = Wrong 32 t.pl ∧ Fr (Rb3 rb vn nb) w0 w' := by
  have := number_any h.rr hs hk t
  simp only at this
  rw [hn] at this
  refine this.mono ?_
  rintro e w' ⟨rfl, q1⟩
  exact ⟨rfl, h.fr.trans' q1 fun _ _ q => .inl q⟩
set_option maxHeartbeats 4000000 in
set_option maxRecDepth 100000 in
theorem bounds_any (h : Rr B rb s last r vn w) (hs : s.size ≤ 400) (ha : r.k ≤ s.size) (hd : NdBox nb { op := 7, mx := -1 } kv w) (hn : nb ≠ rb ∧ vn.ownBlock ≠ some nb ∧ B ≤ nb) (t : Tok) :
    Calls Tryz.prog 74 #[.pointer (some ⟨rb, 0, none⟩), t.val, .pointer (some ⟨nb, 0, none⟩)] w (BndP B rb s last r vn nb kv w t.pl (bndF s r.k)) := by
  obtain ⟨R, hR⟩ : ∃ R, bndF s r.k = R := ⟨_, rfl⟩
  rw [hR]
  unfold bndF at hR
  have HB0 : Hid (Bs B rb s last r vn nb kv w.heap.size t w r.k { op := 7, mx := -1 } (w.alloc (.cells #[.int .u8 t.kd, .int .u8 t.c, .int .i64 t.pl] 75))) := by
    have hl := h.lt
    have hl2 := hd.lt
    refine ⟨h.kp (kp_alloc w _), hd.kp (kp_alloc w _), Fr.alloc _ w _, alloc_new w _, hn.1, hn.2.1, by omega, h.own (Nat.le_refl _), by omega, Nat.le_refl _⟩
  have HN : Hid (B ≤ nb ∧ B ≤ w.heap.size) := ⟨hn.2.2, h.hB⟩
  obtain ⟨lz, hlz⟩ : ∃ lz, pfx s r.k ⟨#[45]⟩ = lz := ⟨_, rfl⟩
  obtain ⟨k1, hk1⟩ : ∃ k1, (if lz = true then r.k + 1 else r.k) = k1 := ⟨_, rfl⟩
  rw [hlz, hk1] at hR
  have hk1s : k1 ≤ s.size := by
    rw [← hk1]
    split
    · rename_i hq
      rw [hq] at hlz
      have := pfx_le hlz (by decide)
      have h1 : ByteArray.size ⟨#[45]⟩ = 1 := rfl
      omega
    · exact ha
  have HK1 : Hid ((if lz = true then r.k + 1 else r.k) = k1) := hk1
  have HS1 : Hid (Calls Tryz.prog 92 #[.pointer (some ⟨rb, 0, none⟩), .string ⟨#[45]⟩] (w.alloc (.cells #[.int .u8 t.kd, .int .u8 t.c, .int .i64 t.pl] 75)) fun e w' => e = .returned (.bool lz) ∧ Bs B rb s last r vn nb kv w.heap.size t w k1 { op := 7, mx := -1 } w') := by
    have := HB0.out.skip hs ha ⟨#[45]⟩ (by decide) hlz
    rw [show (ByteArray.size ⟨#[45]⟩) = 1 by rfl, HK1.out] at this
    exact this
  have HR : Hid _ := hR
  obtain ⟨kd, c, pl⟩ := t
  unfold Tok.val
  simp only at *
  clear h hd hn hlz hk1 hR
  go_enter Tryz.func74, Tryz.ntmps74
  go_wp2_with fail
  refine Calls.mono HS1.out ?_
  rintro e w1 ⟨rfl, q⟩
  have f8 := q.nd.fz 8
  have g8 := q.nd.c8
  have H1 : Hid _ := q.set8 lz
  clear q HS1
  go_upto_region 2 with fail
  obtain ⟨w2, hw2⟩ : ∃ w2, w1.setCell ⟨nb, 8, none⟩ (.bool lz) = w2 := ⟨_, rfl⟩
  rw [hw2] at H1 ⊢
  obtain ⟨⟨r0, r1, r2⟩, _⟩ := H1.out.tok.cells
  clear hw2 f8 g8
  cases hnum : numF s k1 with
  | none =>
    have hR := HR.out
    rw [hnum] at hR
    simp only at hR
    subst hR
    have HE : Hid _ := H1.out.num_no hs hk1s hnum HN.out.2 HN.out.1
    unfold Wrong Tok.val at HE
    clear hnum HR
    go_wp2_with fail
    refine Calls.mono HE.out ?_
    rintro e w3 ⟨rfl, q⟩
    have HQ : Hid _ := q
    clear q
    go_wp2_with fail
    exact ⟨rfl, rfl, HQ.out⟩
  | some nk =>
    obtain ⟨n, k2⟩ := nk
    have hR := HR.out
    rw [hnum] at hR
    simp only at hR
    obtain ⟨l1, l2, l3⟩ := numF_le hnum hk1s
    have HE : Hid _ := H1.out.num_ok hs hk1s hnum
    have HR2 : Hid _ := hR
    unfold Tok.val at HE
    obtain ⟨sd, hsd⟩ : ∃ sd, decide (k1 < k2) = sd := ⟨_, rfl⟩
    rw [hsd] at HE
    have HSD : Hid (decide (k1 < k2) = sd) := hsd
    clear hnum HR hR hsd
    go_wp2_with fail
    refine Calls.mono HE.out ?_
    rintro e w3 ⟨rfl, q⟩
    have f6 := q.nd.fz 6
    have g6 := q.nd.c6
    have H3 : Hid _ := q.set6 n
    clear q HE
    go_upto_region 4 with fail
    obtain ⟨w4, hw4⟩ : ∃ w4, w3.setCell ⟨nb, 6, none⟩ (.int .i64 n) = w4 := ⟨_, rfl⟩
    rw [hw4] at H3 ⊢
    clear hw4 f6 g6
    obtain ⟨cm, hcm⟩ : ∃ cm, pfx s k2 ⟨#[44]⟩ = cm := ⟨_, rfl⟩
    have HS : Hid (Calls Tryz.prog 92 #[.pointer (some ⟨rb, 0, none⟩), .string ⟨#[44]⟩] w4 fun e w' => e = .returned (.bool cm) ∧ Bs B rb s last r vn nb kv w.heap.size ⟨kd, c, pl⟩ w (if cm then k2 + 1 else k2) { op := 7, mn := n, mx := -1, lz := lz } w') := H3.out.skip hs l2 ⟨#[44]⟩ (by decide) hcm
    have hR := HR2.out
    rw [hcm] at hR
    have HR3 : Hid _ := hR
    have HCM : Hid (pfx s k2 ⟨#[44]⟩ = cm) := hcm
    clear HR2 hR hcm
    go_upto_if 30 with (go_at_call 92; refine Calls.mono HS.out ?_; rintro e w5 ⟨rfl, q⟩; have H5 : Hid _ := q; clear q)
    go_cut [] from 31 (fun wx => ∃ (k : Nat) (mx : Int), k ≤ s.size ∧ -1 ≤ mx ∧ mx ≤ 60 ∧ Bs B rb s last r vn nb kv w.heap.size ⟨kd, c, pl⟩ w k { op := 7, mn := n, mx := mx, lz := lz } wx ∧ finF s k n mx lz = R)
    case first =>
      cases cm with
      | true =>
        have hk3 : k2 + 1 ≤ s.size := by
          have := pfx_le HCM.out (by decide)
          have h1 : ByteArray.size ⟨#[44]⟩ = 1 := rfl
          omega
        simp only [if_true] at H5
        obtain ⟨⟨r0, r1, r2⟩, _⟩ := H5.out.tok.cells
        have hR := HR3.out
        simp only [if_true] at hR
        cases hnum : numF s (k2 + 1) with
        | none =>
          rw [hnum] at hR
          simp only at hR
          subst hR
          have HE : Hid _ := H5.out.num_no hs hk3 hnum HN.out.2 HN.out.1
          unfold Wrong Tok.val at HE
          clear hnum HR3
          go_wp2_with fail
          refine Calls.mono HE.out ?_
          rintro e w6 ⟨rfl, q⟩
          have HQ : Hid _ := q
          clear q
          go_wp2_with fail
          exact ⟨rfl, rfl, HQ.out⟩
        | some mk =>
          obtain ⟨m, k3⟩ := mk
          rw [hnum] at hR
          simp only at hR
          obtain ⟨m1, m2, m3⟩ := numF_le hnum hk3
          have HE : Hid _ := H5.out.num_ok hs hk3 hnum
          unfold Tok.val at HE
          have HR4 : Hid _ := hR
          clear hnum HR3 hR
          by_cases hsd2 : k2 + 1 < k3
          · rw [show decide (k2 + 1 < k3) = true by simp [hsd2]] at HE
            have HR5 : Hid (finF s k3 n m lz = R) := by have := HR4.out; rw [if_pos hsd2] at this; exact this
            clear hsd2 HR4
            go_wp2_with fail
            refine Calls.mono HE.out ?_
            rintro e w6 ⟨rfl, q⟩
            have f7 := q.nd.fz 7
            have g7 := q.nd.c7
            have H7 : Hid _ := q.set7 m
            clear q
            go_wp2_with fail
            go_meet
            case rel => exact ⟨k3, m, m2, by omega, by omega, H7.out, HR5.out⟩
          · rw [show decide (k2 + 1 < k3) = false by simp [hsd2]] at HE
            have HR5 : Hid (finF s k3 n (-1) lz = R) := by have := HR4.out; rw [if_neg hsd2] at this; exact this
            clear hsd2 HR4
            go_wp2_with fail
            refine Calls.mono HE.out ?_
            rintro e w6 ⟨rfl, q⟩
            have H7 : Hid _ := q
            clear q
            go_wp2_with fail
            go_meet
            case rel => exact ⟨k3, -1, m2, by omega, by omega, H7.out, HR5.out⟩
      | false =>
        simp only [Bool.false_eq_true, if_false] at H5
        have hR := HR3.out
        simp only [Bool.false_eq_true, if_false] at hR
        by_cases hsd2 : k1 < k2
        · have e1 := HSD.out
          rw [show decide (k1 < k2) = true by simp [hsd2]] at e1
          subst e1
          have HR5 : Hid (finF s k2 n n lz = R) := by have := hR; rw [if_pos hsd2] at this; exact this
          have f7 := H5.out.nd.fz 7
          have g7 := H5.out.nd.c7
          have H7 : Hid _ := H5.out.set7 n
          clear hsd2 hR HR3
          go_wp2_with fail
          go_meet
          case rel => exact ⟨k2, n, l2, by omega, by omega, H7.out, HR5.out⟩
        · have e1 := HSD.out
          rw [show decide (k1 < k2) = false by simp [hsd2]] at e1
          subst e1
          have HR5 : Hid (finF s k2 n (-1) lz = R) := by have := hR; rw [if_neg hsd2] at this; exact this
          clear hsd2 hR HR3
          go_wp2_with fail
          go_meet
          case rel => exact ⟨k2, -1, l2, by omega, by omega, H5.out, HR5.out⟩
    case rest =>
      obtain ⟨k, mx, hk, hm1, hm2, hBs, hR⟩ := hcut
      have HBs : Hid _ := hBs
      unfold finF at hR
      obtain ⟨y1, hy1⟩ : ∃ y1, pfx s k ⟨#[125]⟩ = y1 := ⟨_, rfl⟩
      obtain ⟨y2, hy2⟩ : ∃ y2, pfx s k ⟨#[92, 125]⟩ = y2 := ⟨_, rfl⟩
      rw [hy1, hy2] at hR
      have HR6 : Hid _ := hR
      have HDr : Hid (Bs B rb s last r vn nb kv w.heap.size ⟨kd, c, pl⟩ w k { op := 7, mn := n, mx := mx, lz := lz } wc.drew) := hBs.adv (hBs.rr.kp (kp_drew wc)) (Adv.kp vn rb (kp_drew wc))
      have HS1 : Hid _ := HDr.out.skip hs hk ⟨#[125]⟩ (by decide) hy1
      have HS2 : Hid (∀ x, Bs B rb s last r vn nb kv w.heap.size ⟨kd, c, pl⟩ w k { op := 7, mn := n, mx := mx, lz := lz } x → Calls Tryz.prog 92 #[.pointer (some ⟨rb, 0, none⟩), .string ⟨#[92, 125]⟩] x fun e w' => e = .returned (.bool y2) ∧ Bs B rb s last r vn nb kv w.heap.size ⟨kd, c, pl⟩ w (if y2 then k + 2 else k) { op := 7, mn := n, mx := mx, lz := lz } w') := fun x hx => hx.skip hs hk ⟨#[92, 125]⟩ (by decide) hy2
      have rl6 : ∀ w', NdBox nb { op := 7, mn := n, mx := mx, lz := lz } kv w' → w'.cell? ⟨nb, 6, none⟩ = some (.int .i64 n) := fun _ h => h.c6
      have rl7 : ∀ w', NdBox nb { op := 7, mn := n, mx := mx, lz := lz } kv w' → w'.cell? ⟨nb, 7, none⟩ = some (.int .i64 mx) := fun _ h => h.c7
      clear hBs hR hy1 hy2 HR3 HCM H3 H1 HB0
      cases y1 with
      | true =>
        go_wp2_with fail
        refine wp_region_noPanic ?_
        refine wp_region_held_drew (S := NdBox nb { op := 7, mn := n, mx := mx, lz := lz } kv) (by kernel_rfl) (HDr.out.nd) (fun hHeld => ?_)
        refine takeAt 0 (some 47) ?_ rfl rfl (by kernel_rfl) (by kernel_rfl) (by kernel_rfl) (fun _ _ _ h => h) (Or.inl ⟨by rfl, ?_⟩) hHeld ?_
        rotate_left
        · intro w hSw
          go_simp <;> with_reducible rfl
        try simp only [Act.put, List.setIfInBounds_toArray, List.set_cons_zero, List.set_cons_succ]
        refine takeAt 1 (some 48) ?_ rfl rfl (by kernel_rfl) (by kernel_rfl) (by kernel_rfl) (fun _ _ _ h => h) (Or.inl ⟨by rfl, ?_⟩) hHeld ?_
        rotate_left
        · intro w hSw
          go_simp <;> with_reducible rfl
        try simp only [Act.put, List.setIfInBounds_toArray, List.set_cons_zero, List.set_cons_succ]
        refine takeAt 2 (some 49) ?_ rfl rfl (by kernel_rfl) (by kernel_rfl) (by kernel_rfl) (fun _ _ _ h => h) (Or.inl ⟨by rfl, ?_⟩) hHeld ?_
        rotate_left
        · intro w hSw
          go_simp <;> with_reducible rfl
        try simp only [Act.put, List.setIfInBounds_toArray, List.set_cons_zero, List.set_cons_succ]
        refine callAt 3 50 92 (vals := #[.pointer (some ⟨rb, 0, none⟩), .string ⟨#[125]⟩]) (by kernel_rfl) rfl rfl rfl rfl (by simp [Act.eval]) Tryz.func92 (by kernel_rfl) (by kernel_rfl) ?_
        refine Calls.mono (HS1.out) ?_
        rintro e w7 ⟨rfl, q⟩
        have H7 : Hid _ := q
        clear q
        refine ⟨_, rfl, H7.out.nd, fun hHeld => ?_⟩
        try simp only [Act.put, List.setIfInBounds_toArray, List.set_cons_zero, List.set_cons_succ]
        refine takeAt 4 (some 51) ?_ rfl rfl (by kernel_rfl) (by kernel_rfl) (by kernel_rfl) (fun _ _ _ h => h) (Or.inl ⟨by rfl, ?_⟩) hHeld ?_
        rotate_left
        · intro w hSw
          go_simp <;> with_reducible rfl
        try simp only [Act.put, List.setIfInBounds_toArray, List.set_cons_zero, List.set_cons_succ]
        refine takeAt 5 (some 52) ?_ rfl rfl (by kernel_rfl) (by kernel_rfl) (by kernel_rfl) (fun _ _ _ h => h) (Or.inl ⟨by rfl, ?_⟩) hHeld ?_
        rotate_left
        · intro w hSw
          go_simp <;> with_reducible rfl
        try simp only [Act.put, List.setIfInBounds_toArray, List.set_cons_zero, List.set_cons_succ]
        refine takeAt 6 (some 53) undef rfl rfl (by kernel_rfl) (by kernel_rfl) (by kernel_rfl) (fun _ _ _ h => h) (Or.inr ⟨by rfl, rfl⟩) hHeld ?_
        try simp only [Act.put, List.setIfInBounds_toArray, List.set_cons_zero, List.set_cons_succ]
        refine takeAt 7 (some 54) undef rfl rfl (by kernel_rfl) (by kernel_rfl) (by kernel_rfl) (fun _ _ _ h => h) (Or.inr ⟨by rfl, rfl⟩) hHeld ?_
        try simp only [Act.put, List.setIfInBounds_toArray, List.set_cons_zero, List.set_cons_succ]
        refine takeAt 8 (some 55) undef rfl rfl (by kernel_rfl) (by kernel_rfl) (by kernel_rfl) (fun _ _ _ h => h) (Or.inr ⟨by rfl, rfl⟩) hHeld ?_
        try simp only [Act.put, List.setIfInBounds_toArray, List.set_cons_zero, List.set_cons_succ]
        refine takeAt 9 (some 56) undef rfl rfl (by kernel_rfl) (by kernel_rfl) (by kernel_rfl) (fun _ _ _ h => h) (Or.inr ⟨by rfl, rfl⟩) hHeld ?_
        try simp only [Act.put, List.setIfInBounds_toArray, List.set_cons_zero, List.set_cons_succ]
        refine takeAt 10 (some 57) undef rfl rfl (by kernel_rfl) (by kernel_rfl) (by kernel_rfl) (fun _ _ _ h => h) (Or.inr ⟨by rfl, rfl⟩) hHeld ?_
        try simp only [Act.put, List.setIfInBounds_toArray, List.set_cons_zero, List.set_cons_succ]
        refine takeAt 11 (some 58) ?_ rfl rfl (by kernel_rfl) (by kernel_rfl) (by kernel_rfl) (fun _ _ _ h => h) (Or.inl ⟨by rfl, ?_⟩) hHeld ?_
        rotate_left
        · intro w hSw
          go_simp <;> with_reducible rfl
        try simp only [Act.put, List.setIfInBounds_toArray, List.set_cons_zero, List.set_cons_succ]
        refine takeAt 12 (some 59) ?_ rfl rfl (by kernel_rfl) (by kernel_rfl) (by kernel_rfl) (fun _ _ _ h => h) (Or.inl ⟨by rfl, ?_⟩) hHeld ?_
        rotate_left
        · intro w hSw
          go_simp <;> with_reducible rfl
        try simp only [Act.put, List.setIfInBounds_toArray, List.set_cons_zero, List.set_cons_succ]
        by_cases hmx : 0 ≤ mx
        · have dm : decide ((0 : Int) ≤ mx) = true := by simp; omega
          refine takeAt 13 (some 60) ?_ rfl rfl (by kernel_rfl) (by kernel_rfl) (by kernel_rfl) (fun _ _ _ h => h) (Or.inl ⟨by rfl, ?_⟩) hHeld ?_
          rotate_left
          · intro w hSw
            go_simp <;> with_reducible rfl
          try simp only [Act.put, List.setIfInBounds_toArray, List.set_cons_zero, List.set_cons_succ]
          refine takeAt 14 (some 61) ?_ rfl rfl (by kernel_rfl) (by kernel_rfl) (by kernel_rfl) (fun _ _ _ h => h) (Or.inl ⟨by rfl, ?_⟩) hHeld ?_
          rotate_left
          · intro w hSw
            go_simp <;> with_reducible rfl
          try simp only [Act.put, List.setIfInBounds_toArray, List.set_cons_zero, List.set_cons_succ]
          refine takeAt 15 (some 62) ?_ rfl rfl (by kernel_rfl) (by kernel_rfl) (by kernel_rfl) (fun _ _ _ h => h) (Or.inl ⟨by rfl, ?_⟩) hHeld ?_
          rotate_left
          · intro w hSw
            go_simp <;> with_reducible rfl
          try simp only [Act.put, List.setIfInBounds_toArray, List.set_cons_zero, List.set_cons_succ]
          refine takeAt 16 (some 63) ?_ rfl rfl (by kernel_rfl) (by kernel_rfl) (by kernel_rfl) (fun _ _ _ h => h) (Or.inl ⟨by rfl, ?_⟩) hHeld ?_
          rotate_left
          · intro w hSw
            go_simp <;> with_reducible rfl
          try simp only [Act.put, List.setIfInBounds_toArray, List.set_cons_zero, List.set_cons_succ]
          refine takeAt 17 (some 64) ?_ rfl rfl (by kernel_rfl) (by kernel_rfl) (by kernel_rfl) (fun _ _ _ h => h) (Or.inl ⟨by rfl, ?_⟩) hHeld ?_
          rotate_left
          · intro w hSw
            go_simp <;> with_reducible rfl
          try simp only [Act.put, List.setIfInBounds_toArray, List.set_cons_zero, List.set_cons_succ]
          refine takeAt 18 (some 65) ?_ rfl rfl (by kernel_rfl) (by kernel_rfl) (by kernel_rfl) (fun _ _ _ h => h) (Or.inl ⟨by rfl, ?_⟩) hHeld ?_
          rotate_left
          · intro w hSw
            go_simp <;> with_reducible rfl
          try simp only [Act.put, List.setIfInBounds_toArray, List.set_cons_zero, List.set_cons_succ]
          refine takeAt 19 (some 66) ?_ rfl rfl (by kernel_rfl) (by kernel_rfl) (by kernel_rfl) (fun _ _ _ h => h) (Or.inl ⟨by rfl, ?_⟩) hHeld ?_
          rotate_left
          · intro w hSw
            go_simp <;> with_reducible rfl
          try simp only [Act.put, List.setIfInBounds_toArray, List.set_cons_zero, List.set_cons_succ]
          refine takeAt 20 (some 67) ?_ rfl rfl (by kernel_rfl) (by kernel_rfl) (by kernel_rfl) (fun _ _ _ h => h) (Or.inl ⟨by rfl, ?_⟩) hHeld ?_
          rotate_left
          · intro w hSw
            go_simp <;> with_reducible rfl
          try simp only [Act.put, List.setIfInBounds_toArray, List.set_cons_zero, List.set_cons_succ]
          refine takeAt 21 (some 68) ?_ rfl rfl (by kernel_rfl) (by kernel_rfl) (by kernel_rfl) (fun _ _ _ h => h) (Or.inl ⟨by rfl, ?_⟩) hHeld ?_
          rotate_left
          · intro w hSw
            go_simp <;> with_reducible rfl
          try simp only [Act.put, List.setIfInBounds_toArray, List.set_cons_zero, List.set_cons_succ]
          refine takeAt 22 (some 69) ?_ rfl rfl (by kernel_rfl) (by kernel_rfl) (by kernel_rfl) (fun _ _ _ h => h) (Or.inl ⟨by rfl, ?_⟩) hHeld ?_
          rotate_left
          · intro w hSw
            go_simp <;> with_reducible rfl
          try simp only [Act.put, List.setIfInBounds_toArray, List.set_cons_zero, List.set_cons_succ]
          refine takeAt 23 (some 70) ?_ rfl rfl (by kernel_rfl) (by kernel_rfl) (by kernel_rfl) (fun _ _ _ h => h) (Or.inl ⟨by rfl, ?_⟩) hHeld ?_
          rotate_left
          · intro w hSw
            go_simp <;> with_reducible rfl
          try simp only [Act.put, List.setIfInBounds_toArray, List.set_cons_zero, List.set_cons_succ]
          refine takeAt 24 (some 71) ?_ rfl rfl (by kernel_rfl) (by kernel_rfl) (by kernel_rfl) (fun _ _ _ h => h) (Or.inl ⟨by rfl, ?_⟩) hHeld ?_
          rotate_left
          · intro w hSw
            go_simp <;> with_reducible rfl
          try simp only [Act.put, List.setIfInBounds_toArray, List.set_cons_zero, List.set_cons_succ]
          refine takeAt 25 (some 72) ?_ rfl rfl (by kernel_rfl) (by kernel_rfl) (by kernel_rfl) (fun _ _ _ h => h) (Or.inl ⟨by rfl, ?_⟩) hHeld ?_
          rotate_left
          · intro w hSw
            go_simp <;> with_reducible rfl
          try simp only [Act.put, List.setIfInBounds_toArray, List.set_cons_zero, List.set_cons_succ]
          refine takeAt 26 (some 73) ?_ rfl rfl (by kernel_rfl) (by kernel_rfl) (by kernel_rfl) (fun _ _ _ h => h) (Or.inl ⟨by rfl, ?_⟩) hHeld ?_
          rotate_left
          · intro w hSw
            go_simp <;> with_reducible rfl
          try simp only [Act.put, List.setIfInBounds_toArray, List.set_cons_zero, List.set_cons_succ]
          refine takeAt 27 (some 74) ?_ rfl rfl (by kernel_rfl) (by kernel_rfl) (by kernel_rfl) (fun _ _ _ h => h) (Or.inl ⟨by rfl, ?_⟩) hHeld ?_
          rotate_left
          · intro w hSw
            go_simp <;> with_reducible rfl
          try simp only [Act.put, List.setIfInBounds_toArray, List.set_cons_zero, List.set_cons_succ]
          refine takeAt 28 (some 75) ?_ rfl rfl (by kernel_rfl) (by kernel_rfl) (by kernel_rfl) (fun _ _ _ h => h) (Or.inl ⟨by rfl, ?_⟩) hHeld ?_
          rotate_left
          · intro w hSw
            go_simp <;> with_reducible rfl
          try simp only [Act.put, List.setIfInBounds_toArray, List.set_cons_zero, List.set_cons_succ]
          refine takeAt 29 (some 76) ?_ rfl rfl (by kernel_rfl) (by kernel_rfl) (by kernel_rfl) (fun _ _ _ h => h) (Or.inl ⟨by rfl, ?_⟩) hHeld ?_
          rotate_left
          · intro w hSw
            go_simp <;> with_reducible rfl
          try simp only [Act.put, List.setIfInBounds_toArray, List.set_cons_zero, List.set_cons_succ]
          refine wpAnyH_done (by kernel_rfl) ?_ _
          refine NoPanic.normal ?_
          by_cases hlt : mx < n
          · have dl : decide (mx < (n : Int)) = true := by simp; omega
            have hR := HR6.out
            simp only [if_true, Bool.false_eq_true, if_false] at hR
            rw [if_pos ⟨hmx, hlt⟩] at hR
            subst hR
            obtain ⟨⟨r0, r1, r2⟩, _⟩ := H7.out.tok.cells
            clear HR6
            go_wp2_with fail
            exact ⟨rfl, rfl, H7.out.fr⟩
          · have dl : decide (mx < (n : Int)) = false := by simp; omega
            have hR := HR6.out
            simp only [if_true, Bool.false_eq_true, if_false] at hR
            rw [if_neg (by omega)] at hR
            subst hR
            clear HR6
            go_wp2_with fail
            go_end0
            exact ⟨rfl, H7.out.rr, H7.out.nd, H7.out.fr⟩
        · have dm : decide ((0 : Int) ≤ mx) = false := by simp; omega
          refine takeAt 13 (some 60) ?_ rfl rfl (by kernel_rfl) (by kernel_rfl) (by kernel_rfl) (fun _ _ _ h => h) (Or.inl ⟨by rfl, ?_⟩) hHeld ?_
          rotate_left
          · intro w hSw
            go_simp <;> with_reducible rfl
          try simp only [Act.put, List.setIfInBounds_toArray, List.set_cons_zero, List.set_cons_succ]
          refine takeAt 14 (some 61) ?_ rfl rfl (by kernel_rfl) (by kernel_rfl) (by kernel_rfl) (fun _ _ _ h => h) (Or.inl ⟨by rfl, ?_⟩) hHeld ?_
          rotate_left
          · intro w hSw
            go_simp <;> with_reducible rfl
          try simp only [Act.put, List.setIfInBounds_toArray, List.set_cons_zero, List.set_cons_succ]
          refine takeAt 15 (some 62) ?_ rfl rfl (by kernel_rfl) (by kernel_rfl) (by kernel_rfl) (fun _ _ _ h => h) (Or.inl ⟨by rfl, ?_⟩) hHeld ?_
          rotate_left
          · intro w hSw
            go_simp <;> with_reducible rfl
          try simp only [Act.put, List.setIfInBounds_toArray, List.set_cons_zero, List.set_cons_succ]
          refine takeAt 16 (some 63) ?_ rfl rfl (by kernel_rfl) (by kernel_rfl) (by kernel_rfl) (fun _ _ _ h => h) (Or.inl ⟨by rfl, ?_⟩) hHeld ?_
          rotate_left
          · intro w hSw
            go_simp <;> with_reducible rfl
          try simp only [Act.put, List.setIfInBounds_toArray, List.set_cons_zero, List.set_cons_succ]
          refine takeAt 17 (some 64) ?_ rfl rfl (by kernel_rfl) (by kernel_rfl) (by kernel_rfl) (fun _ _ _ h => h) (Or.inl ⟨by rfl, ?_⟩) hHeld ?_
          rotate_left
          · intro w hSw
            go_simp <;> with_reducible rfl
          try simp only [Act.put, List.setIfInBounds_toArray, List.set_cons_zero, List.set_cons_succ]
          refine takeAt 18 (some 65) ?_ rfl rfl (by kernel_rfl) (by kernel_rfl) (by kernel_rfl) (fun _ _ _ h => h) (Or.inl ⟨by rfl, ?_⟩) hHeld ?_
          rotate_left
          · intro w hSw
            go_simp <;> with_reducible rfl
          try simp only [Act.put, List.setIfInBounds_toArray, List.set_cons_zero, List.set_cons_succ]
          refine takeAt 19 (some 66) undef rfl rfl (by kernel_rfl) (by kernel_rfl) (by kernel_rfl) (fun _ _ _ h => h) (Or.inr ⟨by rfl, rfl⟩) hHeld ?_
          try simp only [Act.put, List.setIfInBounds_toArray, List.set_cons_zero, List.set_cons_succ]
          refine takeAt 20 (some 67) undef rfl rfl (by kernel_rfl) (by kernel_rfl) (by kernel_rfl) (fun _ _ _ h => h) (Or.inr ⟨by rfl, rfl⟩) hHeld ?_
          try simp only [Act.put, List.setIfInBounds_toArray, List.set_cons_zero, List.set_cons_succ]
          refine takeAt 21 (some 68) undef rfl rfl (by kernel_rfl) (by kernel_rfl) (by kernel_rfl) (fun _ _ _ h => h) (Or.inr ⟨by rfl, rfl⟩) hHeld ?_
          try simp only [Act.put, List.setIfInBounds_toArray, List.set_cons_zero, List.set_cons_succ]
          refine takeAt 22 (some 69) undef rfl rfl (by kernel_rfl) (by kernel_rfl) (by kernel_rfl) (fun _ _ _ h => h) (Or.inr ⟨by rfl, rfl⟩) hHeld ?_
          try simp only [Act.put, List.setIfInBounds_toArray, List.set_cons_zero, List.set_cons_succ]
          refine takeAt 23 (some 70) undef rfl rfl (by kernel_rfl) (by kernel_rfl) (by kernel_rfl) (fun _ _ _ h => h) (Or.inr ⟨by rfl, rfl⟩) hHeld ?_
          try simp only [Act.put, List.setIfInBounds_toArray, List.set_cons_zero, List.set_cons_succ]
          refine takeAt 24 (some 71) undef rfl rfl (by kernel_rfl) (by kernel_rfl) (by kernel_rfl) (fun _ _ _ h => h) (Or.inr ⟨by rfl, rfl⟩) hHeld ?_
          try simp only [Act.put, List.setIfInBounds_toArray, List.set_cons_zero, List.set_cons_succ]
          refine takeAt 25 (some 72) undef rfl rfl (by kernel_rfl) (by kernel_rfl) (by kernel_rfl) (fun _ _ _ h => h) (Or.inr ⟨by rfl, rfl⟩) hHeld ?_
          try simp only [Act.put, List.setIfInBounds_toArray, List.set_cons_zero, List.set_cons_succ]
          refine takeAt 26 (some 73) undef rfl rfl (by kernel_rfl) (by kernel_rfl) (by kernel_rfl) (fun _ _ _ h => h) (Or.inr ⟨by rfl, rfl⟩) hHeld ?_
          try simp only [Act.put, List.setIfInBounds_toArray, List.set_cons_zero, List.set_cons_succ]
          refine takeAt 27 (some 74) undef rfl rfl (by kernel_rfl) (by kernel_rfl) (by kernel_rfl) (fun _ _ _ h => h) (Or.inr ⟨by rfl, rfl⟩) hHeld ?_
          try simp only [Act.put, List.setIfInBounds_toArray, List.set_cons_zero, List.set_cons_succ]
          refine takeAt 28 (some 75) ?_ rfl rfl (by kernel_rfl) (by kernel_rfl) (by kernel_rfl) (fun _ _ _ h => h) (Or.inl ⟨by rfl, ?_⟩) hHeld ?_
          rotate_left
          · intro w hSw
            go_simp <;> with_reducible rfl
          try simp only [Act.put, List.setIfInBounds_toArray, List.set_cons_zero, List.set_cons_succ]
          refine takeAt 29 (some 76) ?_ rfl rfl (by kernel_rfl) (by kernel_rfl) (by kernel_rfl) (fun _ _ _ h => h) (Or.inl ⟨by rfl, ?_⟩) hHeld ?_
          rotate_left
          · intro w hSw
            go_simp <;> with_reducible rfl
          try simp only [Act.put, List.setIfInBounds_toArray, List.set_cons_zero, List.set_cons_succ]
          refine wpAnyH_done (by kernel_rfl) ?_ _
          refine NoPanic.normal ?_
          have hR := HR6.out
          simp only [if_true, Bool.false_eq_true, if_false] at hR
          rw [if_neg (by omega)] at hR
          subst hR
          clear HR6
          go_wp2_with fail
          go_end0
          exact ⟨rfl, H7.out.rr, H7.out.nd, H7.out.fr⟩
      | false =>
        cases y2 with
        | true =>
          go_wp2_with fail
          refine wp_region_noPanic ?_
          refine wp_region_held_drew (S := NdBox nb { op := 7, mn := n, mx := mx, lz := lz } kv) (by kernel_rfl) (HDr.out.nd) (fun hHeld => ?_)
          refine takeAt 0 (some 47) ?_ rfl rfl (by kernel_rfl) (by kernel_rfl) (by kernel_rfl) (fun _ _ _ h => h) (Or.inl ⟨by rfl, ?_⟩) hHeld ?_
          rotate_left
          · intro w hSw
            go_simp <;> with_reducible rfl
          try simp only [Act.put, List.setIfInBounds_toArray, List.set_cons_zero, List.set_cons_succ]
          refine takeAt 1 (some 48) ?_ rfl rfl (by kernel_rfl) (by kernel_rfl) (by kernel_rfl) (fun _ _ _ h => h) (Or.inl ⟨by rfl, ?_⟩) hHeld ?_
          rotate_left
          · intro w hSw
            go_simp <;> with_reducible rfl
          try simp only [Act.put, List.setIfInBounds_toArray, List.set_cons_zero, List.set_cons_succ]
          refine takeAt 2 (some 49) ?_ rfl rfl (by kernel_rfl) (by kernel_rfl) (by kernel_rfl) (fun _ _ _ h => h) (Or.inl ⟨by rfl, ?_⟩) hHeld ?_
          rotate_left
          · intro w hSw
            go_simp <;> with_reducible rfl
          try simp only [Act.put, List.setIfInBounds_toArray, List.set_cons_zero, List.set_cons_succ]
          refine callAt 3 50 92 (vals := #[.pointer (some ⟨rb, 0, none⟩), .string ⟨#[125]⟩]) (by kernel_rfl) rfl rfl rfl rfl (by simp [Act.eval]) Tryz.func92 (by kernel_rfl) (by kernel_rfl) ?_
          refine Calls.mono (HS1.out) ?_
          rintro e w7 ⟨rfl, q⟩
          have H7 : Hid _ := q
          clear q
          refine ⟨_, rfl, H7.out.nd, fun hHeld => ?_⟩
          try simp only [Act.put, List.setIfInBounds_toArray, List.set_cons_zero, List.set_cons_succ]
          refine takeAt 4 (some 51) ?_ rfl rfl (by kernel_rfl) (by kernel_rfl) (by kernel_rfl) (fun _ _ _ h => h) (Or.inl ⟨by rfl, ?_⟩) hHeld ?_
          rotate_left
          · intro w hSw
            go_simp <;> with_reducible rfl
          try simp only [Act.put, List.setIfInBounds_toArray, List.set_cons_zero, List.set_cons_succ]
          refine takeAt 5 (some 52) ?_ rfl rfl (by kernel_rfl) (by kernel_rfl) (by kernel_rfl) (fun _ _ _ h => h) (Or.inl ⟨by rfl, ?_⟩) hHeld ?_
          rotate_left
          · intro w hSw
            go_simp <;> with_reducible rfl
          try simp only [Act.put, List.setIfInBounds_toArray, List.set_cons_zero, List.set_cons_succ]
          refine takeAt 6 (some 53) ?_ rfl rfl (by kernel_rfl) (by kernel_rfl) (by kernel_rfl) (fun _ _ _ h => h) (Or.inl ⟨by rfl, ?_⟩) hHeld ?_
          rotate_left
          · intro w hSw
            go_simp <;> with_reducible rfl
          try simp only [Act.put, List.setIfInBounds_toArray, List.set_cons_zero, List.set_cons_succ]
          refine takeAt 7 (some 54) ?_ rfl rfl (by kernel_rfl) (by kernel_rfl) (by kernel_rfl) (fun _ _ _ h => h) (Or.inl ⟨by rfl, ?_⟩) hHeld ?_
          rotate_left
          · intro w hSw
            go_simp <;> with_reducible rfl
          try simp only [Act.put, List.setIfInBounds_toArray, List.set_cons_zero, List.set_cons_succ]
          refine takeAt 8 (some 55) ?_ rfl rfl (by kernel_rfl) (by kernel_rfl) (by kernel_rfl) (fun _ _ _ h => h) (Or.inl ⟨by rfl, ?_⟩) hHeld ?_
          rotate_left
          · intro w hSw
            go_simp <;> with_reducible rfl
          try simp only [Act.put, List.setIfInBounds_toArray, List.set_cons_zero, List.set_cons_succ]
          refine callAtG 9 56 92 (vals := #[.pointer (some ⟨rb, 0, none⟩), .string ⟨#[92, 125]⟩]) (by kernel_rfl) rfl rfl rfl (by rfl) (by simp [Act.eval]) Tryz.func92 (by kernel_rfl) (by kernel_rfl) ?_
          refine Calls.mono (HS2.out _ H7.out) ?_
          rintro e w8 ⟨rfl, q⟩
          have H8 : Hid _ := q
          clear q
          refine ⟨_, rfl, H8.out.nd, fun hHeld => ?_⟩
          try simp only [Act.put, List.setIfInBounds_toArray, List.set_cons_zero, List.set_cons_succ]
          refine takeAt 10 (some 57) ?_ rfl rfl (by kernel_rfl) (by kernel_rfl) (by kernel_rfl) (fun _ _ _ h => h) (Or.inl ⟨by rfl, ?_⟩) hHeld ?_
          rotate_left
          · intro w hSw
            go_simp <;> with_reducible rfl
          try simp only [Act.put, List.setIfInBounds_toArray, List.set_cons_zero, List.set_cons_succ]
          refine takeAt 11 (some 58) ?_ rfl rfl (by kernel_rfl) (by kernel_rfl) (by kernel_rfl) (fun _ _ _ h => h) (Or.inl ⟨by rfl, ?_⟩) hHeld ?_
          rotate_left
          · intro w hSw
            go_simp <;> with_reducible rfl
          try simp only [Act.put, List.setIfInBounds_toArray, List.set_cons_zero, List.set_cons_succ]
          refine takeAt 12 (some 59) ?_ rfl rfl (by kernel_rfl) (by kernel_rfl) (by kernel_rfl) (fun _ _ _ h => h) (Or.inl ⟨by rfl, ?_⟩) hHeld ?_
          rotate_left
          · intro w hSw
            go_simp <;> with_reducible rfl
          try simp only [Act.put, List.setIfInBounds_toArray, List.set_cons_zero, List.set_cons_succ]
          by_cases hmx : 0 ≤ mx
          · have dm : decide ((0 : Int) ≤ mx) = true := by simp; omega
            refine takeAt 13 (some 60) ?_ rfl rfl (by kernel_rfl) (by kernel_rfl) (by kernel_rfl) (fun _ _ _ h => h) (Or.inl ⟨by rfl, ?_⟩) hHeld ?_
            rotate_left
            · intro w hSw
              go_simp <;> with_reducible rfl
            try simp only [Act.put, List.setIfInBounds_toArray, List.set_cons_zero, List.set_cons_succ]
            refine takeAt 14 (some 61) ?_ rfl rfl (by kernel_rfl) (by kernel_rfl) (by kernel_rfl) (fun _ _ _ h => h) (Or.inl ⟨by rfl, ?_⟩) hHeld ?_
            rotate_left
            · intro w hSw
              go_simp <;> with_reducible rfl
            try simp only [Act.put, List.setIfInBounds_toArray, List.set_cons_zero, List.set_cons_succ]
            refine takeAt 15 (some 62) ?_ rfl rfl (by kernel_rfl) (by kernel_rfl) (by kernel_rfl) (fun _ _ _ h => h) (Or.inl ⟨by rfl, ?_⟩) hHeld ?_
            rotate_left
            · intro w hSw
              go_simp <;> with_reducible rfl
            try simp only [Act.put, List.setIfInBounds_toArray, List.set_cons_zero, List.set_cons_succ]
            refine takeAt 16 (some 63) ?_ rfl rfl (by kernel_rfl) (by kernel_rfl) (by kernel_rfl) (fun _ _ _ h => h) (Or.inl ⟨by rfl, ?_⟩) hHeld ?_
            rotate_left
            · intro w hSw
              go_simp <;> with_reducible rfl
            try simp only [Act.put, List.setIfInBounds_toArray, List.set_cons_zero, List.set_cons_succ]
            refine takeAt 17 (some 64) ?_ rfl rfl (by kernel_rfl) (by kernel_rfl) (by kernel_rfl) (fun _ _ _ h => h) (Or.inl ⟨by rfl, ?_⟩) hHeld ?_
            rotate_left
            · intro w hSw
              go_simp <;> with_reducible rfl
            try simp only [Act.put, List.setIfInBounds_toArray, List.set_cons_zero, List.set_cons_succ]
            refine takeAt 18 (some 65) ?_ rfl rfl (by kernel_rfl) (by kernel_rfl) (by kernel_rfl) (fun _ _ _ h => h) (Or.inl ⟨by rfl, ?_⟩) hHeld ?_
            rotate_left
            · intro w hSw
              go_simp <;> with_reducible rfl
            try simp only [Act.put, List.setIfInBounds_toArray, List.set_cons_zero, List.set_cons_succ]
            refine takeAt 19 (some 66) ?_ rfl rfl (by kernel_rfl) (by kernel_rfl) (by kernel_rfl) (fun _ _ _ h => h) (Or.inl ⟨by rfl, ?_⟩) hHeld ?_
            rotate_left
            · intro w hSw
              go_simp <;> with_reducible rfl
            try simp only [Act.put, List.setIfInBounds_toArray, List.set_cons_zero, List.set_cons_succ]
            refine takeAt 20 (some 67) ?_ rfl rfl (by kernel_rfl) (by kernel_rfl) (by kernel_rfl) (fun _ _ _ h => h) (Or.inl ⟨by rfl, ?_⟩) hHeld ?_
            rotate_left
            · intro w hSw
              go_simp <;> with_reducible rfl
            try simp only [Act.put, List.setIfInBounds_toArray, List.set_cons_zero, List.set_cons_succ]
            refine takeAt 21 (some 68) ?_ rfl rfl (by kernel_rfl) (by kernel_rfl) (by kernel_rfl) (fun _ _ _ h => h) (Or.inl ⟨by rfl, ?_⟩) hHeld ?_
            rotate_left
            · intro w hSw
              go_simp <;> with_reducible rfl
            try simp only [Act.put, List.setIfInBounds_toArray, List.set_cons_zero, List.set_cons_succ]
            refine takeAt 22 (some 69) ?_ rfl rfl (by kernel_rfl) (by kernel_rfl) (by kernel_rfl) (fun _ _ _ h => h) (Or.inl ⟨by rfl, ?_⟩) hHeld ?_
            rotate_left
            · intro w hSw
              go_simp <;> with_reducible rfl
            try simp only [Act.put, List.setIfInBounds_toArray, List.set_cons_zero, List.set_cons_succ]
            refine takeAt 23 (some 70) ?_ rfl rfl (by kernel_rfl) (by kernel_rfl) (by kernel_rfl) (fun _ _ _ h => h) (Or.inl ⟨by rfl, ?_⟩) hHeld ?_
            rotate_left
            · intro w hSw
              go_simp <;> with_reducible rfl
            try simp only [Act.put, List.setIfInBounds_toArray, List.set_cons_zero, List.set_cons_succ]
            refine takeAt 24 (some 71) ?_ rfl rfl (by kernel_rfl) (by kernel_rfl) (by kernel_rfl) (fun _ _ _ h => h) (Or.inl ⟨by rfl, ?_⟩) hHeld ?_
            rotate_left
            · intro w hSw
              go_simp <;> with_reducible rfl
            try simp only [Act.put, List.setIfInBounds_toArray, List.set_cons_zero, List.set_cons_succ]
            refine takeAt 25 (some 72) ?_ rfl rfl (by kernel_rfl) (by kernel_rfl) (by kernel_rfl) (fun _ _ _ h => h) (Or.inl ⟨by rfl, ?_⟩) hHeld ?_
            rotate_left
            · intro w hSw
              go_simp <;> with_reducible rfl
            try simp only [Act.put, List.setIfInBounds_toArray, List.set_cons_zero, List.set_cons_succ]
            refine takeAt 26 (some 73) ?_ rfl rfl (by kernel_rfl) (by kernel_rfl) (by kernel_rfl) (fun _ _ _ h => h) (Or.inl ⟨by rfl, ?_⟩) hHeld ?_
            rotate_left
            · intro w hSw
              go_simp <;> with_reducible rfl
            try simp only [Act.put, List.setIfInBounds_toArray, List.set_cons_zero, List.set_cons_succ]
            refine takeAt 27 (some 74) ?_ rfl rfl (by kernel_rfl) (by kernel_rfl) (by kernel_rfl) (fun _ _ _ h => h) (Or.inl ⟨by rfl, ?_⟩) hHeld ?_
            rotate_left
            · intro w hSw
              go_simp <;> with_reducible rfl
            try simp only [Act.put, List.setIfInBounds_toArray, List.set_cons_zero, List.set_cons_succ]
            refine takeAt 28 (some 75) ?_ rfl rfl (by kernel_rfl) (by kernel_rfl) (by kernel_rfl) (fun _ _ _ h => h) (Or.inl ⟨by rfl, ?_⟩) hHeld ?_
            rotate_left
            · intro w hSw
              go_simp <;> with_reducible rfl
            try simp only [Act.put, List.setIfInBounds_toArray, List.set_cons_zero, List.set_cons_succ]
            refine takeAt 29 (some 76) ?_ rfl rfl (by kernel_rfl) (by kernel_rfl) (by kernel_rfl) (fun _ _ _ h => h) (Or.inl ⟨by rfl, ?_⟩) hHeld ?_
            rotate_left
            · intro w hSw
              go_simp <;> with_reducible rfl
            try simp only [Act.put, List.setIfInBounds_toArray, List.set_cons_zero, List.set_cons_succ]
            refine wpAnyH_done (by kernel_rfl) ?_ _
            refine NoPanic.normal ?_
            by_cases hlt : mx < n
            · have dl : decide (mx < (n : Int)) = true := by simp; omega
              have hR := HR6.out
              simp only [if_true, Bool.false_eq_true, if_false] at hR
              rw [if_pos ⟨hmx, hlt⟩] at hR
              subst hR
              obtain ⟨⟨r0, r1, r2⟩, _⟩ := H8.out.tok.cells
              clear HR6
              go_wp2_with fail
              exact ⟨rfl, rfl, H8.out.fr⟩
            · have dl : decide (mx < (n : Int)) = false := by simp; omega
              have hR := HR6.out
              simp only [if_true, Bool.false_eq_true, if_false] at hR
              rw [if_neg (by omega)] at hR
              subst hR
              clear HR6
              go_wp2_with fail
              go_end0
              exact ⟨rfl, H8.out.rr, H8.out.nd, H8.out.fr⟩
          · have dm : decide ((0 : Int) ≤ mx) = false := by simp; omega
            refine takeAt 13 (some 60) ?_ rfl rfl (by kernel_rfl) (by kernel_rfl) (by kernel_rfl) (fun _ _ _ h => h) (Or.inl ⟨by rfl, ?_⟩) hHeld ?_
            rotate_left
            · intro w hSw
              go_simp <;> with_reducible rfl
            try simp only [Act.put, List.setIfInBounds_toArray, List.set_cons_zero, List.set_cons_succ]
            refine takeAt 14 (some 61) ?_ rfl rfl (by kernel_rfl) (by kernel_rfl) (by kernel_rfl) (fun _ _ _ h => h) (Or.inl ⟨by rfl, ?_⟩) hHeld ?_
            rotate_left
            · intro w hSw
              go_simp <;> with_reducible rfl
            try simp only [Act.put, List.setIfInBounds_toArray, List.set_cons_zero, List.set_cons_succ]
            refine takeAt 15 (some 62) ?_ rfl rfl (by kernel_rfl) (by kernel_rfl) (by kernel_rfl) (fun _ _ _ h => h) (Or.inl ⟨by rfl, ?_⟩) hHeld ?_
            rotate_left
            · intro w hSw
              go_simp <;> with_reducible rfl
            try simp only [Act.put, List.setIfInBounds_toArray, List.set_cons_zero, List.set_cons_succ]
            refine takeAt 16 (some 63) ?_ rfl rfl (by kernel_rfl) (by kernel_rfl) (by kernel_rfl) (fun _ _ _ h => h) (Or.inl ⟨by rfl, ?_⟩) hHeld ?_
            rotate_left
            · intro w hSw
              go_simp <;> with_reducible rfl
            try simp only [Act.put, List.setIfInBounds_toArray, List.set_cons_zero, List.set_cons_succ]
            refine takeAt 17 (some 64) ?_ rfl rfl (by kernel_rfl) (by kernel_rfl) (by kernel_rfl) (fun _ _ _ h => h) (Or.inl ⟨by rfl, ?_⟩) hHeld ?_
            rotate_left
            · intro w hSw
              go_simp <;> with_reducible rfl
            try simp only [Act.put, List.setIfInBounds_toArray, List.set_cons_zero, List.set_cons_succ]
            refine takeAt 18 (some 65) ?_ rfl rfl (by kernel_rfl) (by kernel_rfl) (by kernel_rfl) (fun _ _ _ h => h) (Or.inl ⟨by rfl, ?_⟩) hHeld ?_
            rotate_left
            · intro w hSw
              go_simp <;> with_reducible rfl
            try simp only [Act.put, List.setIfInBounds_toArray, List.set_cons_zero, List.set_cons_succ]
            refine takeAt 19 (some 66) undef rfl rfl (by kernel_rfl) (by kernel_rfl) (by kernel_rfl) (fun _ _ _ h => h) (Or.inr ⟨by rfl, rfl⟩) hHeld ?_
            try simp only [Act.put, List.setIfInBounds_toArray, List.set_cons_zero, List.set_cons_succ]
            refine takeAt 20 (some 67) undef rfl rfl (by kernel_rfl) (by kernel_rfl) (by kernel_rfl) (fun _ _ _ h => h) (Or.inr ⟨by rfl, rfl⟩) hHeld ?_
            try simp only [Act.put, List.setIfInBounds_toArray, List.set_cons_zero, List.set_cons_succ]
            refine takeAt 21 (some 68) undef rfl rfl (by kernel_rfl) (by kernel_rfl) (by kernel_rfl) (fun _ _ _ h => h) (Or.inr ⟨by rfl, rfl⟩) hHeld ?_
            try simp only [Act.put, List.setIfInBounds_toArray, List.set_cons_zero, List.set_cons_succ]
            refine takeAt 22 (some 69) undef rfl rfl (by kernel_rfl) (by kernel_rfl) (by kernel_rfl) (fun _ _ _ h => h) (Or.inr ⟨by rfl, rfl⟩) hHeld ?_
            try simp only [Act.put, List.setIfInBounds_toArray, List.set_cons_zero, List.set_cons_succ]
            refine takeAt 23 (some 70) undef rfl rfl (by kernel_rfl) (by kernel_rfl) (by kernel_rfl) (fun _ _ _ h => h) (Or.inr ⟨by rfl, rfl⟩) hHeld ?_
            try simp only [Act.put, List.setIfInBounds_toArray, List.set_cons_zero, List.set_cons_succ]
            refine takeAt 24 (some 71) undef rfl rfl (by kernel_rfl) (by kernel_rfl) (by kernel_rfl) (fun _ _ _ h => h) (Or.inr ⟨by rfl, rfl⟩) hHeld ?_
            try simp only [Act.put, List.setIfInBounds_toArray, List.set_cons_zero, List.set_cons_succ]
            refine takeAt 25 (some 72) undef rfl rfl (by kernel_rfl) (by kernel_rfl) (by kernel_rfl) (fun _ _ _ h => h) (Or.inr ⟨by rfl, rfl⟩) hHeld ?_
            try simp only [Act.put, List.setIfInBounds_toArray, List.set_cons_zero, List.set_cons_succ]
            refine takeAt 26 (some 73) undef rfl rfl (by kernel_rfl) (by kernel_rfl) (by kernel_rfl) (fun _ _ _ h => h) (Or.inr ⟨by rfl, rfl⟩) hHeld ?_
            try simp only [Act.put, List.setIfInBounds_toArray, List.set_cons_zero, List.set_cons_succ]
            refine takeAt 27 (some 74) undef rfl rfl (by kernel_rfl) (by kernel_rfl) (by kernel_rfl) (fun _ _ _ h => h) (Or.inr ⟨by rfl, rfl⟩) hHeld ?_
            try simp only [Act.put, List.setIfInBounds_toArray, List.set_cons_zero, List.set_cons_succ]
            refine takeAt 28 (some 75) ?_ rfl rfl (by kernel_rfl) (by kernel_rfl) (by kernel_rfl) (fun _ _ _ h => h) (Or.inl ⟨by rfl, ?_⟩) hHeld ?_
            rotate_left
            · intro w hSw
              go_simp <;> with_reducible rfl
            try simp only [Act.put, List.setIfInBounds_toArray, List.set_cons_zero, List.set_cons_succ]
            refine takeAt 29 (some 76) ?_ rfl rfl (by kernel_rfl) (by kernel_rfl) (by kernel_rfl) (fun _ _ _ h => h) (Or.inl ⟨by rfl, ?_⟩) hHeld ?_
            rotate_left
            · intro w hSw
              go_simp <;> with_reducible rfl
            try simp only [Act.put, List.setIfInBounds_toArray, List.set_cons_zero, List.set_cons_succ]
            refine wpAnyH_done (by kernel_rfl) ?_ _
            refine NoPanic.normal ?_
            have hR := HR6.out
            simp only [if_true, Bool.false_eq_true, if_false] at hR
            rw [if_neg (by omega)] at hR
            subst hR
            clear HR6
            go_wp2_with fail
            go_end0
            exact ⟨rfl, H8.out.rr, H8.out.nd, H8.out.fr⟩
        | false =>
          go_wp2_with fail
          refine wp_region_noPanic ?_
          refine wp_region_held_drew (S := NdBox nb { op := 7, mn := n, mx := mx, lz := lz } kv) (by kernel_rfl) (HDr.out.nd) (fun hHeld => ?_)
          refine takeAt 0 (some 47) ?_ rfl rfl (by kernel_rfl) (by kernel_rfl) (by kernel_rfl) (fun _ _ _ h => h) (Or.inl ⟨by rfl, ?_⟩) hHeld ?_
          rotate_left
          · intro w hSw
            go_simp <;> with_reducible rfl
          try simp only [Act.put, List.setIfInBounds_toArray, List.set_cons_zero, List.set_cons_succ]
          refine takeAt 1 (some 48) ?_ rfl rfl (by kernel_rfl) (by kernel_rfl) (by kernel_rfl) (fun _ _ _ h => h) (Or.inl ⟨by rfl, ?_⟩) hHeld ?_
          rotate_left
          · intro w hSw
            go_simp <;> with_reducible rfl
          try simp only [Act.put, List.setIfInBounds_toArray, List.set_cons_zero, List.set_cons_succ]
          refine takeAt 2 (some 49) ?_ rfl rfl (by kernel_rfl) (by kernel_rfl) (by kernel_rfl) (fun _ _ _ h => h) (Or.inl ⟨by rfl, ?_⟩) hHeld ?_
          rotate_left
          · intro w hSw
            go_simp <;> with_reducible rfl
          try simp only [Act.put, List.setIfInBounds_toArray, List.set_cons_zero, List.set_cons_succ]
          refine callAt 3 50 92 (vals := #[.pointer (some ⟨rb, 0, none⟩), .string ⟨#[125]⟩]) (by kernel_rfl) rfl rfl rfl rfl (by simp [Act.eval]) Tryz.func92 (by kernel_rfl) (by kernel_rfl) ?_
          refine Calls.mono (HS1.out) ?_
          rintro e w7 ⟨rfl, q⟩
          have H7 : Hid _ := q
          clear q
          refine ⟨_, rfl, H7.out.nd, fun hHeld => ?_⟩
          try simp only [Act.put, List.setIfInBounds_toArray, List.set_cons_zero, List.set_cons_succ]
          refine takeAt 4 (some 51) ?_ rfl rfl (by kernel_rfl) (by kernel_rfl) (by kernel_rfl) (fun _ _ _ h => h) (Or.inl ⟨by rfl, ?_⟩) hHeld ?_
          rotate_left
          · intro w hSw
            go_simp <;> with_reducible rfl
          try simp only [Act.put, List.setIfInBounds_toArray, List.set_cons_zero, List.set_cons_succ]
          refine takeAt 5 (some 52) ?_ rfl rfl (by kernel_rfl) (by kernel_rfl) (by kernel_rfl) (fun _ _ _ h => h) (Or.inl ⟨by rfl, ?_⟩) hHeld ?_
          rotate_left
          · intro w hSw
            go_simp <;> with_reducible rfl
          try simp only [Act.put, List.setIfInBounds_toArray, List.set_cons_zero, List.set_cons_succ]
          refine takeAt 6 (some 53) ?_ rfl rfl (by kernel_rfl) (by kernel_rfl) (by kernel_rfl) (fun _ _ _ h => h) (Or.inl ⟨by rfl, ?_⟩) hHeld ?_
          rotate_left
          · intro w hSw
            go_simp <;> with_reducible rfl
          try simp only [Act.put, List.setIfInBounds_toArray, List.set_cons_zero, List.set_cons_succ]
          refine takeAt 7 (some 54) ?_ rfl rfl (by kernel_rfl) (by kernel_rfl) (by kernel_rfl) (fun _ _ _ h => h) (Or.inl ⟨by rfl, ?_⟩) hHeld ?_
          rotate_left
          · intro w hSw
            go_simp <;> with_reducible rfl
          try simp only [Act.put, List.setIfInBounds_toArray, List.set_cons_zero, List.set_cons_succ]
          refine takeAt 8 (some 55) ?_ rfl rfl (by kernel_rfl) (by kernel_rfl) (by kernel_rfl) (fun _ _ _ h => h) (Or.inl ⟨by rfl, ?_⟩) hHeld ?_
          rotate_left
          · intro w hSw
            go_simp <;> with_reducible rfl
          try simp only [Act.put, List.setIfInBounds_toArray, List.set_cons_zero, List.set_cons_succ]
          refine callAtG 9 56 92 (vals := #[.pointer (some ⟨rb, 0, none⟩), .string ⟨#[92, 125]⟩]) (by kernel_rfl) rfl rfl rfl (by rfl) (by simp [Act.eval]) Tryz.func92 (by kernel_rfl) (by kernel_rfl) ?_
          refine Calls.mono (HS2.out _ H7.out) ?_
          rintro e w8 ⟨rfl, q⟩
          have H8 : Hid _ := q
          clear q
          refine ⟨_, rfl, H8.out.nd, fun hHeld => ?_⟩
          try simp only [Act.put, List.setIfInBounds_toArray, List.set_cons_zero, List.set_cons_succ]
          refine takeAt 10 (some 57) ?_ rfl rfl (by kernel_rfl) (by kernel_rfl) (by kernel_rfl) (fun _ _ _ h => h) (Or.inl ⟨by rfl, ?_⟩) hHeld ?_
          rotate_left
          · intro w hSw
            go_simp <;> with_reducible rfl
          try simp only [Act.put, List.setIfInBounds_toArray, List.set_cons_zero, List.set_cons_succ]
          refine takeAt 11 (some 58) ?_ rfl rfl (by kernel_rfl) (by kernel_rfl) (by kernel_rfl) (fun _ _ _ h => h) (Or.inl ⟨by rfl, ?_⟩) hHeld ?_
          rotate_left
          · intro w hSw
            go_simp <;> with_reducible rfl
          try simp only [Act.put, List.setIfInBounds_toArray, List.set_cons_zero, List.set_cons_succ]
          refine takeAt 12 (some 59) ?_ rfl rfl (by kernel_rfl) (by kernel_rfl) (by kernel_rfl) (fun _ _ _ h => h) (Or.inl ⟨by rfl, ?_⟩) hHeld ?_
          rotate_left
          · intro w hSw
            go_simp <;> with_reducible rfl
          try simp only [Act.put, List.setIfInBounds_toArray, List.set_cons_zero, List.set_cons_succ]
          refine takeAt 13 (some 60) undef rfl rfl (by kernel_rfl) (by kernel_rfl) (by kernel_rfl) (fun _ _ _ h => h) (Or.inr ⟨by rfl, rfl⟩) hHeld ?_
          try simp only [Act.put, List.setIfInBounds_toArray, List.set_cons_zero, List.set_cons_succ]
          refine takeAt 14 (some 61) undef rfl rfl (by kernel_rfl) (by kernel_rfl) (by kernel_rfl) (fun _ _ _ h => h) (Or.inr ⟨by rfl, rfl⟩) hHeld ?_
          try simp only [Act.put, List.setIfInBounds_toArray, List.set_cons_zero, List.set_cons_succ]
          refine takeAt 15 (some 62) undef rfl rfl (by kernel_rfl) (by kernel_rfl) (by kernel_rfl) (fun _ _ _ h => h) (Or.inr ⟨by rfl, rfl⟩) hHeld ?_
          try simp only [Act.put, List.setIfInBounds_toArray, List.set_cons_zero, List.set_cons_succ]
          refine takeAt 16 (some 63) undef rfl rfl (by kernel_rfl) (by kernel_rfl) (by kernel_rfl) (fun _ _ _ h => h) (Or.inr ⟨by rfl, rfl⟩) hHeld ?_
          try simp only [Act.put, List.setIfInBounds_toArray, List.set_cons_zero, List.set_cons_succ]
          refine takeAt 17 (some 64) undef rfl rfl (by kernel_rfl) (by kernel_rfl) (by kernel_rfl) (fun _ _ _ h => h) (Or.inr ⟨by rfl, rfl⟩) hHeld ?_
          try simp only [Act.put, List.setIfInBounds_toArray, List.set_cons_zero, List.set_cons_succ]
          refine takeAt 18 (some 65) undef rfl rfl (by kernel_rfl) (by kernel_rfl) (by kernel_rfl) (fun _ _ _ h => h) (Or.inr ⟨by rfl, rfl⟩) hHeld ?_
          try simp only [Act.put, List.setIfInBounds_toArray, List.set_cons_zero, List.set_cons_succ]
          refine takeAt 19 (some 66) undef rfl rfl (by kernel_rfl) (by kernel_rfl) (by kernel_rfl) (fun _ _ _ h => h) (Or.inr ⟨by rfl, rfl⟩) hHeld ?_
          try simp only [Act.put, List.setIfInBounds_toArray, List.set_cons_zero, List.set_cons_succ]
          refine takeAt 20 (some 67) undef rfl rfl (by kernel_rfl) (by kernel_rfl) (by kernel_rfl) (fun _ _ _ h => h) (Or.inr ⟨by rfl, rfl⟩) hHeld ?_
          try simp only [Act.put, List.setIfInBounds_toArray, List.set_cons_zero, List.set_cons_succ]
          refine takeAt 21 (some 68) undef rfl rfl (by kernel_rfl) (by kernel_rfl) (by kernel_rfl) (fun _ _ _ h => h) (Or.inr ⟨by rfl, rfl⟩) hHeld ?_
          try simp only [Act.put, List.setIfInBounds_toArray, List.set_cons_zero, List.set_cons_succ]
          refine takeAt 22 (some 69) undef rfl rfl (by kernel_rfl) (by kernel_rfl) (by kernel_rfl) (fun _ _ _ h => h) (Or.inr ⟨by rfl, rfl⟩) hHeld ?_
          try simp only [Act.put, List.setIfInBounds_toArray, List.set_cons_zero, List.set_cons_succ]
          refine takeAt 23 (some 70) undef rfl rfl (by kernel_rfl) (by kernel_rfl) (by kernel_rfl) (fun _ _ _ h => h) (Or.inr ⟨by rfl, rfl⟩) hHeld ?_
          try simp only [Act.put, List.setIfInBounds_toArray, List.set_cons_zero, List.set_cons_succ]
          refine takeAt 24 (some 71) undef rfl rfl (by kernel_rfl) (by kernel_rfl) (by kernel_rfl) (fun _ _ _ h => h) (Or.inr ⟨by rfl, rfl⟩) hHeld ?_
          try simp only [Act.put, List.setIfInBounds_toArray, List.set_cons_zero, List.set_cons_succ]
          refine takeAt 25 (some 72) undef rfl rfl (by kernel_rfl) (by kernel_rfl) (by kernel_rfl) (fun _ _ _ h => h) (Or.inr ⟨by rfl, rfl⟩) hHeld ?_
          try simp only [Act.put, List.setIfInBounds_toArray, List.set_cons_zero, List.set_cons_succ]
          refine takeAt 26 (some 73) undef rfl rfl (by kernel_rfl) (by kernel_rfl) (by kernel_rfl) (fun _ _ _ h => h) (Or.inr ⟨by rfl, rfl⟩) hHeld ?_
          try simp only [Act.put, List.setIfInBounds_toArray, List.set_cons_zero, List.set_cons_succ]
          refine takeAt 27 (some 74) undef rfl rfl (by kernel_rfl) (by kernel_rfl) (by kernel_rfl) (fun _ _ _ h => h) (Or.inr ⟨by rfl, rfl⟩) hHeld ?_
          try simp only [Act.put, List.setIfInBounds_toArray, List.set_cons_zero, List.set_cons_succ]
          refine takeAt 28 (some 75) undef rfl rfl (by kernel_rfl) (by kernel_rfl) (by kernel_rfl) (fun _ _ _ h => h) (Or.inr ⟨by rfl, rfl⟩) hHeld ?_
          try simp only [Act.put, List.setIfInBounds_toArray, List.set_cons_zero, List.set_cons_succ]
          refine takeAt 29 (some 76) ?_ rfl rfl (by kernel_rfl) (by kernel_rfl) (by kernel_rfl) (fun _ _ _ h => h) (Or.inl ⟨by rfl, ?_⟩) hHeld ?_
          rotate_left
          · intro w hSw
            go_simp <;> with_reducible rfl
          try simp only [Act.put, List.setIfInBounds_toArray, List.set_cons_zero, List.set_cons_succ]
          refine wpAnyH_done (by kernel_rfl) ?_ _
          refine NoPanic.normal ?_
          have hR := HR6.out
          simp only [Bool.false_eq_true, if_false] at hR
          subst hR
          obtain ⟨⟨r0, r1, r2⟩, _⟩ := H8.out.tok.cells
          clear HR6
          go_wp2_with fail
          exact ⟨rfl, rfl, H8.out.fr⟩
end
end Go.Proofs.YtpahpnajeliodaaGreatDoor
/- The reader's call times. -/
namespace Go.Proofs.YtpahpnajeliodaaGreatDoor
open Go.ChangeShapes Go.WideShapes Go.ChangeAt Go.RowKit
set_option linter.unusedVariables false
set_option linter.unusedSimpArgs false
section
variable {n : Nat} {d d0 : Nd} {kv kv0 : Value} {w w' : World}
theorem NdBox.cells (h : NdBox n d kv w) : w.cell? ⟨n, 0, none⟩ = some (.int .u8 d.op) ∧ w.cell? ⟨n, 1, none⟩ = some (.int .u8 d.c) ∧ w.cell? ⟨n, 2, none⟩ = some (.int .u64 d.set.a) ∧ w.cell? ⟨n, 3, none⟩ = some (.int .u64 d.set.b) ∧ w.cell? ⟨n, 4, none⟩ = some (.int .u64 d.set.c) ∧ w.cell? ⟨n, 5, none⟩ = some (.int .u64 d.set.d) ∧ w.cell? ⟨n, 6, none⟩ = some (.int .i64 d.mn) ∧ w.cell? ⟨n, 7, none⟩ = some (.int .i64 d.mx) ∧ w.cell? ⟨n, 8, none⟩ = some (.bool d.lz) ∧ w.cell? ⟨n, 9, none⟩ = some (.int .i64 d.n) ∧ w.cell? ⟨n, 10, none⟩ = some (kv) := by
  unfold NdBox at h
  refine ⟨?_, ?_, ?_, ?_, ?_, ?_, ?_, ?_, ?_, ?_, ?_⟩ <;> simp [World.cell?, h]
theorem NdBox.fzs (h : NdBox n d kv w) : w.frozen? ⟨n, 0, none⟩ = false ∧ w.frozen? ⟨n, 1, none⟩ = false ∧ w.frozen? ⟨n, 2, none⟩ = false ∧ w.frozen? ⟨n, 3, none⟩ = false ∧ w.frozen? ⟨n, 4, none⟩ = false ∧ w.frozen? ⟨n, 5, none⟩ = false ∧ w.frozen? ⟨n, 6, none⟩ = false ∧ w.frozen? ⟨n, 7, none⟩ = false ∧ w.frozen? ⟨n, 8, none⟩ = false ∧ w.frozen? ⟨n, 9, none⟩ = false ∧ w.frozen? ⟨n, 10, none⟩ = false := by
  unfold NdBox at h
  refine ⟨?_, ?_, ?_, ?_, ?_, ?_, ?_, ?_, ?_, ?_, ?_⟩ <;> simp [World.frozen?, h]
theorem NdBox.adv {rb : Nat} {vn vn' : Qv} (h : NdBox n d kv w) (a : Adv rb vn w vn' w') (hn : n ≠ rb) (hv : vn.ownBlock ≠ some n) : NdBox n d kv w' :=
  h.heap (a.fr.block n h.lt fun q => by
    rcases q with q | q
    · exact hn q
    · exact hv q)
/-- The world behind a store of a whole node. -/
def putNd (n : Nat) (d : Nd) (kv : Value) (w : World) : World := (((((((((((w.setCell ⟨n, 0, none⟩ (.int .u8 d.op)).setCell ⟨n, 1, none⟩ (.int .u8 d.c)).setCell ⟨n, 2, none⟩ (.int .u64 d.set.a)).setCell ⟨n, 3, none⟩ (.int .u64 d.set.b)).setCell ⟨n, 4, none⟩ (.int .u64 d.set.c)).setCell ⟨n, 5, none⟩ (.int .u64 d.set.d)).setCell ⟨n, 6, none⟩ (.int .i64 d.mn)).setCell ⟨n, 7, none⟩ (.int .i64 d.mx)).setCell ⟨n, 8, none⟩ (.bool d.lz)).setCell ⟨n, 9, none⟩ (.int .i64 d.n)).setCell ⟨n, 10, none⟩ (kv))
set_option maxHeartbeats 1000000 in
theorem NdBox.put (h : NdBox n d0 kv0 w) (d : Nd) (kv : Value) : (w.setCell ⟨n, 0, none⟩ (.int .u8 d.op)).cell? ⟨n, 0, none⟩ = some (.int .u8 d.op) ∧ ((w.setCell ⟨n, 0, none⟩ (.int .u8 d.op)).setCell ⟨n, 1, none⟩ (.int .u8 d.c)).cell? ⟨n, 1, none⟩ = some (.int .u8 d.c) ∧ (((w.setCell ⟨n, 0, none⟩ (.int .u8 d.op)).setCell ⟨n, 1, none⟩ (.int .u8 d.c)).setCell ⟨n, 2, none⟩ (.int .u64 d.set.a)).cell? ⟨n, 2, none⟩ = some (.int .u64 d.set.a) ∧ ((((w.setCell ⟨n, 0, none⟩ (.int .u8 d.op)).setCell ⟨n, 1, none⟩ (.int .u8 d.c)).setCell ⟨n, 2, none⟩ (.int .u64 d.set.a)).setCell ⟨n, 3, none⟩ (.int .u64 d.set.b)).cell? ⟨n, 3, none⟩ = some (.int .u64 d.set.b) ∧ (((((w.setCell ⟨n, 0, none⟩ (.int .u8 d.op)).setCell ⟨n, 1, none⟩ (.int .u8 d.c)).setCell ⟨n, 2, none⟩ (.int .u64 d.set.a)).setCell ⟨n, 3, none⟩ (.int .u64 d.set.b)).setCell ⟨n, 4, none⟩ (.int .u64 d.set.c)).cell? ⟨n, 4, none⟩ = some (.int .u64 d.set.c) ∧ ((((((w.setCell ⟨n, 0, none⟩ (.int .u8 d.op)).setCell ⟨n, 1, none⟩ (.int .u8 d.c)).setCell ⟨n, 2, none⟩ (.int .u64 d.set.a)).setCell ⟨n, 3, none⟩ (.int .u64 d.set.b)).setCell ⟨n, 4, none⟩ (.int .u64 d.set.c)).setCell ⟨n, 5, none⟩ (.int .u64 d.set.d)).cell? ⟨n, 5, none⟩ = some (.int .u64 d.set.d) ∧ (((((((w.setCell ⟨n, 0, none⟩ (.int .u8 d.op)).setCell ⟨n, 1, none⟩ (.int .u8 d.c)).setCell ⟨n, 2, none⟩ (.int .u64 d.set.a)).setCell ⟨n, 3, none⟩ (.int .u64 d.set.b)).setCell ⟨n, 4, none⟩ (.int .u64 d.set.c)).setCell ⟨n, 5, none⟩ (.int .u64 d.set.d)).setCell ⟨n, 6, none⟩ (.int .i64 d.mn)).cell? ⟨n, 6, none⟩ = some (.int .i64 d.mn) ∧ ((((((((w.setCell ⟨n, 0, none⟩ (.int .u8 d.op)).setCell ⟨n, 1, none⟩ (.int .u8 d.c)).setCell ⟨n, 2, none⟩ (.int .u64 d.set.a)).setCell ⟨n, 3, none⟩ (.int .u64 d.set.b)).setCell ⟨n, 4, none⟩ (.int .u64 d.set.c)).setCell ⟨n, 5, none⟩ (.int .u64 d.set.d)).setCell ⟨n, 6, none⟩ (.int .i64 d.mn)).setCell ⟨n, 7, none⟩ (.int .i64 d.mx)).cell? ⟨n, 7, none⟩ = some (.int .i64 d.mx) ∧ (((((((((w.setCell ⟨n, 0, none⟩ (.int .u8 d.op)).setCell ⟨n, 1, none⟩ (.int .u8 d.c)).setCell ⟨n, 2, none⟩ (.int .u64 d.set.a)).setCell ⟨n, 3, none⟩ (.int .u64 d.set.b)).setCell ⟨n, 4, none⟩ (.int .u64 d.set.c)).setCell ⟨n, 5, none⟩ (.int .u64 d.set.d)).setCell ⟨n, 6, none⟩ (.int .i64 d.mn)).setCell ⟨n, 7, none⟩ (.int .i64 d.mx)).setCell ⟨n, 8, none⟩ (.bool d.lz)).cell? ⟨n, 8, none⟩ = some (.bool d.lz) ∧ ((((((((((w.setCell ⟨n, 0, none⟩ (.int .u8 d.op)).setCell ⟨n, 1, none⟩ (.int .u8 d.c)).setCell ⟨n, 2, none⟩ (.int .u64 d.set.a)).setCell ⟨n, 3, none⟩ (.int .u64 d.set.b)).setCell ⟨n, 4, none⟩ (.int .u64 d.set.c)).setCell ⟨n, 5, none⟩ (.int .u64 d.set.d)).setCell ⟨n, 6, none⟩ (.int .i64 d.mn)).setCell ⟨n, 7, none⟩ (.int .i64 d.mx)).setCell ⟨n, 8, none⟩ (.bool d.lz)).setCell ⟨n, 9, none⟩ (.int .i64 d.n)).cell? ⟨n, 9, none⟩ = some (.int .i64 d.n) ∧ (((((((((((w.setCell ⟨n, 0, none⟩ (.int .u8 d.op)).setCell ⟨n, 1, none⟩ (.int .u8 d.c)).setCell ⟨n, 2, none⟩ (.int .u64 d.set.a)).setCell ⟨n, 3, none⟩ (.int .u64 d.set.b)).setCell ⟨n, 4, none⟩ (.int .u64 d.set.c)).setCell ⟨n, 5, none⟩ (.int .u64 d.set.d)).setCell ⟨n, 6, none⟩ (.int .i64 d.mn)).setCell ⟨n, 7, none⟩ (.int .i64 d.mx)).setCell ⟨n, 8, none⟩ (.bool d.lz)).setCell ⟨n, 9, none⟩ (.int .i64 d.n)).setCell ⟨n, 10, none⟩ (kv)).cell? ⟨n, 10, none⟩ = some (kv) ∧ NdBox n d kv (putNd n d kv w) := by
  have h0 := heap_setCell (off := 0) (v := .int .u8 d.op) h
  simp only [List.setIfInBounds_toArray, List.set_cons_zero, List.set_cons_succ] at h0
  have h1 := heap_setCell (off := 1) (v := .int .u8 d.c) h0
  simp only [List.setIfInBounds_toArray, List.set_cons_zero, List.set_cons_succ] at h1
  have h2 := heap_setCell (off := 2) (v := .int .u64 d.set.a) h1
  simp only [List.setIfInBounds_toArray, List.set_cons_zero, List.set_cons_succ] at h2
  have h3 := heap_setCell (off := 3) (v := .int .u64 d.set.b) h2
  simp only [List.setIfInBounds_toArray, List.set_cons_zero, List.set_cons_succ] at h3
  have h4 := heap_setCell (off := 4) (v := .int .u64 d.set.c) h3
  simp only [List.setIfInBounds_toArray, List.set_cons_zero, List.set_cons_succ] at h4
  have h5 := heap_setCell (off := 5) (v := .int .u64 d.set.d) h4
  simp only [List.setIfInBounds_toArray, List.set_cons_zero, List.set_cons_succ] at h5
  have h6 := heap_setCell (off := 6) (v := .int .i64 d.mn) h5
  simp only [List.setIfInBounds_toArray, List.set_cons_zero, List.set_cons_succ] at h6
  have h7 := heap_setCell (off := 7) (v := .int .i64 d.mx) h6
  simp only [List.setIfInBounds_toArray, List.set_cons_zero, List.set_cons_succ] at h7
  have h8 := heap_setCell (off := 8) (v := .bool d.lz) h7
  simp only [List.setIfInBounds_toArray, List.set_cons_zero, List.set_cons_succ] at h8
  have h9 := heap_setCell (off := 9) (v := .int .i64 d.n) h8
  simp only [List.setIfInBounds_toArray, List.set_cons_zero, List.set_cons_succ] at h9
  have h10 := heap_setCell (off := 10) (v := kv) h9
  simp only [List.setIfInBounds_toArray, List.set_cons_zero, List.set_cons_succ] at h10
  exact ⟨by simp [World.cell?, h0], by simp [World.cell?, h1], by simp [World.cell?, h2], by simp [World.cell?, h3], by simp [World.cell?, h4], by simp [World.cell?, h5], by simp [World.cell?, h6], by simp [World.cell?, h7], by simp [World.cell?, h8], by simp [World.cell?, h9], by simp [World.cell?, h10], h10⟩
theorem Fr.putNd {S : Nat → Prop} {w0 : World} (h : Fr S w0 w) (hn : w0.heap.size ≤ n) : Fr S w0 (putNd n d kv w) := ((((((((((h.new hn).new hn).new hn).new hn).new hn).new hn).new hn).new hn).new hn).new hn).new hn
end
def timesF (s : ByteArray) (t : Tok) (r : RS) : Except (Nat × Nat) (Nd × RS) :=
  if t.c = 43 then .ok ({ op := 7, mn := 1, mx := -1 }, r)
  else if t.c = 61 ∨ t.c = 63 then .ok ({ op := 7, mx := 1 }, r)
  else if t.c = 123 then
    match bndF s r.k with
    | none => .error (32, t.pl)
    | some (n, mx, lz, j) => .ok ({ op := 7, mn := n, mx := mx, lz := lz }, { r with k := j })
  else .ok ({ op := 7, mx := -1 }, r)
/-- What a call of times comes to. -/
def TimP (B rb : Nat) (s last : ByteArray) (vn : Qv) (w : World) (R : Except (Nat × Nat) (Nd × RS)) (e : Ending) (w' : World) : Prop :=
  match R with
  | .ok (d, r') => e = .returned (d.val (.slice none 0 0)) ∧ Rr B rb s last r' vn w' ∧ Adv rb vn w vn w'
  | .error (n, p) => e = Wrong n p ∧ Er rb vn w w'
section
variable {B rb : Nat} {s last : ByteArray} {r : RS} {vn : Qv} {w : World}
/-- A block that is new, written over: the reader does not see it. -/
theorem Rr.put (h : Rr B rb s last r vn w) {n : Nat} {d0 : Nd} {kv0 : Value} (hb : NdBox n d0 kv0 w) (hn : n ≠ rb) (hv : vn.ownBlock ≠ some n) {w' : World} (hw : ∀ k, k ≠ n → w'.heap[k]? = w.heap[k]?) (hsz : w.heap.size ≤ w'.heap.size) : Rr B rb s last r vn w' := by
  obtain ⟨ns, hr⟩ := h
  have hrow : ∀ {e' : TypeId} {size m : Nat} {v' : Value} {xs : List Value}, w.ownsRow B e' size v' m xs → v'.ownBlock ≠ some n → w'.ownsRow B e' size v' m xs := fun ho hv => by
    refine ⟨ho.1, ?_⟩
    rcases ho.2 with q | ⟨b, cap, cur, rfl, hb, hg, rest⟩
    · exact .inl q
    · exact .inr ⟨b, cap, cur, rfl, hb, by rw [hw b (fun q => hv (by rw [q]; rfl))]; exact hg, rest⟩
  refine ⟨ns, hr.ge, hr.scn.heap (hw rb (Ne.symm hn)), hrow hr.row hv, hr.apart, hr.nds, fun x hx => ⟨hrow (hr.kids x hx).1 fun q => ?_, (hr.kids x hx).2⟩, fun z hz => Nat.lt_of_lt_of_le (hr.kbl z hz) hsz⟩
  rcases (hr.kids x hx).1.2 with ⟨e1, _⟩ | ⟨b, cap, cur, e1, hb', hg, rest⟩
  · rw [e1] at q; cases q
  · rw [e1] at q
    simp only [Value.ownBlock, Option.some.injEq] at q
    subst q
    have := hb
    unfold NdBox at this
    rw [hg] at this
    injection this with this
    injection this with _ this _
    exact absurd this (by decide)
theorem size_putNd {n : Nat} {d : Nd} {kv : Value} {w : World} : (putNd n d kv w).heap.size = w.heap.size := by
  unfold putNd
  rw [size_setCell, size_setCell, size_setCell, size_setCell, size_setCell, size_setCell, size_setCell, size_setCell, size_setCell, size_setCell, size_setCell]
theorem put_other {n : Nat} {d : Nd} {kv : Value} {w : World} {k : Nat} (hk : k ≠ n) : (putNd n d kv w).heap[k]? = w.heap[k]? := by
  unfold putNd
  rw [heap_setCell_other hk, heap_setCell_other hk, heap_setCell_other hk, heap_setCell_other hk, heap_setCell_other hk, heap_setCell_other hk, heap_setCell_other hk, heap_setCell_other hk, heap_setCell_other hk, heap_setCell_other hk, heap_setCell_other hk]
theorem Rr.putN (h : Rr B rb s last r vn w) {n : Nat} {d0 : Nd} {kv0 : Value} (hb : NdBox n d0 kv0 w) (hn : n ≠ rb) (hv : vn.ownBlock ≠ some n) (d : Nd) (kv : Value) : Rr B rb s last r vn (putNd n d kv w) :=
  h.put hb hn hv (fun k hk => put_other hk) (Nat.le_of_eq size_putNd.symm)
end
end Go.Proofs.YtpahpnajeliodaaGreatDoor
/- The reader's call times. -/
namespace Go.Proofs.YtpahpnajeliodaaGreatDoor
open Go.ChangeShapes Go.WideShapes Go.ChangeAt Go.RowKit
set_option linter.unusedVariables false
set_option linter.unusedSimpArgs false
section
variable {B rb : Nat} {s last : ByteArray} {r : RS} {vn : Qv} {w : World}
set_option maxHeartbeats 4000000 in
set_option maxRecDepth 100000 in
theorem times_any (h : Rr B rb s last r vn w) (hs : s.size ≤ 400) (ha : r.k ≤ s.size) (t : Tok) :
    Calls Tryz.prog 58 #[.pointer (some ⟨rb, 0, none⟩), t.val] w (TimP B rb s last vn w (timesF s t r)) := by
  obtain ⟨W1, hW1⟩ : ∃ W1, w.alloc (.cells #[.int .u8 t.kd, .int .u8 t.c, .int .i64 t.pl] 75) = W1 := ⟨_, rfl⟩
  obtain ⟨W2, hW2⟩ : ∃ W2, W1.alloc (.cells #[.int .u8 0, .int .u8 0, .int .u64 0, .int .u64 0, .int .u64 0, .int .u64 0, .int .i64 0, .int .i64 0, .bool false, .int .i64 0, .slice none 0 0] 73) = W2 := ⟨_, rfl⟩
  obtain ⟨W3, hW3⟩ : ∃ W3, W2.alloc (.cells #[.int .u8 7, .int .u8 0, .int .u64 0, .int .u64 0, .int .u64 0, .int .u64 0, .int .i64 0, .int .i64 (-1), .bool false, .int .i64 0, .slice none 0 0] 73) = W3 := ⟨_, rfl⟩
  have s1 : W1.heap.size = w.heap.size + 1 := by rw [← hW1, alloc_size]
  have s2 : W2.heap.size = w.heap.size + 1 + 1 := by rw [← hW2, alloc_size, s1]
  have k1 : Kp w W1 := by rw [← hW1]; exact kp_alloc w _
  have k2 : Kp W1 W2 := by rw [← hW2]; exact kp_alloc _ _
  have k3 : Kp W2 W3 := by rw [← hW3]; exact kp_alloc _ _
  have b1 : TokBox w.heap.size t W3 := by
    refine TokBox.kp (w := W1) ?_ (kp_trans k2 k3)
    rw [← hW1]; exact alloc_new w _
  have b2 : NdBox (w.heap.size + 1) { op := 0 } (.slice none 0 0) W3 := by
    refine NdBox.kp (w := W2) ?_ k3
    rw [← hW2, ← s1]; exact alloc_new W1 _
  have b3 : NdBox (w.heap.size + 1 + 1) { op := 7, mx := -1 } (.slice none 0 0) W3 := by
    rw [← hW3, ← s2]; exact alloc_new W2 _
  have hr3 := h.kp (kp_trans k1 (kp_trans k2 k3))
  have HN : Hid (w.heap.size + 1 ≠ rb ∧ vn.ownBlock ≠ some (w.heap.size + 1) ∧ w.heap.size ≤ w.heap.size + 1) := ⟨by have := h.lt; omega, h.own (by omega), by omega⟩
  have HN2 : Hid (w.heap.size + 1 + 1 ≠ rb ∧ vn.ownBlock ≠ some (w.heap.size + 1 + 1) ∧ B ≤ w.heap.size + 1 + 1) := ⟨by have := h.lt; omega, h.own (by omega), by have := h.hB; omega⟩
  have HW : Hid (((w.alloc (.cells #[.int .u8 t.kd, .int .u8 t.c, .int .i64 t.pl] 75)).alloc (.cells #[.int .u8 0, .int .u8 0, .int .u64 0, .int .u64 0, .int .u64 0, .int .u64 0, .int .i64 0, .int .i64 0, .bool false, .int .i64 0, .slice none 0 0] 73)).alloc (.cells #[.int .u8 7, .int .u8 0, .int .u64 0, .int .u64 0, .int .u64 0, .int .u64 0, .int .i64 0, .int .i64 (-1), .bool false, .int .i64 0, .slice none 0 0] 73) = W3) := by show _ = W3; rw [hW1, hW2, hW3]
  have H3 : Hid (Rr B rb s last r vn W3 ∧ Adv rb vn w vn W3 ∧ NdBox (w.heap.size + 1) { op := 0 } (.slice none 0 0) W3 ∧ NdBox (w.heap.size + 1 + 1) { op := 7, mx := -1 } (.slice none 0 0) W3 ∧ TokBox w.heap.size t W3) := ⟨hr3, Adv.kp vn rb (kp_trans k1 (kp_trans k2 k3)), b2, b3, b1⟩
  have HBd : Hid (Rr B rb s last r vn w) := h
  clear h hW1 hW2 hW3 s1 s2 k1 k2 k3 b1 b2 b3 hr3
  obtain ⟨R, hR⟩ : ∃ R, timesF s t r = R := ⟨_, rfl⟩
  rw [hR]
  unfold timesF at hR
  have HR : Hid _ := hR
  have HBnd : Hid (Calls Tryz.prog 74 #[.pointer (some ⟨rb, 0, none⟩), t.val, .pointer (some ⟨w.heap.size + 1 + 1, 0, none⟩)] W3 (BndP B rb s last r vn (w.heap.size + 1 + 1) (.slice none 0 0) W3 t.pl (bndF s r.k))) := bounds_any H3.out.1 hs ha H3.out.2.2.2.1 HN2.out t
  obtain ⟨kd, c, pl⟩ := t
  unfold Tok.val at HBnd ⊢
  simp only at HW H3 HR HBnd ⊢
  obtain ⟨⟨t0, t1, t2⟩, _⟩ := H3.out.2.2.2.2.cells
  have n6 := H3.out.2.2.2.1.c6
  have n7 := H3.out.2.2.2.1.c7
  have y6 := H3.out.2.2.2.1.fz 6
  have y7 := H3.out.2.2.2.1.fz 7
  simp only at n6 n7
  clear hR
  go_enter Tryz.func58, Tryz.ntmps58
  go_upto_region 2 with fail
  rw [HW.out]
  clear HW
  by_cases h43 : c = 43
  · have hR := HR.out
    rw [if_pos h43] at hR
    subst hR
    clear HR
    have e43 : ((c : Int) == 43) = true := by simp; omega
    clear h43
    go_upto_region 10 with fail
    obtain ⟨W4, hW4⟩ : ∃ W4, W3.setCell ⟨w.heap.size + 1 + 1, 6, none⟩ (.int .i64 1) = W4 := ⟨_, rfl⟩
    have H4 : Hid (Rr B rb s last r vn W4 ∧ Adv rb vn w vn W4 ∧ NdBox (w.heap.size + 1) { op := 0 } (.slice none 0 0) W4 ∧ NdBox (w.heap.size + 1 + 1) { op := 7, mn := 1, mx := -1 } (.slice none 0 0) W4) := by
      rw [← hW4]
      refine ⟨H3.out.1.put H3.out.2.2.2.1 HN2.out.1 HN2.out.2.1 (fun k hk => heap_setCell_other hk) (Nat.le_of_eq (size_setCell _ _ _).symm), ⟨H3.out.2.1.fr.new (by omega), .inl rfl, fun _ _ h => .inl h⟩, H3.out.2.2.1.heap (heap_setCell_other (by omega)), H3.out.2.2.2.1.set6 1⟩
    rw [hW4]
    clear hW4 n6 n7 y6 y7
    obtain ⟨n0, n1, n2, n3, n4, n5, n6, n7, n8, n9, n10⟩ := H4.out.2.2.2.cells
    obtain ⟨m0, m1, m2, m3, m4, m5, m6, m7, m8, m9, m10⟩ := H4.out.2.2.1.cells
    obtain ⟨x0, x1, x2, x3, x4, x5, x6, x7, x8, x9, x10⟩ := H4.out.2.2.1.fzs
    try simp only [zeroS] at n0 n1 n2 n3 n4 n5 n6 n7 n8 n9 n10
    go_wp2_with fail
    obtain ⟨e0, e1, e2, e3, e4, e5, e6, e7, e8, e9, e10, _⟩ := H4.out.2.2.1.put { op := 7, mn := 1, mx := -1 } (.slice none 0 0)
    refine bodyPost_ret (v := Nd.val { op := 7, mn := 1, mx := -1 } (.slice none 0 0)) ?_ rfl ⟨rfl, ?_, ?_⟩
    · unfold Nd.val
      simp only [zeroS] at e0 e1 e2 e3 e4 e5 e6 e7 e8 e9 e10 ⊢
      simp [results, Tryz.results58, go_sem] at e0 e1 e2 e3 e4 e5 e6 e7 e8 e9 e10 ⊢
      simp [e0, e1, e2, e3, e4, e5, e6, e7, e8, e9, e10, go_sem]
    · exact H4.out.1.putN H4.out.2.2.1 HN.out.1 HN.out.2.1 { op := 7, mn := 1, mx := -1 } (.slice none 0 0)
    · exact ⟨(H4.out.2.1.fr.putNd HN.out.2.2 (d := { op := 7, mn := 1, mx := -1 }) (kv := .slice none 0 0)), .inl rfl, fun _ _ h => .inl h⟩
  have e43 : ((c : Int) == 43) = false := by simp; omega
  have hR := HR.out
  rw [if_neg h43] at hR
  have HR2 : Hid _ := hR
  clear HR h43 hR
  by_cases h61 : c = 61
  · have hR := HR2.out
    rw [if_pos (by omega)] at hR
    subst hR
    clear HR2
    have e61 : ((c : Int) == 61) = true := by simp; omega
    clear h61
    go_upto_region 10 with fail
    obtain ⟨W4, hW4⟩ : ∃ W4, W3.setCell ⟨w.heap.size + 1 + 1, 7, none⟩ (.int .i64 1) = W4 := ⟨_, rfl⟩
    have H4 : Hid (Rr B rb s last r vn W4 ∧ Adv rb vn w vn W4 ∧ NdBox (w.heap.size + 1) { op := 0 } (.slice none 0 0) W4 ∧ NdBox (w.heap.size + 1 + 1) { op := 7, mx := 1 } (.slice none 0 0) W4) := by
      rw [← hW4]
      refine ⟨H3.out.1.put H3.out.2.2.2.1 HN2.out.1 HN2.out.2.1 (fun k hk => heap_setCell_other hk) (Nat.le_of_eq (size_setCell _ _ _).symm), ⟨H3.out.2.1.fr.new (by omega), .inl rfl, fun _ _ h => .inl h⟩, H3.out.2.2.1.heap (heap_setCell_other (by omega)), H3.out.2.2.2.1.set7 1⟩
    rw [hW4]
    clear hW4 n6 n7 y6 y7
    obtain ⟨n0, n1, n2, n3, n4, n5, n6, n7, n8, n9, n10⟩ := H4.out.2.2.2.cells
    obtain ⟨m0, m1, m2, m3, m4, m5, m6, m7, m8, m9, m10⟩ := H4.out.2.2.1.cells
    obtain ⟨x0, x1, x2, x3, x4, x5, x6, x7, x8, x9, x10⟩ := H4.out.2.2.1.fzs
    try simp only [zeroS] at n0 n1 n2 n3 n4 n5 n6 n7 n8 n9 n10
    go_wp2_with fail
    obtain ⟨e0, e1, e2, e3, e4, e5, e6, e7, e8, e9, e10, _⟩ := H4.out.2.2.1.put { op := 7, mx := 1 } (.slice none 0 0)
    refine bodyPost_ret (v := Nd.val { op := 7, mx := 1 } (.slice none 0 0)) ?_ rfl ⟨rfl, ?_, ?_⟩
    · unfold Nd.val
      simp only [zeroS] at e0 e1 e2 e3 e4 e5 e6 e7 e8 e9 e10 ⊢
      simp [results, Tryz.results58, go_sem] at e0 e1 e2 e3 e4 e5 e6 e7 e8 e9 e10 ⊢
      simp [e0, e1, e2, e3, e4, e5, e6, e7, e8, e9, e10, go_sem]
    · exact H4.out.1.putN H4.out.2.2.1 HN.out.1 HN.out.2.1 { op := 7, mx := 1 } (.slice none 0 0)
    · exact ⟨(H4.out.2.1.fr.putNd HN.out.2.2 (d := { op := 7, mx := 1 }) (kv := .slice none 0 0)), .inl rfl, fun _ _ h => .inl h⟩
  have e61 : ((c : Int) == 61) = false := by simp; omega
  by_cases h63 : c = 63
  · have hR := HR2.out
    rw [if_pos (by omega)] at hR
    subst hR
    clear HR2
    have e63 : ((c : Int) == 63) = true := by simp; omega
    clear h63 h61
    go_upto_region 10 with fail
    obtain ⟨W4, hW4⟩ : ∃ W4, W3.setCell ⟨w.heap.size + 1 + 1, 7, none⟩ (.int .i64 1) = W4 := ⟨_, rfl⟩
    have H4 : Hid (Rr B rb s last r vn W4 ∧ Adv rb vn w vn W4 ∧ NdBox (w.heap.size + 1) { op := 0 } (.slice none 0 0) W4 ∧ NdBox (w.heap.size + 1 + 1) { op := 7, mx := 1 } (.slice none 0 0) W4) := by
      rw [← hW4]
      refine ⟨H3.out.1.put H3.out.2.2.2.1 HN2.out.1 HN2.out.2.1 (fun k hk => heap_setCell_other hk) (Nat.le_of_eq (size_setCell _ _ _).symm), ⟨H3.out.2.1.fr.new (by omega), .inl rfl, fun _ _ h => .inl h⟩, H3.out.2.2.1.heap (heap_setCell_other (by omega)), H3.out.2.2.2.1.set7 1⟩
    rw [hW4]
    clear hW4 n6 n7 y6 y7
    obtain ⟨n0, n1, n2, n3, n4, n5, n6, n7, n8, n9, n10⟩ := H4.out.2.2.2.cells
    obtain ⟨m0, m1, m2, m3, m4, m5, m6, m7, m8, m9, m10⟩ := H4.out.2.2.1.cells
    obtain ⟨x0, x1, x2, x3, x4, x5, x6, x7, x8, x9, x10⟩ := H4.out.2.2.1.fzs
    try simp only [zeroS] at n0 n1 n2 n3 n4 n5 n6 n7 n8 n9 n10
    go_wp2_with fail
    obtain ⟨e0, e1, e2, e3, e4, e5, e6, e7, e8, e9, e10, _⟩ := H4.out.2.2.1.put { op := 7, mx := 1 } (.slice none 0 0)
    refine bodyPost_ret (v := Nd.val { op := 7, mx := 1 } (.slice none 0 0)) ?_ rfl ⟨rfl, ?_, ?_⟩
    · unfold Nd.val
      simp only [zeroS] at e0 e1 e2 e3 e4 e5 e6 e7 e8 e9 e10 ⊢
      simp [results, Tryz.results58, go_sem] at e0 e1 e2 e3 e4 e5 e6 e7 e8 e9 e10 ⊢
      simp [e0, e1, e2, e3, e4, e5, e6, e7, e8, e9, e10, go_sem]
    · exact H4.out.1.putN H4.out.2.2.1 HN.out.1 HN.out.2.1 { op := 7, mx := 1 } (.slice none 0 0)
    · exact ⟨(H4.out.2.1.fr.putNd HN.out.2.2 (d := { op := 7, mx := 1 }) (kv := .slice none 0 0)), .inl rfl, fun _ _ h => .inl h⟩
  have e63 : ((c : Int) == 63) = false := by simp; omega
  have hR := HR2.out
  rw [if_neg (by omega)] at hR
  have HR3 : Hid _ := hR
  clear HR2 h63 h61 hR
  by_cases h123 : c = 123
  · have hR := HR3.out
    rw [if_pos h123] at hR
    have e123 : ((c : Int) == 123) = true := by simp; omega
    clear h123 HR3
    cases hb : bndF s r.k with
    | none =>
      rw [hb] at hR HBnd
      simp only at hR
      subst hR
      go_wp2_with fail
      refine Calls.mono HBnd.out ?_
      rintro e w4 ⟨rfl, q⟩
      have HQ : Hid (Er rb vn w w4) := H3.out.2.1.fr.trans' q fun j hj z => by
        rcases z with z | z
        · exact z
        · omega
      clear q
      unfold Wrong
      go_wp2_with fail
      exact ⟨rfl, rfl, HQ.out⟩
    | some x =>
      obtain ⟨n, mx, lz, j⟩ := x
      rw [hb] at hR HBnd
      simp only at hR
      subst hR
      clear hb
      go_wp2_with fail
      refine Calls.mono HBnd.out ?_
      rintro e w4 ⟨rfl, q1, q2, q3⟩
      have H4 : Hid (Rr B rb s last { r with k := j } vn w4 ∧ Adv rb vn w vn w4 ∧ NdBox (w.heap.size + 1) { op := 0 } (.slice none 0 0) w4 ∧ NdBox (w.heap.size + 1 + 1) { op := 7, mn := n, mx := mx, lz := lz } (.slice none 0 0) w4) := by
        refine ⟨q1, ⟨H3.out.2.1.fr.trans' q3 (fun k hk hq => ?_), .inl rfl, fun _ _ h => .inl h⟩, H3.out.2.2.1.heap (q3.block _ H3.out.2.2.1.lt (fun hq => ?_)), q2⟩
        · rcases hq with hq | hq
          · exact hq
          · omega
        · rcases hq with (hq | hq) | hq
          · exact HN.out.1 hq
          · exact HN.out.2.1 hq
          · omega
      clear q1 q2 q3 n6 n7 y6 y7
      obtain ⟨n0, n1, n2, n3, n4, n5, n6, n7, n8, n9, n10⟩ := H4.out.2.2.2.cells
      obtain ⟨m0, m1, m2, m3, m4, m5, m6, m7, m8, m9, m10⟩ := H4.out.2.2.1.cells
      obtain ⟨x0, x1, x2, x3, x4, x5, x6, x7, x8, x9, x10⟩ := H4.out.2.2.1.fzs
      try simp only [zeroS] at n0 n1 n2 n3 n4 n5 n6 n7 n8 n9 n10
      go_wp2_with fail
      obtain ⟨e0, e1, e2, e3, e4, e5, e6, e7, e8, e9, e10, _⟩ := H4.out.2.2.1.put { op := 7, mn := n, mx := mx, lz := lz } (.slice none 0 0)
      refine bodyPost_ret (v := Nd.val { op := 7, mn := n, mx := mx, lz := lz } (.slice none 0 0)) ?_ rfl ⟨rfl, ?_, ?_⟩
      · unfold Nd.val
        simp only [zeroS] at e0 e1 e2 e3 e4 e5 e6 e7 e8 e9 e10 ⊢
        simp [results, Tryz.results58, go_sem] at e0 e1 e2 e3 e4 e5 e6 e7 e8 e9 e10 ⊢
        simp [e0, e1, e2, e3, e4, e5, e6, e7, e8, e9, e10, go_sem]
      · exact H4.out.1.putN H4.out.2.2.1 HN.out.1 HN.out.2.1 { op := 7, mn := n, mx := mx, lz := lz } (.slice none 0 0)
      · exact ⟨(H4.out.2.1.fr.putNd HN.out.2.2 (d := { op := 7, mn := n, mx := mx, lz := lz }) (kv := .slice none 0 0)), .inl rfl, fun _ _ h => .inl h⟩
  have e123 : ((c : Int) == 123) = false := by simp; omega
  have hR := HR3.out
  rw [if_neg h123] at hR
  subst hR
  clear HR3 h123
  go_upto_region 10 with fail
  have H4 : Hid (Rr B rb s last r vn W3 ∧ Adv rb vn w vn W3 ∧ NdBox (w.heap.size + 1) { op := 0 } (.slice none 0 0) W3 ∧ NdBox (w.heap.size + 1 + 1) { op := 7, mx := -1 } (.slice none 0 0) W3) := ⟨H3.out.1, H3.out.2.1, H3.out.2.2.1, H3.out.2.2.2.1⟩
  clear n6 n7 y6 y7
  obtain ⟨n0, n1, n2, n3, n4, n5, n6, n7, n8, n9, n10⟩ := H4.out.2.2.2.cells
  obtain ⟨m0, m1, m2, m3, m4, m5, m6, m7, m8, m9, m10⟩ := H4.out.2.2.1.cells
  obtain ⟨x0, x1, x2, x3, x4, x5, x6, x7, x8, x9, x10⟩ := H4.out.2.2.1.fzs
  try simp only [zeroS] at n0 n1 n2 n3 n4 n5 n6 n7 n8 n9 n10
  go_wp2_with fail
  obtain ⟨e0, e1, e2, e3, e4, e5, e6, e7, e8, e9, e10, _⟩ := H4.out.2.2.1.put { op := 7, mx := -1 } (.slice none 0 0)
  refine bodyPost_ret (v := Nd.val { op := 7, mx := -1 } (.slice none 0 0)) ?_ rfl ⟨rfl, ?_, ?_⟩
  · unfold Nd.val
    simp only [zeroS] at e0 e1 e2 e3 e4 e5 e6 e7 e8 e9 e10 ⊢
    simp [results, Tryz.results58, go_sem] at e0 e1 e2 e3 e4 e5 e6 e7 e8 e9 e10 ⊢
    simp [e0, e1, e2, e3, e4, e5, e6, e7, e8, e9, e10, go_sem]
  · exact H4.out.1.putN H4.out.2.2.1 HN.out.1 HN.out.2.1 { op := 7, mx := -1 } (.slice none 0 0)
  · exact ⟨(H4.out.2.1.fr.putNd HN.out.2.2 (d := { op := 7, mx := -1 }) (kv := .slice none 0 0)), .inl rfl, fun _ _ h => .inl h⟩
end
end Go.Proofs.YtpahpnajeliodaaGreatDoor
/- A list of numbers that a call of the reader keeps: what becomes of it, and of the reader, when it grows or is written into. -/
namespace Go.Proofs.YtpahpnajeliodaaGreatDoor
open Go.ChangeShapes Go.WideShapes Go.ChangeAt Go.RowKit
set_option linter.unusedVariables false
set_option linter.unusedSimpArgs false
/-- This list's own block. -/
def Lb (v : Value) (k : Nat) : Prop := v.ownBlock = some k
/-- From w to w' nothing has turned but the reader's blocks and this list's. -/
structure LAdv (rb : Nat) (vn : Qv) (v : Value) (w : World) (vn' : Qv) (v' : Value) (w' : World) : Prop where
  fr : Fr (fun k => Rb rb vn k ∨ Lb v k) w w'
  own : vn'.ownBlock = vn.ownBlock ∨ ∀ j, vn'.ownBlock = some j → w.heap.size ≤ j
  kbs : ∀ j, j < w.heap.size → vn'.kb j → vn.kb j
  lin : v'.ownBlock = v.ownBlock ∨ ∀ j, v'.ownBlock = some j → w.heap.size ≤ j
section
variable {B rb : Nat} {s last : ByteArray} {r : RS} {vn vn1 vn2 : Qv} {v v1 v2 : Value} {w w0 w1 w2 : World}
theorem LAdv.of (a : Adv rb vn w vn1 w1) : LAdv rb vn v w vn1 v w1 :=
  ⟨a.fr.mono fun _ _ q => .inl q, a.own, fun j hj q => (a.kbs j hj q).elim id (fun z => by cases z), .inl rfl⟩
/-- A list that is new ahead of 'w0': the reader alone has turned since. -/
theorem LAdv.adv (a : Adv rb vn w0 vn1 w1) (h : LAdv rb vn1 v w1 vn2 v2 w2) (hv : ∀ j, v.ownBlock = some j → w0.heap.size ≤ j) : Adv rb vn w0 vn2 w2 ∧ ∀ j, v2.ownBlock = some j → w0.heap.size ≤ j := by
  refine ⟨⟨a.fr.trans' h.fr fun k hk hq => ?_, ?_, fun j hj hq => ?_⟩, fun j hj => ?_⟩
  · rcases hq with (hq | hq) | hq
    · exact .inl hq
    · rcases a.own with e | e
      · exact .inr (by rw [← e]; exact hq)
      · exact absurd (e k hq) (by omega)
    · exact absurd (hv k hq) (by omega)
  · rcases h.own with e | e
    · rw [e]; exact a.own
    · exact .inr fun j hj => Nat.le_trans a.fr.size (e j hj)
  · exact a.kbs j hj (h.kbs j (Nat.lt_of_lt_of_le hj a.fr.size) hq)
  · rcases h.lin with e | e
    · rw [e] at hj; exact hv j hj
    · exact Nat.le_trans a.fr.size (e j hj)
theorem LAdv.trans (h : LAdv rb vn v w vn1 v1 w1) (h' : LAdv rb vn1 v1 w1 vn2 v2 w2) : LAdv rb vn v w vn2 v2 w2 := by
  refine ⟨h.fr.trans' h'.fr fun k hk hq => ?_, ?_, fun j hj hq => h.kbs j hj (h'.kbs j (Nat.lt_of_lt_of_le hj h.fr.size) hq), ?_⟩
  · rcases hq with (hq | hq) | hq
    · exact .inl (.inl hq)
    · rcases h.own with e | e
      · exact .inl (.inr (by rw [← e]; exact hq))
      · exact absurd (e k hq) (by omega)
    · rcases h.lin with e | e
      · exact .inr (by unfold Lb at hq ⊢; rw [← e]; exact hq)
      · exact absurd (e k hq) (by omega)
  · rcases h'.own with e | e
    · rw [e]; exact h.own
    · exact .inr fun j hj => Nat.le_trans h.fr.size (e j hj)
  · rcases h'.lin with e | e
    · rw [e]; exact h.lin
    · exact .inr fun j hj => Nat.le_trans h.fr.size (e j hj)
theorem LAdv.below (h : LAdv rb vn v w vn1 v1 w1) (hr : Rr B rb s last r vn w) (hv : ∀ j, v.ownBlock = some j → B ≤ j) : Below B w w1 := by
  have hB := hr.hB
  obtain ⟨ns, hr⟩ := hr
  refine h.fr.below hB fun j hj q => ?_
  rcases q with (q | q) | q
  · have := hr.ge; omega
  · have := (hr.own j q).1; omega
  · have := hv j q; omega
/-- A block that is neither the reader's nor a node's kids': the reader does not see what it holds. -/
theorem Rr.off (h : Rr B rb s last r vn w) {P : Nat → Prop} (hP : ∀ j, P j → (j ≠ rb ∧ vn.ownBlock ≠ some j) ∧ ¬ vn.kb j) (f : Fr P w w1) : Rr B rb s last r vn w1 := by
  obtain ⟨ns, hr⟩ := h
  have hrow : ∀ {e' : TypeId} {size m : Nat} {v' : Value} {xs : List Value}, w.ownsRow B e' size v' m xs → (∀ j, v'.ownBlock = some j → ¬ P j) → w1.ownsRow B e' size v' m xs := fun ho hv => by
    refine ⟨ho.1, ?_⟩
    rcases ho.2 with q | ⟨b, cap, cur, rfl, hb, hg, rest⟩
    · exact .inl q
    · exact .inr ⟨b, cap, cur, rfl, hb, by rw [f.block b (Array.getElem?_eq_some_iff.1 hg).1 (hv b rfl)]; exact hg, rest⟩
  exact ⟨ns, hr.ge, hr.scn.heap (f.block rb hr.lt fun q => (hP rb q).1.1 rfl), hrow hr.row (fun j hj q => (hP j q).1.2 hj), hr.apart, hr.nds,
    fun x hx => ⟨hrow (hr.kids x hx).1 (fun j hj q => (hP j q).2 ((hr.kids x hx).2.2 j hj)), (hr.kids x hx).2⟩, fun j hj => Nat.lt_of_lt_of_le (hr.kbl j hj) f.size⟩
theorem Rr.new (h : Rr B rb s last r vn w) {j : Nat} (hj : w.heap.size ≤ j) : (j ≠ rb ∧ vn.ownBlock ≠ some j) ∧ ¬ vn.kb j := by
  have hl := h.lt
  have ho := h.own hj
  obtain ⟨ns, hr⟩ := h
  exact ⟨⟨by omega, ho⟩, fun q => by have := hr.kbl j q; omega⟩
/-- The list behind one more number. -/
theorem Rr.snoc (h : Rr B rb s last r vn w) {ks : List Nat} {x n : Nat} (hn : ks.length = n) (hk : KRow B w v ks) (ho : Off rb vn v) (k : Kp w w1) {g cap : Nat}
    (hown : w2.ownsRow B 3 1 (.slice (some ⟨g, 0, none⟩) (n + 1) cap) (n + 1) (nums ks ++ [.int .i64 x])) (hg : w1.grownBy w2 v.ownBlock) (hat : v.ownBlock = some g ∨ g = w1.heap.size) :
    Rr B rb s last r vn w2 ∧ KRow B w2 (.slice (some ⟨g, 0, none⟩) (n + 1) cap) (ks ++ [x]) ∧ Off rb vn (.slice (some ⟨g, 0, none⟩) (n + 1) cap) ∧ LAdv rb vn v w vn (.slice (some ⟨g, 0, none⟩) (n + 1) cap) w2 := by
  subst hn
  have f : Fr (Lb v) w w2 := ⟨hg.os.trans k.os, hg.tape.trans k.tape, hg.output.trans k.output, Nat.le_trans k.size hg.size, fun j hj hn => by
    rw [hg.block j (Nat.lt_of_lt_of_le hj k.size) (fun e => hn e.symm)]; exact k.block j hj⟩
  have hgo : (g ≠ rb ∧ vn.ownBlock ≠ some g) ∧ ¬ vn.kb g := by
    rcases hat with e | e
    · exact ho g e
    · exact h.new (by rw [e]; exact k.size)
  refine ⟨h.off (P := Lb v) (fun j hj => ho j hj) f, ?_, fun j hj => ?_, ⟨f.mono fun _ _ q => .inr q, .inl rfl, fun _ _ q => q, ?_⟩⟩
  · have := hown
    unfold KRow
    rw [show (ks ++ [x]).length = ks.length + 1 by simp, show nums (ks ++ [x]) = nums ks ++ [.int .i64 x] by simp [nums]]
    exact this
  · simp only [Value.ownBlock, Option.some.injEq] at hj
    rw [← hj]; exact hgo
  · rcases hat with e | e
    · exact .inl (by rw [e]; rfl)
    · exact .inr fun j hj => by
        simp only [Value.ownBlock, Option.some.injEq] at hj
        rw [← hj, e]; exact k.size
/-- One number of the list written over. -/
theorem Rr.write (h : Rr B rb s last r vn w) {ks : List Nat} {n c pb i x : Nat} (hk : KRow B w (.slice (some ⟨pb, 0, none⟩) n c) ks) (ho : Off rb vn (.slice (some ⟨pb, 0, none⟩) n c)) (hi : i < ks.length) :
    Rr B rb s last r vn (w.setCell ⟨pb, i, none⟩ (.int .i64 x)) ∧ KRow B (w.setCell ⟨pb, i, none⟩ (.int .i64 x)) (.slice (some ⟨pb, 0, none⟩) n c) (ks.set i x) ∧ LAdv rb vn (.slice (some ⟨pb, 0, none⟩) n c) w vn (.slice (some ⟨pb, 0, none⟩) n c) (w.setCell ⟨pb, i, none⟩ (.int .i64 x)) := by
  have f : Fr (Lb (.slice (some ⟨pb, 0, none⟩) n c)) w (w.setCell ⟨pb, i, none⟩ (.int .i64 x)) := Fr.setCell (S := Lb (.slice (some ⟨pb, 0, none⟩) n c)) rfl w
  refine ⟨h.off (P := Lb (.slice (some ⟨pb, 0, none⟩) n c)) (fun j hj => ho j hj) f, ?_, ⟨f.mono fun _ _ q => .inr q, .inl rfl, fun _ _ q => q, .inl rfl⟩⟩
  have hl := hk.1
  rcases hk.2 with ⟨q, _⟩ | ⟨b, cap, cur, e, hb, hg, h1, h2, h3, h4⟩
  · cases q
  · injection e with e1 e2 e3
    injection e1 with e1
    injection e1 with e1 _ _
    subst e1 e2 e3
    refine ⟨by simp [nums], .inr ⟨pb, c, _, by simp, hb, heap_setCell hg, by simpa using h1, h2, by simpa using h3, ?_⟩⟩
    rw [show (ks.set i x).length = ks.length by simp, Array.toList_setIfInBounds, show nums (ks.set i x) = (nums ks).set i (.int .i64 x) by simp [nums, List.map_set], ← h4, List.take_set]
end
end Go.Proofs.YtpahpnajeliodaaGreatDoor
