/- Texts that the proof of the law stands on: Items5, Coll, Sign, Sign2, Piece, Group, Branch0, Branch. -/
import Derived.Test.YtpahpnajeliodaaGreatDoorPartD
/- A collection's items: all of them. -/
namespace Go.Proofs.YtpahpnajeliodaaGreatDoor
open Go.ChangeShapes Go.WideShapes Go.ChangeAt Go.RowKit
set_option linter.unusedVariables false
set_option linter.unusedSimpArgs false
section
variable {s md : ByteArray} {k cs b : Nat} {q : S4} {fl : Bool} {w : World} {m : Int}
theorem named_any (h : It s md cs q fl k b w) (hq : q.ok) (hs : s.size ≤ 400) (hk : k < s.size) (hm : w.cell? ⟨3, 0, none⟩ = some (.int .i64 m)) :
    Calls Tryz.prog 100 #[.pointer (some ⟨b, 0, none⟩)] w fun e w' => e = .returned (.bool (namS s k q).1) ∧ Fr (On b) w w' ∧ It s md cs (namS s k q).2.1 fl (namS s k q).2.2 b w' := by
  cases hf : namF s k with
  | none =>
    have e : namS s k q = (false, q, k) := by unfold namS; rw [hf]
    rw [e]
    by_cases h1 : pfx s k opN = true
    · by_cases h2 : (Lib.cut (s.data.toList.drop (k + 2)) clN.data.toList).2.2 = true
      · by_cases h3 : nmK (Lib.cut (s.data.toList.drop (k + 2)) clN.data.toList).1 = true
        · unfold namF at hf
          rw [if_pos h1, if_pos h2, if_pos h3] at hf
          cases hf
        · exact named_no3 h hs hk hm h1 h2 (Bool.eq_false_iff.2 h3)
      · exact named_no2 h hs hk hm h1 (Bool.eq_false_iff.2 h2)
    · exact named_no1 h hs hk (Bool.eq_false_iff.2 h1)
  | some l =>
    have e : namS s k q = (true, bothS q (foldS (nmB l) 256), k + (l.length + 4)) := by unfold namS; rw [hf]
    rw [e]
    have hf' := hf
    unfold namF at hf
    split at hf
    · rename_i h1
      split at hf
      · rename_i h2
        split at hf
        · rename_i h3
          injection hf with hf
          exact named_yes h hs hk hm h1 h2 h3 hq l hf' hf
        · cases hf
      · cases hf
    · cases hf
theorem spanF_le (q : S4) (fl : Bool) (hk : k < s.size) : k < (spanF s k q fl).2.2 ∧ (spanF s k q fl).2.2 ≤ s.size := by
  obtain ⟨a1, a2, a3⟩ := memF_le hk
  unfold spanF
  simp only
  cases h : spanB s (memF s k).2 with
  | true =>
    have h' := of_decide_eq_true h
    obtain ⟨b1, b2, b3⟩ := memF_le h'.1
    rw [if_pos rfl]
    exact ⟨by omega, b2⟩
  | false =>
    rw [if_neg (by simp)]
    exact ⟨a1, a2⟩
theorem spanF_ok (hq : q.ok) (fl : Bool) (hk : k < s.size) : (spanF s k q fl).1.ok := by
  obtain ⟨a1, a2, a3⟩ := memF_le hk
  unfold spanF
  simp only
  cases h : spanB s (memF s k).2 with
  | true =>
    have h' := of_decide_eq_true h
    obtain ⟨b1, b2, b3⟩ := memF_le h'.1
    rw [if_pos rfl]
    exact addTo_ok hq (by omega)
  | false =>
    rw [if_neg (by simp)]
    exact addTo_ok hq (by omega)
/-- One item: the set, whether a range falls, where it ends. -/
def itF (s : ByteArray) (k : Nat) (q : S4) (fl : Bool) : S4 × Bool × Nat :=
  if (namS s k q).1 then ((namS s k q).2.1, fl, (namS s k q).2.2) else spanF s k q fl
theorem namS_ok (hq : q.ok) : (namS s k q).2.1.ok := by
  unfold namS
  cases namF s k with
  | none => exact hq
  | some l => exact ok_both hq (ok_fold _ _ (by decide))
theorem itF_le (hq : q.ok) (fl : Bool) (hk : k < s.size) : k < (itF s k q fl).2.2 ∧ (itF s k q fl).2.2 ≤ s.size ∧ (itF s k q fl).1.ok := by
  unfold itF
  cases h : (namS s k q).1 with
  | true =>
    obtain ⟨a, b, c⟩ := namS_le (s := s) (k := k) q (by omega)
    rw [if_pos rfl]
    exact ⟨c h, b, namS_ok hq⟩
  | false =>
    rw [if_neg (by simp)]
    exact ⟨(spanF_le q fl hk).1, (spanF_le q fl hk).2, spanF_ok hq fl hk⟩
/-- All items, up to a ] that is not the first byte. -/
def rdF (s : ByteArray) (first : Nat) : Nat → Nat → S4 → Bool → Option (S4 × Bool × Nat)
  | 0, _, _, _ => none
  | n + 1, k, q, fl =>
    if k < s.size then
      if first < k ∧ byteAt s k = 93 then some (q, fl, k + 1)
      else rdF s first n (itF s k q fl).2.2 (itF s k q fl).1 (itF s k q fl).2.1
    else none
theorem pfx1 (s : ByteArray) (k : Nat) (hk : k < s.size) : pfx s k ⟨#[93]⟩ = decide (byteAt s k = 93) := by
  unfold pfx Lib.hasPrefix
  rw [byteAt_eq s k hk, List.drop_eq_getElem_cons (by rw [← Lib.size_eq]; omega)]
  simp only [List.isPrefixOf, Bool.and_true]
  have e : (s.data.toList[k]'(by rw [← Lib.size_eq]; omega)) = s[k] := rfl
  rw [e]
  by_cases h : s[k] = 93
  · rw [h]; rfl
  · have h2 : ¬ (s[k]).toNat = 93 := fun q => h (UInt8.toNat_inj.1 (by rw [q]; rfl))
    rw [decide_eq_false h2]
    exact beq_eq_false_iff_ne.2 (Ne.symm h)
theorem Fr.cell3 {w' : World} {v : Value} (h : Fr (On b) w w') (hb : b ≠ 3) (hm : w.cell? ⟨3, 0, none⟩ = some v) : w'.cell? ⟨3, 0, none⟩ = some v := by
  have h3 : 3 < w.heap.size := by
    unfold World.cell? at hm
    cases hg : w.heap[3]? with
    | none => simp [hg] at hm
    | some o => exact (Array.getElem?_eq_some_iff.1 hg).1
  have := h.block 3 h3 (fun q => hb (by unfold On at q; omega))
  rw [← hm]
  simp [World.cell?, this]
def RdP (s md : ByteArray) (cs b : Nat) (X : Option (S4 × Bool × Nat)) (w w' : World) : Prop :=
  Fr (On b) w w' ∧ ∀ r, X = some r → It s md cs r.1 r.2.1 r.2.2 b w'
set_option maxHeartbeats 4000000 in
set_option maxRecDepth 100000 in
theorem iread_any (h : It s md cs q fl k b w) (hq : q.ok) (hs : s.size ≤ 400) (hk : k ≤ s.size) (hm : w.cell? ⟨3, 0, none⟩ = some (.int .i64 m)) (hb : b ≠ 3) (X : Option (S4 × Bool × Nat)) (hX : rdF s k (s.size + 1) k q fl = X) :
    Calls Tryz.prog 94 #[.pointer (some ⟨b, 0, none⟩)] w fun e w' => e = .returned (.bool X.isSome) ∧ RdP s md cs b X w w' := by
  have d1 := h.c1
  have HB : Hid (b ≠ 3) := hb
  have H0 : Hid (It s md cs q fl k b w ∧ q.ok ∧ rdF s k (s.size + 1) k q fl = X ∧ w.cell? ⟨3, 0, none⟩ = some (.int .i64 m)) := ⟨h, hq, hX, hm⟩
  clear h hq hm hb hX
  go_enter Tryz.func94, Tryz.ntmps94
  go_wp2_with fail
  go_loopw [2] (fun v2 wr => ∃ (n : Nat) (k' : Nat) (q' : S4) (fl' : Bool), v2 = .bool false ∧ s.size - k' < n ∧ k ≤ k' ∧ k' ≤ s.size ∧ q'.ok ∧ rdF s k n k' q' fl' = X ∧ Fr (On b) w wr ∧ It s md cs q' fl' k' b wr ∧ wr.cell? ⟨3, 0, none⟩ = some (.int .i64 m)) (fun v2 wr => s.size - atOf b wr)
  case atStart => exact ⟨_, k, q, fl, rfl, by omega, Nat.le_refl _, hk, H0.out.2.1, H0.out.2.2.1, Fr.refl _ _, H0.out.1, H0.out.2.2.2⟩
  case round =>
    obtain ⟨n, k', q', fl', rfl, hn, hkk, hks, hq, hX, hF, hI, hm⟩ := hrel
    cases n with
    | zero => omega
    | succ n =>
    have hX' : (if k' < s.size then (if k < k' ∧ byteAt s k' = 93 then some (q', fl', k' + 1) else rdF s k n (itF s k' q' fl').2.2 (itF s k' q' fl').1 (itF s k' q' fl').2.1) else none) = X := hX
    clear hX
    have g0 := hI.c0
    have g1 := hI.c1
    have hs' : s.size ≤ 400 := hs
    by_cases hlt : k' < s.size
    · rw [if_pos hlt] at hX'
      have dl : decide ((k' : Int) < (s.size : Int)) = true := decide_eq_true (by omega)
      have H1 : Hid (Fr (On b) w wr ∧ It s md cs q' fl' k' b wr ∧ wr.cell? ⟨3, 0, none⟩ = some (.int .i64 m)) := ⟨hF, hI, hm⟩
      have HQ : Hid (q'.ok) := hq
      have HA : Hid (atOf b wr = k') := hI.atOf
      have HX : Hid _ := hX'
      clear hF hI hm hX' hq
      go_wp2_with fail
      go_quiet (fail)
      have H2 : Hid (Fr (On b) w (wr.drewN nq) ∧ It s md cs q' fl' k' b (wr.drewN nq) ∧ (wr.drewN nq).cell? ⟨3, 0, none⟩ = some (.int .i64 m)) := ⟨H1.out.1.trans (Fr.drewN _ _ _), Scn.drewN H1.out.2.1 nq, by rw [← H1.out.2.2]; simp [World.cell?, drewN_heap]⟩
      change Exit.then _ _ _ _ (wr.drewN nq)
      clear g0 g1 H1
      generalize wr.drewN nq = w2 at *
      have g1 := H2.out.2.1.c1
      obtain ⟨y, hy⟩ : ∃ y, decide (k < k' ∧ byteAt s k' = 93) = y := ⟨_, rfl⟩
      have HY : Hid (decide (k < k' ∧ byteAt s k' = 93) = y) := hy
      have HS : Hid (∀ z, (byteAt s k' = 93 ↔ z = true) → Calls Tryz.prog 92 #[.pointer (some ⟨b, 0, none⟩), .string ⟨#[93]⟩] w2 fun e w' => e = .returned (.bool z) ∧ Fr (On b) w2 w' ∧ It s md cs q' fl' (if z then k' + 1 else k') b w') := fun z hz => by
        have := skip_any H2.out.2.1 hs' hks ⟨#[93]⟩ (by decide) z (by
          rw [pfx1 s k' hlt]
          by_cases h9 : byteAt s k' = 93
          · rw [decide_eq_true h9, (hz.1 h9)]
          · rw [decide_eq_false h9]
            cases z with
            | false => rfl
            | true => exact absurd (hz.2 rfl) h9)
        exact this
      clear hy
      go_upto_region 3 with fail
      go_cut [33] from 21 (fun v33 wx => v33 = .bool y ∧ Fr (On b) w wx ∧ It s md cs q' fl' (if y then k' + 1 else k') b wx)
      case first =>
        by_cases hf : k < k'
        · have dg : decide ((k : Int) < (k' : Int)) = true := decide_eq_true (by omega)
          have dg2 : decide (k < k') = true := decide_eq_true hf
          have HS1 : Hid _ := HS.out y (by
            have := HY.out
            constructor
            · intro h9; rw [← this]; exact decide_eq_true ⟨hf, h9⟩
            · intro hy; rw [hy] at this; exact (of_decide_eq_true this).2)
          clear HS
          go_wp2_with fail
          refine Calls.mono HS1.out ?_
          rintro e w3 ⟨rfl, z1, z2⟩
          have H3 : Hid (Fr (On b) w w3 ∧ It s md cs q' fl' (if y then k' + 1 else k') b w3) := ⟨H2.out.1.trans z1, z2⟩
          clear z1 z2
          go_wp2_with fail
          go_meet
          case rel => exact ⟨rfl, H3.out⟩
        · have dg : decide ((k : Int) < (k' : Int)) = false := decide_eq_false (by omega)
          have dg2 : decide (k < k') = false := decide_eq_false hf
          have HYf : Hid (y = false) := by
            show y = false
            rw [← HY.out]; exact decide_eq_false fun h => hf h.1
          clear HS
          go_wp2_with fail
          go_meet
          case rel => exact ⟨by rw [HYf.out], H2.out.1, by rw [HYf.out]; exact H2.out.2.1⟩
      case rest =>
        obtain ⟨rfl, hF, hI⟩ := hcut
        have HM : Hid (wc.cell? ⟨3, 0, none⟩ = some (.int .i64 m)) := hF.cell3 HB.out H0.out.2.2.2
        cases y with
        | true =>
          have H4 : Hid (Fr (On b) w wc ∧ It s md cs q' fl' (k' + 1) b wc) := ⟨hF, hI⟩
          have HXt : Hid (X = some (q', fl', k' + 1)) := by
            have := HX.out
            rw [if_pos (of_decide_eq_true HY.out)] at this
            exact this.symm
          clear hF hI
          go_wp2_with fail
          go_ret
          rw [HXt.out]
          exact ⟨rfl, H4.out.1, fun r hr => by injection hr with hr; subst hr; exact H4.out.2⟩
        | false =>
          have H4 : Hid (Fr (On b) w wc ∧ It s md cs q' fl' k' b wc) := ⟨hF, hI⟩
          have HXf : Hid (rdF s k n (itF s k' q' fl').2.2 (itF s k' q' fl').1 (itF s k' q' fl').2.1 = X) := by
            have := HX.out
            rw [if_neg (of_decide_eq_false HY.out)] at this
            exact this
          obtain ⟨l1, l2, l3⟩ := itF_le HQ.out fl' hlt
          have HN : Hid _ := named_any (k := k') H4.out.2 HQ.out hs' hlt HM.out
          clear hF hI
          obtain ⟨⟨ny, nq2, nk⟩, hN⟩ : ∃ N, namS s k' q' = N := ⟨_, rfl⟩
          have HNe : Hid (namS s k' q' = (ny, nq2, nk)) := hN
          rw [hN] at HN
          clear hN
          go_wp2_with fail
          refine Calls.mono HN.out ?_
          rintro e w5 ⟨rfl, z1, z2⟩
          have H5 : Hid (Fr (On b) w w5 ∧ It s md cs nq2 fl' nk b w5) := ⟨H4.out.1.trans z1, z2⟩
          clear z1 z2
          have HL : Hid (_ ∧ _ ∧ _) := ⟨l1, l2, l3⟩
          clear l1 l2 l3
          cases ny with
          | true =>
            have HI : Hid (itF s k' q' fl' = (nq2, fl', nk)) := by
              show itF s k' q' fl' = _
              unfold itF
              rw [HNe.out]; rfl
            go_wp2_with fail
            go_roundw
            case rel =>
              have h1 := HXf.out
              have h2 := HL.out
              rw [HI.out] at h1 h2
              exact ⟨n, nk, nq2, fl', rfl, by have := h2.1; simp only at this; omega, by have := h2.1; simp only at this; omega, h2.2.1, h2.2.2, h1, H5.out.1, H5.out.2, H5.out.1.cell3 HB.out H0.out.2.2.2⟩
            case measure =>
              have h2 := HL.out
              rw [HI.out] at h2
              rw [HA.out, H5.out.2.atOf]
              have := h2.1
              simp only at this
              omega
          | false =>
            have HI : Hid (itF s k' q' fl' = spanF s k' q' fl' ∧ nq2 = q' ∧ nk = k') := by
              have h1 := HNe.out
              refine ⟨?_, ?_⟩
              · unfold itF
                rw [h1]; rfl
              · unfold namS at h1
                cases hn : namF s k' with
                | none => rw [hn] at h1; simp only [Prod.mk.injEq] at h1; exact ⟨h1.2.1.symm, h1.2.2.symm⟩
                | some l => rw [hn] at h1; simp only [Prod.mk.injEq] at h1; cases h1.1
            have HP : Hid _ := span_any (by have h1 := H5.out.2; rw [HI.out.2.1, HI.out.2.2] at h1; exact h1) HQ.out hs' hlt
            go_wp2_with fail
            refine Calls.mono HP.out ?_
            rintro e w6 ⟨rfl, z1, z2⟩
            have H6 : Hid (Fr (On b) w w6 ∧ It s md cs (itF s k' q' fl').1 (itF s k' q' fl').2.1 (itF s k' q' fl').2.2 b w6) := ⟨H5.out.1.trans z1, by rw [HI.out.1]; exact z2⟩
            clear z1 z2
            go_wp2_with fail
            go_roundw
            case rel =>
              have h2 := HL.out
              exact ⟨n, _, _, _, rfl, by have := h2.1; omega, by have := h2.1; omega, h2.2.1, h2.2.2, HXf.out, H6.out.1, H6.out.2, H6.out.1.cell3 HB.out H0.out.2.2.2⟩
            case measure =>
              rw [HA.out, H6.out.2.atOf]
              have := HL.out.1
              omega
    · rw [if_neg hlt] at hX'
      have dl : decide ((k' : Int) < (s.size : Int)) = false := decide_eq_false (by omega)
      have H1 : Hid (X = none ∧ ∀ n, Fr (On b) w (wr.drewN n)) := ⟨hX'.symm, fun n => hF.trans (Fr.drewN _ _ _)⟩
      clear hF hI hm hX' hq
      go_wp2_with fail
      go_quiet (fail)
      go_wp2_with fail
      go_ret
      rw [H1.out.1]
      exact ⟨rfl, H1.out.2 _, fun r hr => by cases hr⟩
end
end Go.Proofs.YtpahpnajeliodaaGreatDoor
/- A collection. -/
namespace Go.Proofs.YtpahpnajeliodaaGreatDoor
open Go.ChangeShapes Go.WideShapes Go.ChangeAt Go.RowKit
set_option linter.unusedVariables false
set_option linter.unusedSimpArgs false
theorem rdF_ok {s : ByteArray} {first : Nat} : ∀ (n k : Nat) (q : S4) (fl : Bool) (q' : S4) (fl' : Bool) (k' : Nat), q.ok → rdF s first n k q fl = some (q', fl', k') → q'.ok ∧ k < k' ∧ k' ≤ s.size
  | 0, _, _, _, _, _, _, _, h => by cases h
  | n + 1, k, q, fl, q', fl', k', hq, h => by
    unfold rdF at h
    split at h
    · rename_i hk
      obtain ⟨a, b, c⟩ := itF_le hq fl hk
      split at h
      · simp only [Option.some.injEq, Prod.mk.injEq] at h
        obtain ⟨rfl, _, rfl⟩ := h
        exact ⟨hq, by omega, by omega⟩
      · obtain ⟨x, y, z⟩ := rdF_ok n _ _ _ _ _ _ c h
        exact ⟨x, by omega, z⟩
    · cases h
def rdX (s : ByteArray) (k1 : Nat) : Option (S4 × Bool × Nat) := rdF s k1 (s.size + 1) k1 zeroS false
def hat : ByteArray := ⟨#[94]⟩
/-- A collection behind its sign: its set, if it is one. -/
def collF (s : ByteArray) (t : Tok) (r : RS) : Except (Nat × Nat) (Option S4 × RS) :=
  match rdX s (if pfx s r.k hat then r.k + 1 else r.k) with
  | none => .ok (none, r)
  | some (q, fl, k2) => if fl then .error (30, t.pl) else .ok (some (if pfx s r.k hat then notS q else q), { r with k := k2 })
def S4.v (q : S4) : Value := .agg #[.int .u64 q.a, .int .u64 q.b, .int .u64 q.c, .int .u64 q.d]
def RetC (B rb : Nat) (s last : ByteArray) (vn : Qv) (w : World) (R : Except (Nat × Nat) (Option S4 × RS)) (e : Ending) (w' : World) : Prop :=
  match R with
  | .ok (none, r') => e = .returned (.tuple #[zeroS.v, .bool false]) ∧ Okk B rb s last vn w r' w'
  | .ok (some q, r') => e = .returned (.tuple #[q.v, .bool true]) ∧ Okk B rb s last vn w r' w'
  | .error (n, p) => e = Wrong n p ∧ Er rb vn w w'
/-- What stands behind the collection's first steps: the token, the answer, and nothing old has turned. -/
def Cl (w : World) (t : Tok) (m : Int) (w2 : World) : Prop := Kp w w2 ∧ TokBox w.heap.size t w2 ∧ SetBox (w.heap.size + 1) zeroS w2 ∧ w2.cell? ⟨3, 0, none⟩ = some (.int .i64 m)
theorem kp_new {w wa wb : World} {b : Nat} (h : Kp w wa) (f : Fr (On b) wa wb) (hb : w.heap.size ≤ b) : Kp w wb :=
  h.trans (f.below h.size fun k hk q => by unfold On at q; omega)
theorem Cl.fr {w wa wb : World} {t : Tok} {m : Int} {b : Nat} (h : Cl w t m wa) (f : Fr (On b) wa wb) (hb : b = w.heap.size + 1 + 1) (h3 : 3 < w.heap.size) : Cl w t m wb := by
  obtain ⟨a, b1, c, d⟩ := h
  refine ⟨kp_new a f (by omega), b1.fr f (by omega), ?_, f.cell3 (by omega) d⟩
  unfold SetBox at *
  rw [f.block _ (Array.getElem?_eq_some_iff.1 c).1 (by unfold On; omega)]; exact c
theorem SetBox.put {n : Nat} {q : S4} {w : World} (h : SetBox n q w) (a b c d : Value) : (w.setCell ⟨n, 0, none⟩ a).cell? ⟨n, 0, none⟩ = some a ∧ ((w.setCell ⟨n, 0, none⟩ a).setCell ⟨n, 1, none⟩ b).cell? ⟨n, 1, none⟩ = some b ∧ (((w.setCell ⟨n, 0, none⟩ a).setCell ⟨n, 1, none⟩ b).setCell ⟨n, 2, none⟩ c).cell? ⟨n, 2, none⟩ = some c ∧
    ((((w.setCell ⟨n, 0, none⟩ a).setCell ⟨n, 1, none⟩ b).setCell ⟨n, 2, none⟩ c).setCell ⟨n, 3, none⟩ d).cell? ⟨n, 3, none⟩ = some d := by
  have h0 := heap_setCell (off := 0) (v := a) h
  have h1 := heap_setCell (off := 1) (v := b) h0
  have h2 := heap_setCell (off := 2) (v := c) h1
  have h3 := heap_setCell (off := 3) (v := d) h2
  exact ⟨by simp only [World.cell?, h0]; rfl, by simp only [World.cell?, h1]; rfl, by simp only [World.cell?, h2]; rfl, by simp only [World.cell?, h3]; rfl⟩
theorem SetBox.fz {n : Nat} {q : S4} {w : World} (h : SetBox n q w) (j : Nat) : w.frozen? ⟨n, j, none⟩ = false := by unfold SetBox at h; simp [World.frozen?, h]
theorem Scn.set0 {T : TypeId} {tl : List Value} {s md : ByteArray} {at_ cs b : Nat} {w : World} (h : Scn T tl s at_ md cs b w) (s' : ByteArray) : Scn T tl s' at_ md cs b (w.setCell ⟨b, 0, none⟩ (.string s')) := by unfold Scn at h ⊢; rw [heap_setCell h]; simp
theorem okk_new {B rb n1 : Nat} {s last : ByteArray} {r r' : RS} {vn : Qv} {w w3 w4 : World} (h : Rr B rb s last r vn w) (hR : Rr B rb s last r' vn w3) (hA : Adv rb vn w vn w3) (hn : w.heap.size ≤ n1) (f : Fr (On n1) w3 w4) : Okk B rb s last vn w r' w4 :=
  ⟨vn, hR.off (P := On n1) (fun j hj => by unfold On at hj; subst hj; exact h.new hn) f, ⟨hA.fr.trans' f fun k hk q => by unfold On at q; omega, .inl rfl, fun _ _ q => .inl q⟩⟩
theorem fr_four (n : Nat) (a b c d : Value) (w : World) : Fr (On n) w ((((w.setCell ⟨n, 0, none⟩ a).setCell ⟨n, 1, none⟩ b).setCell ⟨n, 2, none⟩ c).setCell ⟨n, 3, none⟩ d) :=
  (((fr_set n 0 _ w).trans (fr_set n 1 _ _)).trans (fr_set n 2 _ _)).trans (fr_set n 3 _ _)
section
variable {B rb : Nat} {s last : ByteArray} {r : RS} {vn : Qv} {w : World} {m : Int}
set_option maxHeartbeats 4000000 in
set_option maxRecDepth 100000 in
theorem coll_any (h : Rr B rb s last r vn w) (hs : s.size ≤ 400) (ha : r.k ≤ s.size) (hm : w.cell? ⟨3, 0, none⟩ = some (.int .i64 m)) (t : Tok) :
    Calls Tryz.prog 77 #[.pointer (some ⟨rb, 0, none⟩), t.val] w (RetC B rb s last vn w (collF s t r)) := by
  obtain ⟨kd, c, pl⟩ := t
  unfold collF Tok.val
  simp only
  obtain ⟨o, ho⟩ : ∃ o, pfx s r.k hat = o := ⟨_, rfl⟩
  obtain ⟨k1, hk1⟩ : ∃ k1, (if o then r.k + 1 else r.k) = k1 := ⟨_, rfl⟩
  have hk1s : k1 ≤ s.size := by
    rw [← hk1]
    cases o with
    | true => have := pfx_len ho ha; exact this
    | false => exact ha
  rw [ho, hk1]
  obtain ⟨X, hX⟩ : ∃ X, rdX s k1 = X := ⟨_, rfl⟩
  rw [hX]
  have d0 := h.scn.c0
  have d1 := h.scn.c1
  have d2 := h.scn.c2
  have d3 := h.scn.c3
  have HR : Hid (Rr B rb s last r vn w ∧ rb < w.heap.size ∧ pfx s r.k hat = o ∧ (if o then r.k + 1 else r.k) = k1 ∧ rdX s k1 = X ∧ w.cell? ⟨3, 0, none⟩ = some (.int .i64 m)) := ⟨h, h.lt, ho, hk1, hX, hm⟩
  have hrb : rb < w.heap.size := h.lt
  obtain ⟨k, md, cs, g, cl, nds⟩ := r
  simp only at *
  clear h ho hk1 hX hm
  go_enter Tryz.func77, Tryz.ntmps77
  go_wp2_with fail
  obtain ⟨w0, hw0⟩ : ∃ w0, ((((w.alloc (.cells #[.int .u8 kd, .int .u8 c, .int .i64 pl] 75)).alloc (.cells #[.int .u64 0, .int .u64 0, .int .u64 0, .int .u64 0] 70)).alloc (.cells #[.string s, .int .i64 k, .string md, .int .u8 cs, .int .u64 0, .int .u64 0, .int .u64 0, .int .u64 0, .bool false] 141))) = w0 := ⟨_, rfl⟩
  rw [hw0]
  have H0 : Hid (Cl w ⟨kd, c, pl⟩ m w0 ∧ It s md cs zeroS false k (w.heap.size + 1 + 1) w0 ∧ 3 < w.heap.size) := by
    subst hw0
    have h3 : 3 < w.heap.size := by
      have hm := HR.out.2.2.2.2.2
      unfold World.cell? at hm
      cases hg : w.heap[3]? with
      | none => simp [hg] at hm
      | some o => exact (Array.getElem?_eq_some_iff.1 hg).1
    have e1 := alloc_new w (.cells #[.int .u8 kd, .int .u8 c, .int .i64 pl] 75)
    generalize hwa : w.alloc (.cells #[.int .u8 kd, .int .u8 c, .int .i64 pl] 75) = wa at *
    have s1 : wa.heap.size = w.heap.size + 1 := by rw [← hwa, alloc_size]
    have k1 : Kp w wa := by rw [← hwa]; exact kp_alloc _ _
    have e2 := alloc_new wa (.cells #[.int .u64 0, .int .u64 0, .int .u64 0, .int .u64 0] 70)
    generalize hwb : wa.alloc (.cells #[.int .u64 0, .int .u64 0, .int .u64 0, .int .u64 0] 70) = wb at *
    have s2 : wb.heap.size = w.heap.size + 1 + 1 := by rw [← hwb, alloc_size, s1]
    have k2 : Kp wa wb := by rw [← hwb]; exact kp_alloc _ _
    have e3 := alloc_new wb (.cells #[.string s, .int .i64 k, .string md, .int .u8 cs, .int .u64 0, .int .u64 0, .int .u64 0, .int .u64 0, .bool false] 141)
    generalize hwc : wb.alloc (.cells #[.string s, .int .i64 k, .string md, .int .u8 cs, .int .u64 0, .int .u64 0, .int .u64 0, .int .u64 0, .bool false] 141) = wc at *
    have k3 : Kp wb wc := by rw [← hwc]; exact kp_alloc _ _
    have kk := kp_trans k1 (kp_trans k2 k3)
    refine ⟨⟨kk, TokBox.kp (t := ⟨kd, c, pl⟩) e1 (kp_trans k2 k3), ?_, ?_⟩, ?_, h3⟩
    · unfold SetBox
      rw [k3.block _ (by omega), ← s1]; exact e2
    · rw [← HR.out.2.2.2.2.2]
      simp [World.cell?, kk.block 3 h3]
    · unfold It Scn
      rw [← s2]; exact e3
  clear hw0
  obtain ⟨b, hb⟩ : ∃ b, w.heap.size + 1 + 1 = b := ⟨_, rfl⟩
  obtain ⟨n1, hn1⟩ : ∃ n1, w.heap.size + 1 = n1 := ⟨_, rfl⟩
  have HNB : Hid (w.heap.size + 1 + 1 = b ∧ w.heap.size + 1 = n1 ∧ b ≠ 3) := ⟨hb, hn1, by have := H0.out.2.2; omega⟩
  rw [hb] at H0 ⊢
  rw [hn1]
  have HS : Hid _ := skip_any H0.out.2.1 hs ha ⟨#[94]⟩ (by decide) o HR.out.2.2.1
  refine Calls.mono HS.out ?_
  rintro e w1 ⟨rfl, z1, z2⟩
  have H1 : Hid (Cl w ⟨kd, c, pl⟩ m w1 ∧ It s md cs zeroS false k1 b w1) := ⟨H0.out.1.fr z1 HNB.out.1.symm H0.out.2.2, by rw [← HR.out.2.2.2.1]; cases o <;> exact z2⟩
  have HI : Hid _ := iread_any H1.out.2 ok_zero hs hk1s H1.out.1.2.2.2 HNB.out.2.2 X HR.out.2.2.2.2.1
  clear z1 z2 d0 d1 d2 d3
  go_wp2_with fail
  refine Calls.mono HI.out ?_
  rintro e w2 ⟨rfl, z1, z2⟩
  have H2 : Hid (Cl w ⟨kd, c, pl⟩ m w2 ∧ ∀ r, X = some r → It s md cs r.1 r.2.1 r.2.2 b w2) := ⟨H1.out.1.fr z1 HNB.out.1.symm H0.out.2.2, z2⟩
  clear z1 z2
  have H2S : Hid (SetBox n1 zeroS w2) := by have := H2.out.1.2.2.1; rw [HNB.out.2.1] at this; exact this
  obtain ⟨u0, u1, u2, u3⟩ := H2S.out.cells
  have v0 := H2S.out.fz 0
  have v1 := H2S.out.fz 1
  have v2 := H2S.out.fz 2
  have v3 := H2S.out.fz 3
  have HNW : Hid (w.heap.size ≤ n1) := by show _ ≤ _; omega
  cases X with
  | none =>
    clear hb hn1
    go_wp2_with fail
    obtain ⟨e0, e1, e2, e3⟩ := H2S.out.put (.int .u64 0) (.int .u64 0) (.int .u64 0) (.int .u64 0)
    exact bodyPost_ret (v := .tuple #[.agg #[.int .u64 0, .int .u64 0, .int .u64 0, .int .u64 0], .bool false]) (by simp [results, Tryz.results77, go_sem, e0, e1, e2, e3]) rfl ⟨rfl, okk_new HR.out.1 (HR.out.1.kp H2.out.1.1) (Adv.kp vn rb H2.out.1.1) HNW.out (fr_four _ _ _ _ _ _)⟩
  | some X =>
    obtain ⟨q, fl, k2⟩ := X
    have hI := H2.out.2 _ rfl
    simp only at hI
    obtain ⟨⟨x4, x5, x6, x7⟩, x8⟩ := hI.cells
    have x0 := hI.c0
    have x1 := hI.c1
    have x2 := hI.c2
    have x3 := hI.c3
    have HIt : Hid _ := hI
    obtain ⟨⟨t0, t1, t2⟩, _⟩ := H2.out.1.2.1.cells
    clear hI hb hn1
    cases fl with
    | true =>
      go_wp2_with fail
      exact ⟨rfl, rfl, HR.out.1.er (Adv.kp vn rb H2.out.1.1)⟩
    | false =>
      have hR2 := HR.out.1.kp H2.out.1.1
      have y0 := hR2.scn.c0
      have y1 := hR2.scn.c1
      have y2 := hR2.scn.c2
      have y3 := hR2.scn.c3
      have f0 := hR2.scn.fz 0
      have f1 := hR2.scn.fz 1
      have f2 := hR2.scn.fz 2
      have f3 := hR2.scn.fz 3
      simp only at y1 y2 y3
      have H3 : Hid (∃ w3, ((((w2.setCell ⟨rb, 0, none⟩ (.string s)).setCell ⟨rb, 1, none⟩ (.int .i64 k2)).setCell ⟨rb, 2, none⟩ (.string md)).setCell ⟨rb, 3, none⟩ (.int .u8 cs)) = w3 ∧ Rr B rb s last ⟨k2, md, cs, g, cl, nds⟩ vn w3 ∧ Adv rb vn w vn w3 ∧ It s md cs q false k2 b w3 ∧ SetBox n1 zeroS w3) := by
        refine ⟨_, rfl, ?_⟩
        have fr : Fr (On rb) w2 ((((w2.setCell ⟨rb, 0, none⟩ (.string s)).setCell ⟨rb, 1, none⟩ (.int .i64 k2)).setCell ⟨rb, 2, none⟩ (.string md)).setCell ⟨rb, 3, none⟩ (.int .u8 cs)) := (((fr_set rb 0 _ w2).trans (fr_set rb 1 _ _)).trans (fr_set rb 2 _ _)).trans (fr_set rb 3 _ _)
        have sc := ((hR2.scn.set0 s).set1 k2).set2 md |>.set3 cs
        have l1 := HNB.out
        refine ⟨hR2.scan fr sc, (Adv.kp vn rb H2.out.1.1).trans (Adv.on vn fr), Scn.heap HIt.out (fr.block b (Scn.lt HIt.out) (by unfold On; omega)), ?_⟩
        have hS := H2S.out
        unfold SetBox at *
        rw [fr.block _ (Array.getElem?_eq_some_iff.1 hS).1 (by unfold On; omega)]; exact hS
      clear hR2
      go_upto_region 8 with fail
      clear y0 y1 y2 y3 f0 f1 f2 f3 x0 x1 x2 x3 x4 x5 x6 x7 x8 t0 t1 t2 u0 u1 u2 u3 v0 v1 v2 v3
      obtain ⟨w3, hw3, hR3, hA3, hI3, hS3⟩ := H3.out
      rw [hw3]
      obtain ⟨⟨x4, x5, x6, x7⟩, _⟩ := hI3.cells
      have H4 : Hid (Rr B rb s last ⟨k2, md, cs, g, cl, nds⟩ vn w3 ∧ Adv rb vn w vn w3 ∧ n1 < w3.heap.size) := ⟨hR3, hA3, (Array.getElem?_eq_some_iff.1 hS3).1⟩
      have HS3 : Hid (SetBox n1 zeroS w3) := hS3
      have HQok : Hid (q.ok) := (rdF_ok _ _ _ _ _ _ _ ok_zero HR.out.2.2.2.2.1).1
      clear hw3 hR3 hA3 hI3 hS3 H3
      cases o with
      | true =>
        have HN : Hid _ := kNot_any q HQok.out w3
        obtain ⟨N, hN⟩ : ∃ N, notS q = N := ⟨_, rfl⟩
        have HNe : Hid (notS q = N) := hN
        rw [hN] at HN
        clear hN
        go_wp2_with fail
        refine Calls.mono HN.out ?_
        rintro e w4 ⟨rfl, z⟩
        have H5 : Hid (Rr B rb s last ⟨k2, md, cs, g, cl, nds⟩ vn w4 ∧ Adv rb vn w vn w4) := ⟨H4.out.1.kp z, H4.out.2.1.trans (Adv.kp vn rb z)⟩
        have HSw : Hid (SetBox n1 zeroS w4) := by
          have := HS3.out
          unfold SetBox at *
          show _ = _
          rw [z.block _ H4.out.2.2]; exact this
        clear z H4
        have H4 : Hid (_ ∧ _ ∧ True) := ⟨H5.out.1, H5.out.2, trivial⟩
        obtain ⟨u0, u1, u2, u3⟩ := HSw.out.cells
        have v0 := HSw.out.fz 0
        have v1 := HSw.out.fz 1
        have v2 := HSw.out.fz 2
        have v3 := HSw.out.fz 3
        go_wp2_with fail
        simp only [if_true, HNe.out]
        obtain ⟨e0, e1, e2, e3⟩ := HSw.out.put (.int .u64 N.a) (.int .u64 N.b) (.int .u64 N.c) (.int .u64 N.d)
        exact bodyPost_ret (v := .tuple #[.agg #[.int .u64 N.a, .int .u64 N.b, .int .u64 N.c, .int .u64 N.d], .bool true]) (by simp [results, Tryz.results77, go_sem, e0, e1, e2, e3]) rfl ⟨rfl, okk_new HR.out.1 H4.out.1 H4.out.2.1 HNW.out (fr_four _ _ _ _ _ _)⟩
      | false =>
        have HSw := HS3
        obtain ⟨u0, u1, u2, u3⟩ := HSw.out.cells
        have v0 := HSw.out.fz 0
        have v1 := HSw.out.fz 1
        have v2 := HSw.out.fz 2
        have v3 := HSw.out.fz 3
        go_wp2_with fail
        obtain ⟨e0, e1, e2, e3⟩ := HSw.out.put (.int .u64 q.a) (.int .u64 q.b) (.int .u64 q.c) (.int .u64 q.d)
        exact bodyPost_ret (v := .tuple #[.agg #[.int .u64 q.a, .int .u64 q.b, .int .u64 q.c, .int .u64 q.d], .bool true]) (by simp [results, Tryz.results77, go_sem, e0, e1, e2, e3]) rfl ⟨rfl, okk_new HR.out.1 H4.out.1 H4.out.2.1 HNW.out (fr_four _ _ _ _ _ _)⟩
end
end Go.Proofs.YtpahpnajeliodaaGreatDoor
/- The reader's call sign. -/
namespace Go.Proofs.YtpahpnajeliodaaGreatDoor
open Go.ChangeShapes Go.WideShapes Go.ChangeAt Go.RowKit
set_option linter.unusedVariables false
set_option linter.unusedSimpArgs false
def plF (t : Tok) (r : RS) : Nat × RS := addN { op := 2, c := t.c } r
section
variable {B rb : Nat} {s last : ByteArray} {r : RS} {vn : Qv} {w : World} {m : Int} {kd c pl : Nat} {first : Bool}
theorem sign_bare (h : Rr B rb s last r vn w) (hl : r.nds.length < 100000) (op : Nat) (hc : (c = 94 ∧ first = true ∧ op = 10) ∨ (c = 46 ∧ op = 3) ∨ (c = 60 ∧ op = 12) ∨ (c = 62 ∧ op = 13)) :
    Calls Tryz.prog 59 #[.pointer (some ⟨rb, 0, none⟩), .agg #[.int .u8 kd, .int .u8 c, .int .i64 pl], .bool first] w (RetI B rb s last vn w (.ok (addN { op := op } r))) := by
  have HR : Hid (Rr B rb s last r vn w ∧ ∀ ob, Rr B rb s last r vn (w.alloc ob)) := ⟨h, fun ob => h.kp (kp_alloc w ob)⟩
  have hne : w.heap.size ≠ rb := Nat.ne_of_gt h.lt
  have HV : Hid (vn.ownBlock ≠ some w.heap.size) := h.own (Nat.le_refl _)
  have HB : Hid (TokBox w.heap.size ⟨kd, c, pl⟩ (w.alloc (.cells #[.int .u8 kd, .int .u8 c, .int .i64 pl] 75)) ∧ TokBox w.heap.size ⟨kd, c, pl⟩ (w.alloc (.cells #[.int .u8 kd, .int .u8 c, .int .i64 pl] 75)).drew) := ⟨alloc_new w _, alloc_new w _⟩
  rcases hc with ⟨hc, hf, ho⟩ | ⟨hc, ho⟩ | ⟨hc, ho⟩ | ⟨hc, ho⟩
  · subst ho
    subst hf
    have e94 : ((c : Int) == 94) = true := by simp; omega
    clear hc h
    go_enter Tryz.func59, Tryz.ntmps59
    go_wp2_with fail
    refine Calls.mono (rbare (HR.out.2 _) 10 hl) ?_
    rintro e w1 ⟨rfl, q⟩
    have H1 : Hid (Okk B rb s last vn w _ w1) := Okk.ahead (Adv.kp vn rb (kp_alloc w _)) q
    clear q
    go_wp2_with fail
    go_ret
    exact ⟨rfl, H1.out⟩
  · subst ho
    have e94 : ((c : Int) == 94) = false := by simp; omega
    have e36 : ((c : Int) == 36) = false := by simp; omega
    have e46 : ((c : Int) == 46) = true := by simp; omega
    clear hc h
    go_enter Tryz.func59, Tryz.ntmps59
    go_wp2_with fail
    refine Calls.mono (rbare (HR.out.2 _) 3 hl) ?_
    rintro e w1 ⟨rfl, q⟩
    have H1 : Hid (Okk B rb s last vn w _ w1) := Okk.ahead (Adv.kp vn rb (kp_alloc w _)) q
    clear q
    go_wp2_with fail
    go_ret
    exact ⟨rfl, H1.out⟩
  · subst ho
    have e94 : ((c : Int) == 94) = false := by simp; omega
    have e36 : ((c : Int) == 36) = false := by simp; omega
    have e46 : ((c : Int) == 46) = false := by simp; omega
    have e60 : ((c : Int) == 60) = true := by simp; omega
    clear hc h
    go_enter Tryz.func59, Tryz.ntmps59
    go_wp2_with fail
    refine Calls.mono (rbare (HR.out.2 _) 12 hl) ?_
    rintro e w1 ⟨rfl, q⟩
    have H1 : Hid (Okk B rb s last vn w _ w1) := Okk.ahead (Adv.kp vn rb (kp_alloc w _)) q
    clear q
    go_wp2_with fail
    go_ret
    exact ⟨rfl, H1.out⟩
  · subst ho
    have e94 : ((c : Int) == 94) = false := by simp; omega
    have e36 : ((c : Int) == 36) = false := by simp; omega
    have e46 : ((c : Int) == 46) = false := by simp; omega
    have e60 : ((c : Int) == 60) = false := by simp; omega
    have e62 : ((c : Int) == 62) = true := by simp; omega
    clear hc h
    go_enter Tryz.func59, Tryz.ntmps59
    go_wp2_with fail
    refine Calls.mono (rbare (HR.out.2 _) 13 hl) ?_
    rintro e w1 ⟨rfl, q⟩
    have H1 : Hid (Okk B rb s last vn w _ w1) := Okk.ahead (Adv.kp vn rb (kp_alloc w _)) q
    clear q
    go_wp2_with fail
    go_ret
    exact ⟨rfl, H1.out⟩
theorem sign_plain (h : Rr B rb s last r vn w) (hl : r.nds.length < 100000) (hc : (c = 94 ∧ first = false) ∨ (c ≠ 94 ∧ c ≠ 36 ∧ c ≠ 46 ∧ c ≠ 60 ∧ c ≠ 62 ∧ c ≠ 126 ∧ c ≠ 91 ∧ c ≠ 40)) :
    Calls Tryz.prog 59 #[.pointer (some ⟨rb, 0, none⟩), .agg #[.int .u8 kd, .int .u8 c, .int .i64 pl], .bool first] w (RetI B rb s last vn w (.ok (plF ⟨kd, c, pl⟩ r))) := by
  have HR : Hid (Rr B rb s last r vn w ∧ ∀ ob, Rr B rb s last r vn (w.alloc ob)) := ⟨h, fun ob => h.kp (kp_alloc w ob)⟩
  have hne : w.heap.size ≠ rb := Nat.ne_of_gt h.lt
  have HV : Hid (vn.ownBlock ≠ some w.heap.size) := h.own (Nat.le_refl _)
  have HB : Hid (TokBox w.heap.size ⟨kd, c, pl⟩ (w.alloc (.cells #[.int .u8 kd, .int .u8 c, .int .i64 pl] 75)) ∧ TokBox w.heap.size ⟨kd, c, pl⟩ (w.alloc (.cells #[.int .u8 kd, .int .u8 c, .int .i64 pl] 75)).drew) := ⟨alloc_new w _, alloc_new w _⟩
  have rule1 : ∀ w', TokBox w.heap.size ⟨kd, c, pl⟩ w' → w'.cell? ⟨w.heap.size, 1, none⟩ = some (.int .u8 c) := fun _ h => h.cells.1.2.1
  rcases hc with ⟨hc, hf⟩ | ⟨n94, n36, n46, n60, n62, n126, n91, n40⟩
  · subst hf
    have e94 : ((c : Int) == 94) = true := by simp; omega
    clear hc h
    go_enter Tryz.func59, Tryz.ntmps59
    go_wp2_with fail
    refine wp_region_noPanic ?_
    refine wp_region_held_drew (S := TokBox w.heap.size ⟨kd, c, pl⟩) (by kernel_rfl) (HB.out.2) (fun hHeld => ?_)
    refine takeAt 0 (some 71) ?_ rfl rfl (by kernel_rfl) (by kernel_rfl) (by kernel_rfl) (fun _ _ _ h => h) (Or.inl ⟨by rfl, ?_⟩) hHeld ?_
    rotate_left
    · intro w hSw
      go_simp <;> with_reducible rfl
    try simp only [Act.put, List.setIfInBounds_toArray, List.set_cons_zero, List.set_cons_succ]
    refine takeAt 1 (some 72) ?_ rfl rfl (by kernel_rfl) (by kernel_rfl) (by kernel_rfl) (fun _ _ _ h => h) (Or.inl ⟨by rfl, ?_⟩) hHeld ?_
    rotate_left
    · intro w hSw
      go_simp <;> with_reducible rfl
    try simp only [Act.put, List.setIfInBounds_toArray, List.set_cons_zero, List.set_cons_succ]
    refine takeAt 2 (some 73) ?_ rfl rfl (by kernel_rfl) (by kernel_rfl) (by kernel_rfl) (fun _ _ _ h => h) (Or.inl ⟨by rfl, ?_⟩) hHeld ?_
    rotate_left
    · intro w hSw
      go_simp <;> with_reducible rfl
    try simp only [Act.put, List.setIfInBounds_toArray, List.set_cons_zero, List.set_cons_succ]
    refine takeAt 3 (some 74) ?_ rfl rfl (by kernel_rfl) (by kernel_rfl) (by kernel_rfl) (fun _ _ _ h => h) (Or.inl ⟨by rfl, ?_⟩) hHeld ?_
    rotate_left
    · intro w hSw
      go_simp <;> with_reducible rfl
    try simp only [Act.put, List.setIfInBounds_toArray, List.set_cons_zero, List.set_cons_succ]
    refine takeAt 4 (some 75) ?_ rfl rfl (by kernel_rfl) (by kernel_rfl) (by kernel_rfl) (fun _ _ _ h => h) (Or.inl ⟨by rfl, ?_⟩) hHeld ?_
    rotate_left
    · intro w hSw
      go_simp <;> with_reducible rfl
    try simp only [Act.put, List.setIfInBounds_toArray, List.set_cons_zero, List.set_cons_succ]
    refine callAt 5 76 57 (vals := #[.pointer (some ⟨rb, 4, none⟩), .int .u8 c]) (by kernel_rfl) rfl rfl rfl rfl (by simp [Act.eval]) Tryz.func57 (by kernel_rfl) (by kernel_rfl) ?_
    refine Calls.mono (rplain (HR.out.1.kp (kp_trans (kp_alloc w _) (kp_drew _))) c hl) ?_
    rintro e w9 ⟨rfl, q⟩
    have HP : Hid (Okk B rb s last vn w _ w9 ∧ TokBox w.heap.size ⟨kd, c, pl⟩ w9) := ⟨Okk.ahead (Adv.kp vn rb (kp_trans (kp_alloc w _) (kp_drew _))) q, by obtain ⟨vn', _, a⟩ := q; exact TokBox.adv (HB.out.2) a hne HV.out⟩
    clear q
    refine ⟨_, rfl, HP.out.2, fun hHeld => ?_⟩
    try simp only [Act.put, List.setIfInBounds_toArray, List.set_cons_zero, List.set_cons_succ]
    refine takeAt 6 (some 6) ?_ rfl rfl (by kernel_rfl) (by kernel_rfl) (by kernel_rfl) (fun _ _ _ h => h) (Or.inl ⟨by rfl, ?_⟩) hHeld ?_
    rotate_left
    · intro w hSw
      go_simp <;> with_reducible rfl
    try simp only [Act.put, List.setIfInBounds_toArray, List.set_cons_zero, List.set_cons_succ]
    refine wpAnyH_done (by kernel_rfl) ?_ _
    refine NoPanic.normal ?_
    go_wp2_with fail
    go_ret
    exact ⟨rfl, HP.out.1⟩
  · have n0 := n94
    have e94 : ((c : Int) == 94) = false := by simp; omega
    have e36 : ((c : Int) == 36) = false := by simp; omega
    have e46 : ((c : Int) == 46) = false := by simp; omega
    have e60 : ((c : Int) == 60) = false := by simp; omega
    have e62 : ((c : Int) == 62) = false := by simp; omega
    have e126 : ((c : Int) == 126) = false := by simp; omega
    have e91 : ((c : Int) == 91) = false := by simp; omega
    have e40 : ((c : Int) == 40) = false := by simp; omega
    clear n0 n94 n36 n46 n60 n62 n126 n91 n40 h
    go_enter Tryz.func59, Tryz.ntmps59
    go_wp2_with fail
    refine wp_region_noPanic ?_
    refine wp_region_held_drew (S := TokBox w.heap.size ⟨kd, c, pl⟩) (by kernel_rfl) (HB.out.2) (fun hHeld => ?_)
    refine takeAt 0 (some 71) ?_ rfl rfl (by kernel_rfl) (by kernel_rfl) (by kernel_rfl) (fun _ _ _ h => h) (Or.inl ⟨by rfl, ?_⟩) hHeld ?_
    rotate_left
    · intro w hSw
      go_simp <;> with_reducible rfl
    try simp only [Act.put, List.setIfInBounds_toArray, List.set_cons_zero, List.set_cons_succ]
    refine takeAt 1 (some 72) ?_ rfl rfl (by kernel_rfl) (by kernel_rfl) (by kernel_rfl) (fun _ _ _ h => h) (Or.inl ⟨by rfl, ?_⟩) hHeld ?_
    rotate_left
    · intro w hSw
      go_simp <;> with_reducible rfl
    try simp only [Act.put, List.setIfInBounds_toArray, List.set_cons_zero, List.set_cons_succ]
    refine takeAt 2 (some 73) ?_ rfl rfl (by kernel_rfl) (by kernel_rfl) (by kernel_rfl) (fun _ _ _ h => h) (Or.inl ⟨by rfl, ?_⟩) hHeld ?_
    rotate_left
    · intro w hSw
      go_simp <;> with_reducible rfl
    try simp only [Act.put, List.setIfInBounds_toArray, List.set_cons_zero, List.set_cons_succ]
    refine takeAt 3 (some 74) ?_ rfl rfl (by kernel_rfl) (by kernel_rfl) (by kernel_rfl) (fun _ _ _ h => h) (Or.inl ⟨by rfl, ?_⟩) hHeld ?_
    rotate_left
    · intro w hSw
      go_simp <;> with_reducible rfl
    try simp only [Act.put, List.setIfInBounds_toArray, List.set_cons_zero, List.set_cons_succ]
    refine takeAt 4 (some 75) ?_ rfl rfl (by kernel_rfl) (by kernel_rfl) (by kernel_rfl) (fun _ _ _ h => h) (Or.inl ⟨by rfl, ?_⟩) hHeld ?_
    rotate_left
    · intro w hSw
      go_simp <;> with_reducible rfl
    try simp only [Act.put, List.setIfInBounds_toArray, List.set_cons_zero, List.set_cons_succ]
    refine callAt 5 76 57 (vals := #[.pointer (some ⟨rb, 4, none⟩), .int .u8 c]) (by kernel_rfl) rfl rfl rfl rfl (by simp [Act.eval]) Tryz.func57 (by kernel_rfl) (by kernel_rfl) ?_
    refine Calls.mono (rplain (HR.out.1.kp (kp_trans (kp_alloc w _) (kp_drew _))) c hl) ?_
    rintro e w9 ⟨rfl, q⟩
    have HP : Hid (Okk B rb s last vn w _ w9 ∧ TokBox w.heap.size ⟨kd, c, pl⟩ w9) := ⟨Okk.ahead (Adv.kp vn rb (kp_trans (kp_alloc w _) (kp_drew _))) q, by obtain ⟨vn', _, a⟩ := q; exact TokBox.adv (HB.out.2) a hne HV.out⟩
    clear q
    refine ⟨_, rfl, HP.out.2, fun hHeld => ?_⟩
    try simp only [Act.put, List.setIfInBounds_toArray, List.set_cons_zero, List.set_cons_succ]
    refine takeAt 6 (some 6) ?_ rfl rfl (by kernel_rfl) (by kernel_rfl) (by kernel_rfl) (fun _ _ _ h => h) (Or.inl ⟨by rfl, ?_⟩) hHeld ?_
    rotate_left
    · intro w hSw
      go_simp <;> with_reducible rfl
    try simp only [Act.put, List.setIfInBounds_toArray, List.set_cons_zero, List.set_cons_succ]
    refine wpAnyH_done (by kernel_rfl) ?_ _
    refine NoPanic.normal ?_
    go_wp2_with fail
    go_ret
    exact ⟨rfl, HP.out.1⟩
theorem sign_again (h : Rr B rb s last r vn w) (hla : last.size ≤ 1100) (hl : r.nds.length < 50000) (hc : c = 126) :
    Calls Tryz.prog 59 #[.pointer (some ⟨rb, 0, none⟩), .agg #[.int .u8 kd, .int .u8 c, .int .i64 pl], .bool first] w (RetI B rb s last vn w (.ok (againF last r))) := by
  have HR : Hid (Rr B rb s last r vn w ∧ ∀ ob, Rr B rb s last r vn (w.alloc ob)) := ⟨h, fun ob => h.kp (kp_alloc w ob)⟩
  have hne : w.heap.size ≠ rb := Nat.ne_of_gt h.lt
  have HV : Hid (vn.ownBlock ≠ some w.heap.size) := h.own (Nat.le_refl _)
  have HB : Hid (TokBox w.heap.size ⟨kd, c, pl⟩ (w.alloc (.cells #[.int .u8 kd, .int .u8 c, .int .i64 pl] 75)) ∧ TokBox w.heap.size ⟨kd, c, pl⟩ (w.alloc (.cells #[.int .u8 kd, .int .u8 c, .int .i64 pl] 75)).drew) := ⟨alloc_new w _, alloc_new w _⟩
  have e94 : ((c : Int) == 94) = false := by simp; omega
  have e36 : ((c : Int) == 36) = false := by simp; omega
  have e46 : ((c : Int) == 46) = false := by simp; omega
  have e60 : ((c : Int) == 60) = false := by simp; omega
  have e62 : ((c : Int) == 62) = false := by simp; omega
  have e126 : ((c : Int) == 126) = true := by simp; omega
  have HA : Hid (∀ ob, Calls Tryz.prog 76 #[.pointer (some ⟨rb, 0, none⟩)] (w.alloc ob) (RetI B rb s last vn (w.alloc ob) (.ok (againF last r)))) := fun ob => again_any (h.kp (kp_alloc w ob)) hla hl
  clear hc h
  go_enter Tryz.func59, Tryz.ntmps59
  go_wp2_with fail
  refine Calls.mono (HA.out _) ?_
  rintro e w1 ⟨rfl, q⟩
  have H1 : Hid (Okk B rb s last vn w _ w1) := Okk.ahead (Adv.kp vn rb (kp_alloc w _)) q
  clear q
  go_wp2_with fail
  go_ret
  exact ⟨rfl, H1.out⟩
def eolF (s : ByteArray) (t : Tok) (r : RS) : Except (Nat × Nat) (Nat × RS) :=
  match nextF s (s.size + 1) r.k r.md r.cs with
  | .error e => .error e
  | .ok (t2, _) => if t2.ends then .ok (addN { op := 11 } r) else .ok (plF t r)
theorem sign_eol (h : Rr B rb s last r vn w) (hs : s.size ≤ 400) (ha : r.k ≤ s.size) (hl : r.nds.length < 100000) (hc : c = 36) :
    Calls Tryz.prog 59 #[.pointer (some ⟨rb, 0, none⟩), .agg #[.int .u8 kd, .int .u8 c, .int .i64 pl], .bool first] w (RetI B rb s last vn w (eolF s ⟨kd, c, pl⟩ r)) := by
  have HR : Hid (Rr B rb s last r vn w ∧ ∀ ob, Rr B rb s last r vn (w.alloc ob)) := ⟨h, fun ob => h.kp (kp_alloc w ob)⟩
  have hne : w.heap.size ≠ rb := Nat.ne_of_gt h.lt
  have HV : Hid (vn.ownBlock ≠ some w.heap.size) := h.own (Nat.le_refl _)
  have HB : Hid (TokBox w.heap.size ⟨kd, c, pl⟩ (w.alloc (.cells #[.int .u8 kd, .int .u8 c, .int .i64 pl] 75)) ∧ TokBox w.heap.size ⟨kd, c, pl⟩ (w.alloc (.cells #[.int .u8 kd, .int .u8 c, .int .i64 pl] 75)).drew) := ⟨alloc_new w _, alloc_new w _⟩
  have rule1 : ∀ w', TokBox w.heap.size ⟨kd, c, pl⟩ w' → w'.cell? ⟨w.heap.size, 1, none⟩ = some (.int .u8 c) := fun _ h => h.cells.1.2.1
  have e94 : ((c : Int) == 94) = false := by simp; omega
  have e36 : ((c : Int) == 36) = true := by simp; omega
  unfold eolF
  obtain ⟨R, hR⟩ : ∃ R, nextF s (s.size + 1) r.k r.md r.cs = R := ⟨_, rfl⟩
  have HP : Hid (∀ x, Calls Tryz.prog 75 #[.agg #[.string s, .int .i64 r.k, .string r.md, .int .u8 r.cs]] x (PkP x R)) := fun x => peek_any s r.md r.k r.cs x hs ha (by omega) hR
  rw [hR]
  clear hR
  have hA := (HR.out.2 (.cells #[.int .u8 kd, .int .u8 c, .int .i64 pl] 75)).scn
  have d0 := hA.c0
  have d1 := hA.c1
  have d2 := hA.c2
  have d3 := hA.c3
  clear hA hc h
  cases R with
  | error e =>
    obtain ⟨n, a⟩ := e
    go_enter Tryz.func59, Tryz.ntmps59
    go_wp2_with fail
    refine Calls.mono (HP.out _) ?_
    rintro e w1 ⟨rfl, q⟩
    have H1 : Hid (Kp w w1) := kp_trans (kp_alloc w _) q
    clear q
    unfold Wrong
    go_wp2_with fail
    exact ⟨rfl, rfl, HR.out.1.er (Adv.kp vn rb H1.out)⟩
  | ok z =>
    obtain ⟨t2, _⟩ := z
    have HE : Hid (∀ x, Calls Tryz.prog 40 #[t2.val] x fun e w' => e = .returned (.bool t2.ends) ∧ Kp x w') := fun x => ends_any t2 x
    simp only
    cases hy : t2.ends with
    | true =>
      rw [hy] at HE
      go_enter Tryz.func59, Tryz.ntmps59
      go_wp2_with fail
      refine Calls.mono (HP.out _) ?_
      rintro e w1 ⟨rfl, q⟩
      have H1 : Hid (Kp w w1) := kp_trans (kp_alloc w _) q
      clear q d0 d1 d2 d3
      go_wp2_with fail
      refine Calls.mono (HE.out _) ?_
      rintro e w2 ⟨rfl, q⟩
      have H2 : Hid (Kp w w2) := kp_trans H1.out q
      clear q
      go_wp2_with fail
      refine Calls.mono (rbare (HR.out.1.kp H2.out) 11 hl) ?_
      rintro e w3 ⟨rfl, q⟩
      have H3 : Hid (Okk B rb s last vn w _ w3) := Okk.ahead (Adv.kp vn rb H2.out) q
      clear q
      go_wp2_with fail
      go_ret
      exact ⟨rfl, H3.out⟩
    | false =>
      rw [hy] at HE
      go_enter Tryz.func59, Tryz.ntmps59
      go_wp2_with fail
      refine Calls.mono (HP.out _) ?_
      rintro e w1 ⟨rfl, q⟩
      have H1 : Hid (Kp w w1 ∧ TokBox w.heap.size ⟨kd, c, pl⟩ w1) := ⟨kp_trans (kp_alloc w _) q, HB.out.1.kp q⟩
      clear q d0 d1 d2 d3
      go_wp2_with fail
      refine Calls.mono (HE.out _) ?_
      rintro e w2 ⟨rfl, q⟩
      have H2 : Hid (Kp w w2.drew ∧ TokBox w.heap.size ⟨kd, c, pl⟩ w2.drew) := ⟨kp_trans (kp_trans H1.out.1 q) (kp_drew _), (H1.out.2.kp q).kp (kp_drew _)⟩
      clear q
      go_wp2_with fail
      refine wp_region_noPanic ?_
      refine wp_region_held_drew (S := TokBox w.heap.size ⟨kd, c, pl⟩) (by kernel_rfl) (H2.out.2) (fun hHeld => ?_)
      refine takeAt 0 (some 71) ?_ rfl rfl (by kernel_rfl) (by kernel_rfl) (by kernel_rfl) (fun _ _ _ h => h) (Or.inl ⟨by rfl, ?_⟩) hHeld ?_
      rotate_left
      · intro w hSw
        go_simp <;> with_reducible rfl
      try simp only [Act.put, List.setIfInBounds_toArray, List.set_cons_zero, List.set_cons_succ]
      refine takeAt 1 (some 72) ?_ rfl rfl (by kernel_rfl) (by kernel_rfl) (by kernel_rfl) (fun _ _ _ h => h) (Or.inl ⟨by rfl, ?_⟩) hHeld ?_
      rotate_left
      · intro w hSw
        go_simp <;> with_reducible rfl
      try simp only [Act.put, List.setIfInBounds_toArray, List.set_cons_zero, List.set_cons_succ]
      refine takeAt 2 (some 73) ?_ rfl rfl (by kernel_rfl) (by kernel_rfl) (by kernel_rfl) (fun _ _ _ h => h) (Or.inl ⟨by rfl, ?_⟩) hHeld ?_
      rotate_left
      · intro w hSw
        go_simp <;> with_reducible rfl
      try simp only [Act.put, List.setIfInBounds_toArray, List.set_cons_zero, List.set_cons_succ]
      refine takeAt 3 (some 74) ?_ rfl rfl (by kernel_rfl) (by kernel_rfl) (by kernel_rfl) (fun _ _ _ h => h) (Or.inl ⟨by rfl, ?_⟩) hHeld ?_
      rotate_left
      · intro w hSw
        go_simp <;> with_reducible rfl
      try simp only [Act.put, List.setIfInBounds_toArray, List.set_cons_zero, List.set_cons_succ]
      refine takeAt 4 (some 75) ?_ rfl rfl (by kernel_rfl) (by kernel_rfl) (by kernel_rfl) (fun _ _ _ h => h) (Or.inl ⟨by rfl, ?_⟩) hHeld ?_
      rotate_left
      · intro w hSw
        go_simp <;> with_reducible rfl
      try simp only [Act.put, List.setIfInBounds_toArray, List.set_cons_zero, List.set_cons_succ]
      refine callAt 5 76 57 (vals := #[.pointer (some ⟨rb, 4, none⟩), .int .u8 c]) (by kernel_rfl) rfl rfl rfl rfl (by simp [Act.eval]) Tryz.func57 (by kernel_rfl) (by kernel_rfl) ?_
      refine Calls.mono (rplain (HR.out.1.kp H2.out.1) c hl) ?_
      rintro e w9 ⟨rfl, q⟩
      have HP : Hid (Okk B rb s last vn w _ w9 ∧ TokBox w.heap.size ⟨kd, c, pl⟩ w9) := ⟨Okk.ahead (Adv.kp vn rb H2.out.1) q, by obtain ⟨vn', _, a⟩ := q; exact TokBox.adv (H2.out.2) a hne HV.out⟩
      clear q
      refine ⟨_, rfl, HP.out.2, fun hHeld => ?_⟩
      try simp only [Act.put, List.setIfInBounds_toArray, List.set_cons_zero, List.set_cons_succ]
      refine takeAt 6 (some 6) ?_ rfl rfl (by kernel_rfl) (by kernel_rfl) (by kernel_rfl) (fun _ _ _ h => h) (Or.inl ⟨by rfl, ?_⟩) hHeld ?_
      rotate_left
      · intro w hSw
        go_simp <;> with_reducible rfl
      try simp only [Act.put, List.setIfInBounds_toArray, List.set_cons_zero, List.set_cons_succ]
      refine wpAnyH_done (by kernel_rfl) ?_ _
      refine NoPanic.normal ?_
      go_wp2_with fail
      go_ret
      exact ⟨rfl, HP.out.1⟩
end
end Go.Proofs.YtpahpnajeliodaaGreatDoor
/- The reader's call sign, at [ and (. -/
namespace Go.Proofs.YtpahpnajeliodaaGreatDoor
open Go.ChangeShapes Go.WideShapes Go.ChangeAt Go.RowKit
set_option linter.unusedVariables false
set_option linter.unusedSimpArgs false
section
variable {B rb : Nat} {s last : ByteArray} {r : RS} {vn : Qv} {w : World} {m : Int} {kd c pl : Nat} {first : Bool}

theorem Okk.trans {vn1 : Qv} {w1 w2 : World} {r' : RS} (a : Adv rb vn w vn1 w1) (h : Okk B rb s last vn1 w1 r' w2) : Okk B rb s last vn w r' w2 := by
  obtain ⟨vn2, h1, h2⟩ := h
  exact ⟨vn2, h1, a.trans h2⟩
theorem RetI.kp {w1 w2 : World} {R : Except (Nat × Nat) (Nat × RS)} {e : Ending} (h : Rr B rb s last r vn w) (k : Kp w w1) (q : RetI B rb s last vn w1 R e w2) : RetI B rb s last vn w R e w2 := by
  cases R with
  | error x => exact ⟨q.1, h.ert (Adv.kp vn rb k) q.2⟩
  | ok x => exact ⟨q.1, Okk.ahead (Adv.kp vn rb k) q.2⟩
def setF (s : ByteArray) (t : Tok) (r : RS) : Except (Nat × Nat) (Nat × RS) :=
  match collF s t r with
  | .error e => .error e
  | .ok (none, r') => .ok (plF t r')
  | .ok (some q, r') => .ok (addN { op := 4, set := q } r')
theorem sign_group (h : Rr B rb s last r vn w) (R : Except (Nat × Nat) (Nat × RS)) (hg : ∀ ob, Calls Tryz.prog 79 #[.pointer (some ⟨rb, 0, none⟩), .agg #[.int .u8 kd, .int .u8 c, .int .i64 pl]] (w.alloc ob) (RetI B rb s last vn (w.alloc ob) R)) (hc : c = 40) :
    Calls Tryz.prog 59 #[.pointer (some ⟨rb, 0, none⟩), .agg #[.int .u8 kd, .int .u8 c, .int .i64 pl], .bool first] w (RetI B rb s last vn w R) := by
  have HR : Hid (Rr B rb s last r vn w ∧ ∀ ob, Rr B rb s last r vn (w.alloc ob)) := ⟨h, fun ob => h.kp (kp_alloc w ob)⟩
  have hne : w.heap.size ≠ rb := Nat.ne_of_gt h.lt
  have HV : Hid (vn.ownBlock ≠ some w.heap.size) := h.own (Nat.le_refl _)
  have HB : Hid (TokBox w.heap.size ⟨kd, c, pl⟩ (w.alloc (.cells #[.int .u8 kd, .int .u8 c, .int .i64 pl] 75)) ∧ TokBox w.heap.size ⟨kd, c, pl⟩ (w.alloc (.cells #[.int .u8 kd, .int .u8 c, .int .i64 pl] 75)).drew) := ⟨alloc_new w _, alloc_new w _⟩
  have e94 : ((c : Int) == 94) = false := by simp; omega
  have e36 : ((c : Int) == 36) = false := by simp; omega
  have e46 : ((c : Int) == 46) = false := by simp; omega
  have e60 : ((c : Int) == 60) = false := by simp; omega
  have e62 : ((c : Int) == 62) = false := by simp; omega
  have e126 : ((c : Int) == 126) = false := by simp; omega
  have e91 : ((c : Int) == 91) = false := by simp; omega
  have e40 : ((c : Int) == 40) = true := by simp; omega
  have HG : Hid _ := hg
  have HT := HB.out.1.cells.1
  obtain ⟨t0, t1, t2⟩ := HT
  clear hc h hg
  cases R with
  | error x =>
    obtain ⟨n, a⟩ := x
    go_enter Tryz.func59, Tryz.ntmps59
    go_wp2_with fail
    refine Calls.mono (HG.out _) ?_
    rintro e w1 ⟨rfl, q⟩
    have H1 : Hid (Er rb vn w w1) := HR.out.1.ert (Adv.kp vn rb (kp_alloc w _)) q
    clear q
    unfold Wrong
    go_wp2_with fail
    exact ⟨rfl, rfl, H1.out⟩
  | ok x =>
    obtain ⟨i, r'⟩ := x
    go_enter Tryz.func59, Tryz.ntmps59
    go_wp2_with fail
    refine Calls.mono (HG.out _) ?_
    rintro e w1 ⟨rfl, q⟩
    have H1 : Hid (Okk B rb s last vn w r' w1) := Okk.ahead (Adv.kp vn rb (kp_alloc w _)) q
    clear q
    go_wp2_with fail
    go_ret
    exact ⟨rfl, H1.out⟩
theorem collF_nds {t : Tok} {o : Option S4} {r' : RS} (h : collF s t r = .ok (o, r')) : r'.nds = r.nds := by
  unfold collF at h
  split at h
  · cases h; rfl
  · split at h
    · cases h
    · cases h; rfl
set_option maxHeartbeats 4000000 in
theorem sign_set (h : Rr B rb s last r vn w) (hs : s.size ≤ 400) (ha : r.k ≤ s.size) (hl0 : r.nds.length < 100000) (hm : w.cell? ⟨3, 0, none⟩ = some (.int .i64 m)) (hc : c = 91) :
    Calls Tryz.prog 59 #[.pointer (some ⟨rb, 0, none⟩), .agg #[.int .u8 kd, .int .u8 c, .int .i64 pl], .bool first] w (RetI B rb s last vn w (setF s ⟨kd, c, pl⟩ r)) := by
  have HR : Hid (Rr B rb s last r vn w ∧ ∀ ob, Rr B rb s last r vn (w.alloc ob)) := ⟨h, fun ob => h.kp (kp_alloc w ob)⟩
  have hne : w.heap.size ≠ rb := Nat.ne_of_gt h.lt
  have HV : Hid (vn.ownBlock ≠ some w.heap.size) := h.own (Nat.le_refl _)
  have HB : Hid (TokBox w.heap.size ⟨kd, c, pl⟩ (w.alloc (.cells #[.int .u8 kd, .int .u8 c, .int .i64 pl] 75)) ∧ TokBox w.heap.size ⟨kd, c, pl⟩ (w.alloc (.cells #[.int .u8 kd, .int .u8 c, .int .i64 pl] 75)).drew) := ⟨alloc_new w _, alloc_new w _⟩
  have rule1 : ∀ w', TokBox w.heap.size ⟨kd, c, pl⟩ w' → w'.cell? ⟨w.heap.size, 1, none⟩ = some (.int .u8 c) := fun _ h => h.cells.1.2.1
  have e94 : ((c : Int) == 94) = false := by simp; omega
  have e36 : ((c : Int) == 36) = false := by simp; omega
  have e46 : ((c : Int) == 46) = false := by simp; omega
  have e60 : ((c : Int) == 60) = false := by simp; omega
  have e62 : ((c : Int) == 62) = false := by simp; omega
  have e126 : ((c : Int) == 126) = false := by simp; omega
  have e91 : ((c : Int) == 91) = true := by simp; omega
  unfold setF
  obtain ⟨R, hR⟩ : ∃ R, collF s ⟨kd, c, pl⟩ r = R := ⟨_, rfl⟩
  have HC : Hid (∀ ob, Calls Tryz.prog 77 #[.pointer (some ⟨rb, 0, none⟩), .agg #[.int .u8 kd, .int .u8 c, .int .i64 pl]] (w.alloc ob) (RetC B rb s last vn (w.alloc ob) R)) := fun ob => by
    have := coll_any (h.kp (kp_alloc w ob)) hs ha (m := m) (by
      have h3 : 3 < w.heap.size := by
        unfold World.cell? at hm
        cases hg : w.heap[3]? with
        | none => simp [hg] at hm
        | some o => exact (Array.getElem?_eq_some_iff.1 hg).1
      rw [← hm]
      exact World.cell?_of_block (alloc_old w ob 3 h3)) ⟨kd, c, pl⟩
    rw [hR] at this
    exact this
  have HT := HB.out.1.cells.1
  obtain ⟨t0, t1, t2⟩ := HT
  have HRe : Hid (collF s ⟨kd, c, pl⟩ r = R) := hR
  rw [hR]
  clear hc h hm hR
  cases R with
  | error x =>
    obtain ⟨n, a⟩ := x
    go_enter Tryz.func59, Tryz.ntmps59
    go_wp2_with fail
    refine Calls.mono (HC.out _) ?_
    rintro e w1 ⟨rfl, q⟩
    have H1 : Hid (Er rb vn w w1) := HR.out.1.ert (Adv.kp vn rb (kp_alloc w _)) q
    clear q
    unfold Wrong
    go_wp2_with fail
    exact ⟨rfl, rfl, H1.out⟩
  | ok x =>
    obtain ⟨o, r'⟩ := x
    have hl : r'.nds.length < 100000 := by rw [collF_nds HRe.out]; exact hl0
    cases o with
    | none =>
      go_enter Tryz.func59, Tryz.ntmps59
      go_wp2_with fail
      refine Calls.mono (HC.out _) ?_
      rintro e w1 ⟨rfl, vn1, q1, q2⟩
      have H1 : Hid (Rr B rb s last r' vn1 w1 ∧ Adv rb vn w vn1 w1 ∧ TokBox w.heap.size ⟨kd, c, pl⟩ w1 ∧ vn1.ownBlock ≠ some w.heap.size) := ⟨q1, (Adv.kp vn rb (kp_alloc w _)).trans q2, TokBox.adv HB.out.1 q2 hne HV.out, by
        rcases q2.own with e | e
        · rw [e]; exact HV.out
        · intro z
          have := e _ z
          rw [alloc_size] at this
          omega⟩
      clear q1 q2 t0 t1 t2
      unfold S4.v
      have H2 : Hid (∀ ob, Rr B rb s last r' vn1 (w1.alloc ob).drew ∧ Adv rb vn w vn1 (w1.alloc ob).drew ∧ TokBox w.heap.size ⟨kd, c, pl⟩ (w1.alloc ob).drew) := fun ob => by
        have k := kp_trans (kp_alloc w1 ob) (kp_drew _)
        exact ⟨H1.out.1.kp k, H1.out.2.1.trans (Adv.kp vn1 rb k), H1.out.2.2.1.kp k⟩
      go_wp2_with fail
      refine wp_region_noPanic ?_
      refine wp_region_held_drew (S := TokBox w.heap.size ⟨kd, c, pl⟩) (by kernel_rfl) ((H2.out _).2.2) (fun hHeld => ?_)
      refine takeAt 0 (some 71) ?_ rfl rfl (by kernel_rfl) (by kernel_rfl) (by kernel_rfl) (fun _ _ _ h => h) (Or.inl ⟨by rfl, ?_⟩) hHeld ?_
      rotate_left
      · intro w hSw
        go_simp <;> with_reducible rfl
      try simp only [Act.put, List.setIfInBounds_toArray, List.set_cons_zero, List.set_cons_succ]
      refine takeAt 1 (some 72) ?_ rfl rfl (by kernel_rfl) (by kernel_rfl) (by kernel_rfl) (fun _ _ _ h => h) (Or.inl ⟨by rfl, ?_⟩) hHeld ?_
      rotate_left
      · intro w hSw
        go_simp <;> with_reducible rfl
      try simp only [Act.put, List.setIfInBounds_toArray, List.set_cons_zero, List.set_cons_succ]
      refine takeAt 2 (some 73) ?_ rfl rfl (by kernel_rfl) (by kernel_rfl) (by kernel_rfl) (fun _ _ _ h => h) (Or.inl ⟨by rfl, ?_⟩) hHeld ?_
      rotate_left
      · intro w hSw
        go_simp <;> with_reducible rfl
      try simp only [Act.put, List.setIfInBounds_toArray, List.set_cons_zero, List.set_cons_succ]
      refine takeAt 3 (some 74) ?_ rfl rfl (by kernel_rfl) (by kernel_rfl) (by kernel_rfl) (fun _ _ _ h => h) (Or.inl ⟨by rfl, ?_⟩) hHeld ?_
      rotate_left
      · intro w hSw
        go_simp <;> with_reducible rfl
      try simp only [Act.put, List.setIfInBounds_toArray, List.set_cons_zero, List.set_cons_succ]
      refine takeAt 4 (some 75) ?_ rfl rfl (by kernel_rfl) (by kernel_rfl) (by kernel_rfl) (fun _ _ _ h => h) (Or.inl ⟨by rfl, ?_⟩) hHeld ?_
      rotate_left
      · intro w hSw
        go_simp <;> with_reducible rfl
      try simp only [Act.put, List.setIfInBounds_toArray, List.set_cons_zero, List.set_cons_succ]
      refine callAt 5 76 57 (vals := #[.pointer (some ⟨rb, 4, none⟩), .int .u8 c]) (by kernel_rfl) rfl rfl rfl rfl (by simp [Act.eval]) Tryz.func57 (by kernel_rfl) (by kernel_rfl) ?_
      refine Calls.mono (rplain ((H2.out _).1) c hl) ?_
      rintro e w9 ⟨rfl, z⟩
      have HP : Hid (Okk B rb s last vn w _ w9 ∧ TokBox w.heap.size ⟨kd, c, pl⟩ w9) := ⟨Okk.trans ((H2.out _).2.1) z, by obtain ⟨vn', _, a⟩ := z; exact TokBox.adv ((H2.out _).2.2) a hne (H1.out.2.2.2)⟩
      clear z
      refine ⟨_, rfl, HP.out.2, fun hHeld => ?_⟩
      try simp only [Act.put, List.setIfInBounds_toArray, List.set_cons_zero, List.set_cons_succ]
      refine takeAt 6 (some 6) ?_ rfl rfl (by kernel_rfl) (by kernel_rfl) (by kernel_rfl) (fun _ _ _ h => h) (Or.inl ⟨by rfl, ?_⟩) hHeld ?_
      rotate_left
      · intro w hSw
        go_simp <;> with_reducible rfl
      try simp only [Act.put, List.setIfInBounds_toArray, List.set_cons_zero, List.set_cons_succ]
      refine wpAnyH_done (by kernel_rfl) ?_ _
      refine NoPanic.normal ?_
      go_wp2_with fail
      go_ret
      exact ⟨rfl, HP.out.1⟩
    | some q =>
      go_enter Tryz.func59, Tryz.ntmps59
      go_wp2_with fail
      refine Calls.mono (HC.out _) ?_
      rintro e w1 ⟨rfl, vn1, q1, q2⟩
      have H1 : Hid (Rr B rb s last r' vn1 w1 ∧ Adv rb vn w vn1 w1) := ⟨q1, (Adv.kp vn rb (kp_alloc w _)).trans q2⟩
      clear q1 q2 t0 t1 t2
      unfold S4.v
      have HS : Hid (SetBox w1.heap.size q (w1.alloc (.cells #[.int .u64 q.a, .int .u64 q.b, .int .u64 q.c, .int .u64 q.d] 70)).drew) := alloc_new w1 _
      have H3 : Hid (Rr B rb s last r' vn1 (w1.alloc (.cells #[.int .u64 q.a, .int .u64 q.b, .int .u64 q.c, .int .u64 q.d] 70)).drew ∧ Adv rb vn w vn1 (w1.alloc (.cells #[.int .u64 q.a, .int .u64 q.b, .int .u64 q.c, .int .u64 q.d] 70)).drew ∧ w1.heap.size ≠ rb ∧ vn1.ownBlock ≠ some w1.heap.size) := by
        have k := kp_trans (kp_alloc w1 (.cells #[.int .u64 q.a, .int .u64 q.b, .int .u64 q.c, .int .u64 q.d] 70)) (kp_drew _)
        have l := H1.out.1.lt
        exact ⟨H1.out.1.kp k, H1.out.2.trans (Adv.kp vn1 rb k), by omega, H1.out.1.own (Nat.le_refl _)⟩
      have rl0 : ∀ w', SetBox w1.heap.size q w' → w'.cell? ⟨w1.heap.size, 0, none⟩ = some (.int .u64 q.a) := fun _ h => h.cells.1
      have rl1 : ∀ w', SetBox w1.heap.size q w' → w'.cell? ⟨w1.heap.size, 1, none⟩ = some (.int .u64 q.b) := fun _ h => h.cells.2.1
      have rl2 : ∀ w', SetBox w1.heap.size q w' → w'.cell? ⟨w1.heap.size, 2, none⟩ = some (.int .u64 q.c) := fun _ h => h.cells.2.2.1
      have rl3 : ∀ w', SetBox w1.heap.size q w' → w'.cell? ⟨w1.heap.size, 3, none⟩ = some (.int .u64 q.d) := fun _ h => h.cells.2.2.2
      go_wp2_with fail
      refine wp_region_noPanic ?_
      refine wp_region_held_drew (S := SetBox w1.heap.size q) (by kernel_rfl) (HS.out) (fun hHeld => ?_)
      refine takeAt 0 (some 61) ?_ rfl rfl (by kernel_rfl) (by kernel_rfl) (by kernel_rfl) (fun _ _ _ h => h) (Or.inl ⟨by rfl, ?_⟩) hHeld ?_
      rotate_left
      · intro w hSw
        go_simp <;> with_reducible rfl
      try simp only [Act.put, List.setIfInBounds_toArray, List.set_cons_zero, List.set_cons_succ]
      refine takeAt 1 (some 62) ?_ rfl rfl (by kernel_rfl) (by kernel_rfl) (by kernel_rfl) (fun _ _ _ h => h) (Or.inl ⟨by rfl, ?_⟩) hHeld ?_
      rotate_left
      · intro w hSw
        go_simp <;> with_reducible rfl
      try simp only [Act.put, List.setIfInBounds_toArray, List.set_cons_zero, List.set_cons_succ]
      refine takeAt 2 (some 63) ?_ rfl rfl (by kernel_rfl) (by kernel_rfl) (by kernel_rfl) (fun _ _ _ h => h) (Or.inl ⟨by rfl, ?_⟩) hHeld ?_
      rotate_left
      · intro w hSw
        go_simp <;> with_reducible rfl
      try simp only [Act.put, List.setIfInBounds_toArray, List.set_cons_zero, List.set_cons_succ]
      refine takeAt 3 (some 64) ?_ rfl rfl (by kernel_rfl) (by kernel_rfl) (by kernel_rfl) (fun _ _ _ h => h) (Or.inl ⟨by rfl, ?_⟩) hHeld ?_
      rotate_left
      · intro w hSw
        go_simp <;> with_reducible rfl
      try simp only [Act.put, List.setIfInBounds_toArray, List.set_cons_zero, List.set_cons_succ]
      refine callAt 4 65 78 (vals := #[.pointer (some ⟨rb, 4, none⟩), .agg #[.int .u64 q.a, .int .u64 q.b, .int .u64 q.c, .int .u64 q.d]]) (by kernel_rfl) rfl rfl rfl rfl (by simp [Act.eval]) Tryz.func78 (by kernel_rfl) (by kernel_rfl) ?_
      refine Calls.mono (rset H3.out.1 q hl) ?_
      rintro e w9 ⟨rfl, z⟩
      have HP : Hid (Okk B rb s last vn w _ w9 ∧ SetBox w1.heap.size q w9) := ⟨Okk.trans H3.out.2.1 z, by obtain ⟨vn', _, a⟩ := z; exact HS.out.adv a H3.out.2.2.1 H3.out.2.2.2⟩
      clear z
      refine ⟨_, rfl, HP.out.2, fun hHeld => ?_⟩
      try simp only [Act.put, List.setIfInBounds_toArray, List.set_cons_zero, List.set_cons_succ]
      refine takeAt 5 (some 6) ?_ rfl rfl (by kernel_rfl) (by kernel_rfl) (by kernel_rfl) (fun _ _ _ h => h) (Or.inl ⟨by rfl, ?_⟩) hHeld ?_
      rotate_left
      · intro w hSw
        go_simp <;> with_reducible rfl
      try simp only [Act.put, List.setIfInBounds_toArray, List.set_cons_zero, List.set_cons_succ]
      refine wpAnyH_done (by kernel_rfl) ?_ _
      refine NoPanic.normal ?_
      go_wp2_with fail
      go_ret
      exact ⟨rfl, HP.out.1⟩
end
end Go.Proofs.YtpahpnajeliodaaGreatDoor
/- The reader's calls sign and piece. -/
namespace Go.Proofs.YtpahpnajeliodaaGreatDoor
open Go.ChangeShapes Go.WideShapes Go.ChangeAt Go.RowKit
set_option linter.unusedVariables false
set_option linter.unusedSimpArgs false
section
variable {B rb : Nat} {s last : ByteArray} {r : RS} {vn : Qv} {w : World} {m : Int} {kd c pl : Nat} {first : Bool}

/-- The piece that a sign makes; G: what a group makes. -/
def signF (G : Tok → RS → Except (Nat × Nat) (Nat × RS)) (s last : ByteArray) (t : Tok) (first : Bool) (r : RS) : Except (Nat × Nat) (Nat × RS) :=
  if t.c = 94 then (if first then .ok (addN { op := 10 } r) else .ok (plF t r))
  else if t.c = 36 then eolF s t r
  else if t.c = 46 then .ok (addN { op := 3 } r)
  else if t.c = 60 then .ok (addN { op := 12 } r)
  else if t.c = 62 then .ok (addN { op := 13 } r)
  else if t.c = 126 then .ok (againF last r)
  else if t.c = 91 then setF s t r
  else if t.c = 40 then G t r
  else .ok (plF t r)
theorem sign_any (G : Tok → RS → Except (Nat × Nat) (Nat × RS)) (h : Rr B rb s last r vn w) (hs : s.size ≤ 400) (hla : last.size ≤ 1100) (ha : r.k ≤ s.size) (hl : r.nds.length < 50000) (hm : w.cell? ⟨3, 0, none⟩ = some (.int .i64 m))
    (hg : c = 40 → ∀ x, Kp w x → Calls Tryz.prog 79 #[.pointer (some ⟨rb, 0, none⟩), .agg #[.int .u8 kd, .int .u8 c, .int .i64 pl]] x (RetI B rb s last vn x (G ⟨kd, c, pl⟩ r))) :
    Calls Tryz.prog 59 #[.pointer (some ⟨rb, 0, none⟩), .agg #[.int .u8 kd, .int .u8 c, .int .i64 pl], .bool first] w (RetI B rb s last vn w (signF G s last ⟨kd, c, pl⟩ first r)) := by
  have hl' : r.nds.length < 100000 := by omega
  unfold signF
  simp only
  by_cases h1 : c = 94
  · rw [if_pos h1]
    cases first with
    | true => exact sign_bare h hl' 10 (.inl ⟨h1, rfl, rfl⟩)
    | false => exact sign_plain h hl' (.inl ⟨h1, rfl⟩)
  rw [if_neg h1]
  by_cases h2 : c = 36
  · rw [if_pos h2]; exact sign_eol h hs ha hl' h2
  rw [if_neg h2]
  by_cases h3 : c = 46
  · rw [if_pos h3]; exact sign_bare h hl' 3 (.inr (.inl ⟨h3, rfl⟩))
  rw [if_neg h3]
  by_cases h4 : c = 60
  · rw [if_pos h4]; exact sign_bare h hl' 12 (.inr (.inr (.inl ⟨h4, rfl⟩)))
  rw [if_neg h4]
  by_cases h5 : c = 62
  · rw [if_pos h5]; exact sign_bare h hl' 13 (.inr (.inr (.inr ⟨h5, rfl⟩)))
  rw [if_neg h5]
  by_cases h6 : c = 126
  · rw [if_pos h6]; exact sign_again h hla hl h6
  rw [if_neg h6]
  by_cases h7 : c = 91
  · rw [if_pos h7]; exact sign_set h hs ha hl' hm h7
  rw [if_neg h7]
  by_cases h8 : c = 40
  · rw [if_pos h8]; exact sign_group h _ (fun ob => hg h8 _ (kp_alloc w ob)) h8
  rw [if_neg h8]
  exact sign_plain h hl' (.inr ⟨h1, h2, h3, h4, h5, h6, h7, h8⟩)
def pieceF (G : Tok → RS → Except (Nat × Nat) (Nat × RS)) (s last : ByteArray) (t : Tok) (first : Bool) (r : RS) : Except (Nat × Nat) (Nat × RS) :=
  if t.kd = 2 then signF G s last t first r else if t.kd = 3 then letterF s t r else .ok (plF t r)
set_option maxHeartbeats 4000000 in
theorem piece_any (G : Tok → RS → Except (Nat × Nat) (Nat × RS)) (h : Rr B rb s last r vn w) (hs : s.size ≤ 400) (hla : last.size ≤ 1100) (ha : r.k ≤ s.size) (hl : r.nds.length < 50000) (hm : w.cell? ⟨3, 0, none⟩ = some (.int .i64 m)) (hcl : r.cl.length = 10) (hc8 : c < 256)
    (hg : c = 40 → ∀ x, Kp w x → Calls Tryz.prog 79 #[.pointer (some ⟨rb, 0, none⟩), .agg #[.int .u8 kd, .int .u8 c, .int .i64 pl]] x (RetI B rb s last vn x (G ⟨kd, c, pl⟩ r))) :
    Calls Tryz.prog 43 #[.pointer (some ⟨rb, 0, none⟩), .agg #[.int .u8 kd, .int .u8 c, .int .i64 pl], .bool first] w (RetI B rb s last vn w (pieceF G s last ⟨kd, c, pl⟩ first r)) := by
  have HR : Hid (Rr B rb s last r vn w ∧ ∀ ob, Rr B rb s last r vn (w.alloc ob)) := ⟨h, fun ob => h.kp (kp_alloc w ob)⟩
  have hne : w.heap.size ≠ rb := Nat.ne_of_gt h.lt
  have HV : Hid (vn.ownBlock ≠ some w.heap.size) := h.own (Nat.le_refl _)
  have HB : Hid (TokBox w.heap.size ⟨kd, c, pl⟩ (w.alloc (.cells #[.int .u8 kd, .int .u8 c, .int .i64 pl] 75)) ∧ TokBox w.heap.size ⟨kd, c, pl⟩ (w.alloc (.cells #[.int .u8 kd, .int .u8 c, .int .i64 pl] 75)).drew) := ⟨alloc_new w _, alloc_new w _⟩
  have HT := HB.out.1.cells.1
  obtain ⟨t0, t1, t2⟩ := HT
  unfold pieceF
  simp only
  by_cases h2 : kd = 2
  · rw [if_pos h2]
    obtain ⟨R, hR⟩ : ∃ R, signF G s last ⟨kd, c, pl⟩ first r = R := ⟨_, rfl⟩
    rw [hR]
    have HS : Hid (∀ ob, Calls Tryz.prog 59 #[.pointer (some ⟨rb, 0, none⟩), .agg #[.int .u8 kd, .int .u8 c, .int .i64 pl], .bool first] (w.alloc ob) (RetI B rb s last vn (w.alloc ob) R)) := fun ob => by
      rw [← hR]
      refine sign_any G (h.kp (kp_alloc w ob)) hs hla ha hl (m := m) ?_ (fun h8 x k => hg h8 x (kp_trans (kp_alloc w ob) k))
      have h3 : 3 < w.heap.size := by
        unfold World.cell? at hm
        cases hg : w.heap[3]? with
        | none => simp [hg] at hm
        | some o => exact (Array.getElem?_eq_some_iff.1 hg).1
      rw [← hm]
      exact World.cell?_of_block (alloc_old w ob 3 h3)
    have e2 : ((kd : Int) == 2) = true := by simp; omega
    clear hg hm h hR h2
    cases R with
    | error x =>
      obtain ⟨n, a⟩ := x
      go_enter Tryz.func43, Tryz.ntmps43
      go_wp2_with fail
      refine Calls.mono (HS.out _) ?_
      rintro e w1 ⟨rfl, q⟩
      have H1 : Hid (Er rb vn w w1) := HR.out.1.ert (Adv.kp vn rb (kp_alloc w _)) q
      clear q
      unfold Wrong
      go_wp2_with fail
      exact ⟨rfl, rfl, H1.out⟩
    | ok x =>
      obtain ⟨i, r'⟩ := x
      go_enter Tryz.func43, Tryz.ntmps43
      go_wp2_with fail
      refine Calls.mono (HS.out _) ?_
      rintro e w1 ⟨rfl, q⟩
      have H1 : Hid (Okk B rb s last vn w r' w1) := Okk.ahead (Adv.kp vn rb (kp_alloc w _)) q
      clear q
      go_wp2_with fail
      go_ret
      exact ⟨rfl, H1.out⟩
  rw [if_neg h2]
  have e2 : ((kd : Int) == 2) = false := by simp; omega
  by_cases h3 : kd = 3
  · rw [if_pos h3]
    obtain ⟨R, hR⟩ : ∃ R, letterF s ⟨kd, c, pl⟩ r = R := ⟨_, rfl⟩
    rw [hR]
    have HS : Hid (∀ ob, Calls Tryz.prog 60 #[.pointer (some ⟨rb, 0, none⟩), .agg #[.int .u8 kd, .int .u8 c, .int .i64 pl]] (w.alloc ob) (RetI B rb s last vn (w.alloc ob) R)) := fun ob => by
      rw [← hR]
      exact letter_any (h.kp (kp_alloc w ob)) hs ha (by omega) hcl ⟨kd, c, pl⟩ hc8
    have e3 : ((kd : Int) == 3) = true := by simp; omega
    clear hg hm h hR h2 h3
    cases R with
    | error x =>
      obtain ⟨n, a⟩ := x
      go_enter Tryz.func43, Tryz.ntmps43
      go_wp2_with fail
      refine Calls.mono (HS.out _) ?_
      rintro e w1 ⟨rfl, q⟩
      have H1 : Hid (Er rb vn w w1) := HR.out.1.ert (Adv.kp vn rb (kp_alloc w _)) q
      clear q
      unfold Wrong
      go_wp2_with fail
      exact ⟨rfl, rfl, H1.out⟩
    | ok x =>
      obtain ⟨i, r'⟩ := x
      go_enter Tryz.func43, Tryz.ntmps43
      go_wp2_with fail
      refine Calls.mono (HS.out _) ?_
      rintro e w1 ⟨rfl, q⟩
      have H1 : Hid (Okk B rb s last vn w r' w1) := Okk.ahead (Adv.kp vn rb (kp_alloc w _)) q
      clear q
      go_wp2_with fail
      go_ret
      exact ⟨rfl, H1.out⟩
  rw [if_neg h3]
  have e3 : ((kd : Int) == 3) = false := by simp; omega
  have rule1 : ∀ w', TokBox w.heap.size ⟨kd, c, pl⟩ w' → w'.cell? ⟨w.heap.size, 1, none⟩ = some (.int .u8 c) := fun _ h => h.cells.1.2.1
  have hl' : r.nds.length < 100000 := by omega
  clear hg hm h h2 h3
  go_enter Tryz.func43, Tryz.ntmps43
  go_wp2_with fail
  refine wp_region_noPanic ?_
  refine wp_region_held_drew (S := TokBox w.heap.size ⟨kd, c, pl⟩) (by kernel_rfl) (HB.out.2) (fun hHeld => ?_)
  refine takeAt 0 (some 20) ?_ rfl rfl (by kernel_rfl) (by kernel_rfl) (by kernel_rfl) (fun _ _ _ h => h) (Or.inl ⟨by rfl, ?_⟩) hHeld ?_
  rotate_left
  · intro w hSw
    go_simp <;> with_reducible rfl
  try simp only [Act.put, List.setIfInBounds_toArray, List.set_cons_zero, List.set_cons_succ]
  refine takeAt 1 (some 21) ?_ rfl rfl (by kernel_rfl) (by kernel_rfl) (by kernel_rfl) (fun _ _ _ h => h) (Or.inl ⟨by rfl, ?_⟩) hHeld ?_
  rotate_left
  · intro w hSw
    go_simp <;> with_reducible rfl
  try simp only [Act.put, List.setIfInBounds_toArray, List.set_cons_zero, List.set_cons_succ]
  refine takeAt 2 (some 22) ?_ rfl rfl (by kernel_rfl) (by kernel_rfl) (by kernel_rfl) (fun _ _ _ h => h) (Or.inl ⟨by rfl, ?_⟩) hHeld ?_
  rotate_left
  · intro w hSw
    go_simp <;> with_reducible rfl
  try simp only [Act.put, List.setIfInBounds_toArray, List.set_cons_zero, List.set_cons_succ]
  refine takeAt 3 (some 23) ?_ rfl rfl (by kernel_rfl) (by kernel_rfl) (by kernel_rfl) (fun _ _ _ h => h) (Or.inl ⟨by rfl, ?_⟩) hHeld ?_
  rotate_left
  · intro w hSw
    go_simp <;> with_reducible rfl
  try simp only [Act.put, List.setIfInBounds_toArray, List.set_cons_zero, List.set_cons_succ]
  refine takeAt 4 (some 24) ?_ rfl rfl (by kernel_rfl) (by kernel_rfl) (by kernel_rfl) (fun _ _ _ h => h) (Or.inl ⟨by rfl, ?_⟩) hHeld ?_
  rotate_left
  · intro w hSw
    go_simp <;> with_reducible rfl
  try simp only [Act.put, List.setIfInBounds_toArray, List.set_cons_zero, List.set_cons_succ]
  refine callAt 5 25 57 (vals := #[.pointer (some ⟨rb, 4, none⟩), .int .u8 c]) (by kernel_rfl) rfl rfl rfl rfl (by simp [Act.eval]) Tryz.func57 (by kernel_rfl) (by kernel_rfl) ?_
  refine Calls.mono (rplain (HR.out.1.kp (kp_trans (kp_alloc w _) (kp_drew _))) c hl') ?_
  rintro e w9 ⟨rfl, q⟩
  have HP : Hid (Okk B rb s last vn w _ w9 ∧ TokBox w.heap.size ⟨kd, c, pl⟩ w9) := ⟨Okk.ahead (Adv.kp vn rb (kp_trans (kp_alloc w _) (kp_drew _))) q, by obtain ⟨vn', _, a⟩ := q; exact TokBox.adv (HB.out.2) a hne HV.out⟩
  clear q
  refine ⟨_, rfl, HP.out.2, fun hHeld => ?_⟩
  try simp only [Act.put, List.setIfInBounds_toArray, List.set_cons_zero, List.set_cons_succ]
  refine takeAt 6 (some 6) ?_ rfl rfl (by kernel_rfl) (by kernel_rfl) (by kernel_rfl) (fun _ _ _ h => h) (Or.inl ⟨by rfl, ?_⟩) hHeld ?_
  rotate_left
  · intro w hSw
    go_simp <;> with_reducible rfl
  try simp only [Act.put, List.setIfInBounds_toArray, List.set_cons_zero, List.set_cons_succ]
  refine wpAnyH_done (by kernel_rfl) ?_ _
  refine NoPanic.normal ?_
  go_wp2_with fail
  go_ret
  exact ⟨rfl, HP.out.1⟩
end
end Go.Proofs.YtpahpnajeliodaaGreatDoor
/- The reader's call group. -/
namespace Go.Proofs.YtpahpnajeliodaaGreatDoor
open Go.ChangeShapes Go.WideShapes Go.ChangeAt Go.RowKit
set_option linter.unusedVariables false
set_option linter.unusedSimpArgs false
/-- What branches and branch come to. -/
def RetB (B rb : Nat) (s last : ByteArray) (vn : Qv) (w : World) (R : Except (Nat × Nat) (Nat × Tok × RS)) (e : Ending) (w' : World) : Prop :=
  match R with
  | .ok (i, t, r') => e = .returned (.tuple #[.int .i64 i, t.val]) ∧ Okk B rb s last vn w r' w'
  | .error (n, p) => e = Wrong n p ∧ Er rb vn w w'
def groupF (BR : RS → Except (Nat × Nat) (Nat × Tok × RS)) (t : Tok) (r : RS) : Except (Nat × Nat) (Nat × RS) :=
  if r.g = 9 then .error (31, t.pl)
  else match BR { r with g := r.g + 1 } with
    | .error e => .error e
    | .ok (kid, en, r') => if en.kd = 0 then .error (31, t.pl) else .ok (addN { op := 8, n := r.g + 1, kids := [kid] } { r' with cl := r'.cl.set (r.g + 1) true })
section
variable {B rb : Nat} {s last : ByteArray} {r : RS} {vn : Qv} {ns : List (Nd × Value)} {w w1 : World} {m : Int} {kd c pl : Nat}
theorem Rd.tail (h : Rd B rb s last r vn ns w) (k : Fr (On rb) w w1) {g' : Nat} {cl' : List Bool} (hs : Scn 50 (vn.v :: .string last :: .int .i64 g' :: cl'.map Value.bool) s r.k r.md r.cs rb w1) : Rd B rb s last { r with g := g', cl := cl' } vn ns w1 := by
  have a : Adv rb vn w vn w1 := Adv.on vn k
  have hrow : w1.ownsRow B 73 11 vn.v ns.length (flat ns) := by
    refine ⟨h.row.1, ?_⟩
    rcases h.row.2 with q | ⟨b, cap, cur, e, hb, hg, rest⟩
    · exact .inl q
    · refine .inr ⟨b, cap, cur, e, hb, ?_, rest⟩
      rw [k.block b (Array.getElem?_eq_some_iff.1 hg).1 fun q => h.apart (by unfold Qv.ownBlock; rw [e]; simp only [Value.ownBlock, Option.some.injEq]; exact q)]; exact hg
  exact ⟨h.ge, hs, hrow, h.apart, h.nds, fun x hx => by
    obtain ⟨q1, q2⟩ := row_advK (h.kids x hx).1 (h.kids x hx).2.1 a
    exact ⟨q1, q2, (h.kids x hx).2.2⟩, fun j hj => Nat.lt_of_lt_of_le (h.kbl j hj) k.size⟩
theorem Rr.setG (h : Rr B rb s last r vn w) (g' : Nat) : Rr B rb s last { r with g := g' } vn (w.setCell ⟨rb, 6, none⟩ (.int .i64 g')) := by
  obtain ⟨ns, h⟩ := h
  refine ⟨ns, ?_⟩
  have := h.tail (g' := g') (cl' := r.cl) (fr_set rb 6 (.int .i64 g') w) (by
    have hs := h.scn
    unfold Scn at hs ⊢
    rw [heap_setCell hs]; simp)
  exact this
theorem Rr.setCl (h : Rr B rb s last r vn w) (n : Nat) : Rr B rb s last { r with cl := r.cl.set n true } vn (w.setCell ⟨rb, 7 + n, none⟩ (.bool true)) := by
  obtain ⟨ns, h⟩ := h
  refine ⟨ns, ?_⟩
  have := h.tail (g' := r.g) (cl' := r.cl.set n true) (fr_set rb (7 + n) (.bool true) w) (by
    have hs := h.scn
    unfold Scn at hs ⊢
    rw [heap_setCell hs]
    rw [show 7 + n = n + 1 + 1 + 1 + 1 + 1 + 1 + 1 by omega]
    simp [List.map_set])
  exact this
theorem Rr.c6 (h : Rr B rb s last r vn w) : w.cell? ⟨rb, 6, none⟩ = some (.int .i64 r.g) := by obtain ⟨ns, h⟩ := h; exact h.c6
theorem Rr.fz (h : Rr B rb s last r vn w) (j : Nat) : w.frozen? ⟨rb, j, none⟩ = false := h.scn.fz j
theorem kid_add (h : Rr B rb s last r vn w) (d : Nd) {x : Nat} (hd : d.kids = [x]) {n : Nat} (hn : w.heap.size = n) (hl : r.nds.length < 100000) :
    Calls Tryz.prog 45 #[.pointer (some ⟨rb, 4, none⟩), d.val (.slice (some ⟨n, 0, none⟩) 1 1)] (w.alloc (.cells #[.int .i64 x] 3)) fun e w' => e = .returned (.int .i64 r.nds.length) ∧ ∃ vn', Rr B rb s last { r with nds := r.nds ++ [d] } vn' w' ∧ AdvX (some n) rb vn (w.alloc (.cells #[.int .i64 x] 3)) vn' w' := by
  subst hn
  have hB := h.hB
  have k := kp_alloc w (.cells #[.int .i64 x] 3)
  have hnew := h.new (Nat.le_refl _)
  obtain ⟨ns, h⟩ := h
  refine (add_any (h.kp k) d (kv := .slice (some ⟨w.heap.size, 0, none⟩) 1 1) ?_ ?_ hl (by rw [alloc_size]; omega)).mono ?_
  · rw [hd]
    refine ⟨rfl, .inr ⟨w.heap.size, 1, #[.int .i64 x], rfl, hB, alloc_new w _, by simp, by simp [maxLen], rfl, rfl⟩⟩
  · intro j hj
    simp only [Value.ownBlock, Option.some.injEq] at hj
    subst hj
    exact hnew.1
  · rintro e w' ⟨rfl, vn', q1, q2⟩
    exact ⟨rfl, vn', ⟨_, q1⟩, q2⟩
theorem group_full (h : Rr B rb s last r vn w) (hg : r.g = 9) :
    Calls Tryz.prog 79 #[.pointer (some ⟨rb, 0, none⟩), .agg #[.int .u8 kd, .int .u8 c, .int .i64 pl]] w (RetI B rb s last vn w (.error (31, pl))) := by
  have HR : Hid (Rr B rb s last r vn w) := h
  have d6 := (h.kp (kp_alloc w (.cells #[.int .u8 kd, .int .u8 c, .int .i64 pl] 75))).c6
  rw [hg] at d6
  have HB : Hid (TokBox w.heap.size ⟨kd, c, pl⟩ (w.alloc (.cells #[.int .u8 kd, .int .u8 c, .int .i64 pl] 75))) := alloc_new w _
  obtain ⟨⟨t0, t1, t2⟩, _⟩ := HB.out.cells
  clear h hg
  go_enter Tryz.func79, Tryz.ntmps79
  go_wp2_with fail
  exact ⟨rfl, rfl, HR.out.er (Adv.kp vn rb (kp_alloc w _))⟩
set_option maxHeartbeats 4000000 in
set_option maxRecDepth 100000 in
theorem group_any (BR : RS → Except (Nat × Nat) (Nat × Tok × RS)) (h : Rr B rb s last r vn w) (hg9 : r.g ≤ 9)
    (hb : ∀ x, Rr B rb s last { r with g := r.g + 1 } vn x → Below B w x → Calls Tryz.prog 21 #[.pointer (some ⟨rb, 0, none⟩)] x (RetB B rb s last vn x (BR { r with g := r.g + 1 })))
    (hn : ∀ i t r', BR { r with g := r.g + 1 } = .ok (i, t, r') → r'.nds.length < 100000 ∧ r'.cl.length = 10) :
    Calls Tryz.prog 79 #[.pointer (some ⟨rb, 0, none⟩), .agg #[.int .u8 kd, .int .u8 c, .int .i64 pl]] w (RetI B rb s last vn w (groupF BR ⟨kd, c, pl⟩ r)) := by
  unfold groupF
  by_cases hg : r.g = 9
  · rw [if_pos hg]; exact group_full h hg
  rw [if_neg hg]
  obtain ⟨g, hge⟩ : ∃ g, r.g = g := ⟨_, rfl⟩
  have hg8 : g ≤ 8 := by omega
  have d9 : ((g : Int) == 9) = false := by simp; omega
  obtain ⟨G, hG⟩ : ∃ G, g + 1 = G := ⟨_, rfl⟩
  have hG9 : G ≤ 9 := by omega
  have hgG : (g : Int) + 1 = (G : Int) := by omega
  have HG : Hid (r.g + 1 = G) := by show r.g + 1 = G; omega
  rw [HG.out] at hb hn ⊢
  have hA := h.kp (kp_alloc w (.cells #[.int .u8 kd, .int .u8 c, .int .i64 pl] 75))
  obtain ⟨wa, hwa⟩ : ∃ wa, w.alloc (.cells #[.int .u8 kd, .int .u8 c, .int .i64 pl] 75) = wa := ⟨_, rfl⟩
  have kA : Kp w wa := by rw [← hwa]; exact kp_alloc _ _
  have hTB : TokBox w.heap.size ⟨kd, c, pl⟩ wa := by rw [← hwa]; exact alloc_new w _
  rw [hwa] at hA
  have d6 := hA.c6
  rw [hge] at d6
  have f6 := hA.fz 6
  have H1 : Hid (Rr B rb s last { r with g := G } vn (wa.setCell ⟨rb, 6, none⟩ (.int .i64 G)) ∧ Adv rb vn w vn (wa.setCell ⟨rb, 6, none⟩ (.int .i64 G)) ∧ TokBox w.heap.size ⟨kd, c, pl⟩ (wa.setCell ⟨rb, 6, none⟩ (.int .i64 G)) ∧ vn.ownBlock ≠ some w.heap.size ∧ Rr B rb s last r vn w ∧ w.heap.size ≠ rb ∧ w.heap.size < (wa.setCell ⟨rb, 6, none⟩ (.int .i64 G)).heap.size) := by
    have hl := h.lt
    refine ⟨hA.setG G, (Adv.kp vn rb kA).trans (Adv.on vn (fr_set _ _ _ _)), TokBox.fr hTB (fr_set rb 6 _ wa) (by omega), h.own (Nat.le_refl _), h, by omega, ?_⟩
    rw [size_setCell, ← hwa, alloc_size]; omega
  have HBR : Hid _ := hb _ H1.out.1 (h.below H1.out.2.1)
  have HN : Hid _ := hn
  have c6' : (wa.setCell ⟨rb, 6, none⟩ (.int .i64 G)).cell? ⟨rb, 6, none⟩ = some (.int .i64 G) := H1.out.1.c6
  have hWA : Hid (w.alloc (.cells #[.int .u8 kd, .int .u8 c, .int .i64 pl] 75) = wa) := hwa
  clear hb hn h hA hTB kA hg hge hG
  obtain ⟨t0, t1, t2⟩ := H1.out.2.2.1.cells.1
  clear t0 t1 t2
  generalize BR { r with g := G } = R at *
  cases R with
  | error x =>
    obtain ⟨n, a⟩ := x
    clear hwa
    go_enter Tryz.func79, Tryz.ntmps79
    go_upto_region 1 with fail
    rw [hWA.out]
    go_wp2_with fail
    refine Calls.mono HBR.out ?_
    rintro e w1 ⟨rfl, q⟩
    have H2 : Hid (Er rb vn w w1) := H1.out.2.2.2.2.1.ert H1.out.2.1 q
    clear q
    unfold Wrong
    go_wp2_with fail
    exact ⟨rfl, rfl, H2.out⟩
  | ok x =>
    obtain ⟨kid, en, r'⟩ := x
    obtain ⟨ek, ec, ep⟩ := en
    simp only
    obtain ⟨hl, hcl⟩ := HN.out _ _ _ rfl
    by_cases h0 : ek = 0
    · rw [if_pos h0]
      have e0 : ((ek : Int) == 0) = true := by simp; omega
      clear hwa h0
      go_enter Tryz.func79, Tryz.ntmps79
      go_upto_region 1 with fail
      rw [hWA.out]
      go_wp2_with fail
      refine Calls.mono HBR.out ?_
      rintro e w1 ⟨rfl, vn1, q1, q2⟩
      have H2 : Hid (Rr B rb s last r' vn1 w1 ∧ Adv rb vn w vn1 w1 ∧ ∀ ob, TokBox w.heap.size ⟨kd, c, pl⟩ (w1.alloc ob)) := ⟨q1, H1.out.2.1.trans q2, fun ob => (TokBox.adv H1.out.2.2.1 q2 H1.out.2.2.2.2.2.1 H1.out.2.2.2.1).kp (kp_alloc _ _)⟩
      have HE : Hid (TokBox w1.heap.size ⟨ek, ec, ep⟩ (w1.alloc (.cells #[.int .u8 ek, .int .u8 ec, .int .i64 ep] 75))) := alloc_new w1 _
      obtain ⟨⟨u0, u1, u2⟩, _⟩ := HE.out.cells
      obtain ⟨⟨v0, v1, v2⟩, _⟩ := (H2.out.2.2 (.cells #[.int .u8 ek, .int .u8 ec, .int .i64 ep] 75)).cells
      clear q1 q2 d6 f6 c6'
      unfold Tok.val
      simp only
      go_wp2_with fail
      exact ⟨rfl, rfl, H1.out.2.2.2.2.1.er (H2.out.2.1.trans (Adv.kp vn1 rb (kp_alloc _ _)))⟩
    · rw [if_neg h0]
      have e0 : ((ek : Int) == 0) = false := by simp; omega
      clear hwa h0
      go_enter Tryz.func79, Tryz.ntmps79
      go_upto_region 1 with fail
      rw [hWA.out]
      go_wp2_with fail
      refine Calls.mono HBR.out ?_
      rintro e w1 ⟨rfl, vn1, q1, q2⟩
      have HE : Hid (TokBox w1.heap.size ⟨ek, ec, ep⟩ (w1.alloc (.cells #[.int .u8 ek, .int .u8 ec, .int .i64 ep] 75))) := alloc_new w1 _
      have H2 : Hid (Rr B rb s last r' vn1 (w1.alloc (.cells #[.int .u8 ek, .int .u8 ec, .int .i64 ep] 75)) ∧ Adv rb vn w vn1 (w1.alloc (.cells #[.int .u8 ek, .int .u8 ec, .int .i64 ep] 75))) := ⟨q1.kp (kp_alloc _ _), (H1.out.2.1.trans q2).trans (Adv.kp vn1 rb (kp_alloc _ _))⟩
      obtain ⟨⟨u0, u1, u2⟩, _⟩ := HE.out.cells
      clear q1 q2 d6 f6 c6'
      have x7 := H2.out.1.closed hcl (n := G) (by omega)
      have f7 := H2.out.1.fz (7 + G)
      unfold Tok.val
      simp only
      go_wp2_with fail
      have H3 : Hid (Rr B rb s last { r' with cl := r'.cl.set G true } vn1 ((w1.alloc (.cells #[.int .u8 ek, .int .u8 ec, .int .i64 ep] 75)).setCell ⟨rb, 7 + G, none⟩ (.bool true)) ∧ Adv rb vn w vn1 ((w1.alloc (.cells #[.int .u8 ek, .int .u8 ec, .int .i64 ep] 75)).setCell ⟨rb, 7 + G, none⟩ (.bool true)) ∧ ((w1.alloc (.cells #[.int .u8 ek, .int .u8 ec, .int .i64 ep] 75)).setCell ⟨rb, 7 + G, none⟩ (.bool true)).heap.size = w1.heap.size + 1) := ⟨H2.out.1.setCl G, H2.out.2.trans (Adv.on vn1 (fr_set _ _ _ _)), by rw [size_setCell, alloc_size]⟩
      have hlw := H2.out.2.fr.size
      rw [alloc_size] at hlw
      have HLW : Hid (w.heap.size ≤ w1.heap.size + 1) := hlw
      clear hlw
      refine Calls.mono (kid_add H3.out.1 { op := 8, n := G, kids := [kid] } rfl H3.out.2.2 hl) ?_
      rintro e w5 ⟨rfl, vn2, q1, q2⟩
      have H4 : Hid (Okk B rb s last vn w { r' with cl := r'.cl.set G true, nds := r'.nds ++ [{ op := 8, n := G, kids := [kid] }] } w5) := by
        have a := H3.out.2.1.trans ((Adv.kp vn1 rb (kp_alloc ((w1.alloc (.cells #[.int .u8 ek, .int .u8 ec, .int .i64 ep] 75)).setCell ⟨rb, 7 + G, none⟩ (.bool true)) (.cells #[.int .i64 kid] 3))))
        have a2 := AdvX.trans a q2
        exact ⟨vn2, q1, a2.fr, a2.own, fun j hj hq => (a2.kbs j hj hq).elim .inl fun z => by
          injection z with z
          have := HLW.out
          omega⟩
      clear q1 q2
      go_wp2_with fail
      go_ret
      exact ⟨rfl, H4.out⟩
end
end Go.Proofs.YtpahpnajeliodaaGreatDoor
/- The reader's call branch: its model. -/
namespace Go.Proofs.YtpahpnajeliodaaGreatDoor
open Go.ChangeShapes Go.WideShapes Go.ChangeAt Go.RowKit
set_option linter.unusedVariables false
set_option linter.unusedSimpArgs false
def mnS : ByteArray := ⟨#[42, 43, 61, 63, 123]⟩
/-- The pieces of a branch, from here on; P: what a piece makes. -/
def brF (P : Tok → Bool → RS → Except (Nat × Nat) (Nat × RS)) (s : ByteArray) : Nat → RS → List Nat → Except (Nat × Nat) (Nat × Tok × RS)
  | 0, _, _ => .error (0, 0)
  | f + 1, r, ks =>
    match nextF s (s.size + 1) r.k r.md r.cs with
    | .error e => .error e
    | .ok (t, k, md, cs) =>
      if t.ends then .ok ((joinF 5 ks { r with k := k, md := md, cs := cs }).1, t, (joinF 5 ks { r with k := k, md := md, cs := cs }).2)
      else if t.kd = 2 ∧ amo t.c mnS = true then
        match manyF s t ks { r with k := k, md := md, cs := cs } with
        | .error e => .error e
        | .ok (ks', r') => brF P s f r' ks'
      else
        match P t ks.isEmpty { r with k := k, md := md, cs := cs } with
        | .error e => .error e
        | .ok (i, r') => brF P s f r' (ks ++ [i])
theorem callAtP {P : Program} {ops : Array Oper} {Q : Exit → Act → World → Prop} {md : Region.Mode} {S : World → Prop} (i : Nat) (d : Tmp) (f : FuncId) {o : Oper} {fn : Func} {fuel : Nat} {listed : Array Bool} {a : Act} {w : World} {xs : Array Operand} {ats : Array TypeId} {vals : Array Value}
    (hr : Region.ready md ops listed = [i]) (ho : ops[i]? = some o) (hop : o.op = .call { callee := .value (.func f), args := xs, argTypes := ats }) (hd : o.dst = some d) (hg : o.guard = none) (hv : xs.map a.eval = vals)
    (hf : P.funcs[f]? = some fn) (hn : (fn.name == "runtime.NumGoroutine") = false) (hb : fn.body.isNone = false)
    (h : Calls P f vals w fun e w' => ∃ c, e = .panicked c ∧ Q (.panic c) a w') : wpAnyH P md ops Q S (fuel + 1) listed a w := by
  refine wpAnyH_ready hr (by simp) ?_
  refine AllReadyH.cons ho (fun K hK => ?_) AllReadyH.nil
  have hw : Region.wanted o (yielded ops a.tmps) = true := by simp [Region.wanted, hg]
  rw [if_pos hw]
  obtain ⟨dst, op, type, pos, after, guard⟩ := o
  simp only at hop hd hg
  subst hop; subst hd; subst hg
  unfold Oper.wp
  rw [execOp_call_go, show (#[] ++ xs.map a.eval ++ #[]) = vals by simp [hv], run_callGo vals w hf hn hb]
  simp only [Oper.upon]
  refine Calls.mono h ?_
  rintro e w' ⟨c, rfl, hQ⟩
  exact hQ
section
variable {B rb : Nat} {s last : ByteArray} {r : RS} {vn : Qv} {w w1 : World} {m : Int}
/-- What next comes to, of a reader. -/
def RetN (B rb : Nat) (s last : ByteArray) (r : RS) (vn : Qv) (w : World) (R : Except (Nat × Nat) (Tok × Nat × ByteArray × Nat)) (e : Ending) (w' : World) : Prop :=
  match R with
  | .ok (t, k, md, cs) => e = .returned t.val ∧ Rr B rb s last { r with k := k, md := md, cs := cs } vn w' ∧ Adv rb vn w vn w'
  | .error (n, a) => e = Wrong n a ∧ Er rb vn w w'
theorem rnext (h : Rr B rb s last r vn w) (hs : s.size ≤ 400) (ha : r.k ≤ s.size) {R : Except (Nat × Nat) (Tok × Nat × ByteArray × Nat)} (hR : nextF s (s.size + 1) r.k r.md r.cs = R) :
    Calls Tryz.prog 39 #[.pointer (some ⟨rb, 0, none⟩)] w (RetN B rb s last r vn w R) := by
  have := next_any h.scn hs ha (f := s.size + 1) (by omega)
  rw [hR] at this
  refine this.mono ?_
  intro e w' q
  cases R with
  | error x => obtain ⟨n, a⟩ := x; exact ⟨q.1, h.er (Adv.on vn q.2)⟩
  | ok x => obtain ⟨t, k, md, cs⟩ := x; exact ⟨q.1, h.scan q.2.1 q.2.2, Adv.on vn q.2.1⟩
/-- A branch under way: the reader, the pieces so far (new since w), and the answer's box. -/
structure Bw (B rb : Nat) (s last : ByteArray) (vn : Qv) (w : World) (r' : RS) (vn' : Qv) (v : Value) (ks : List Nat) (x : World) : Prop where
  rr : Rr B rb s last r' vn' x
  row : KRow B x v ks
  off : Off rb vn' v
  adv : Adv rb vn w vn' x
  new : ∀ j, v.ownBlock = some j → w.heap.size + 1 ≤ j
  box : TokBox w.heap.size ⟨0, 0, 0⟩ x
  own : vn'.ownBlock ≠ some w.heap.size ∧ ¬ vn'.kb w.heap.size
  ne : w.heap.size ≠ rb
variable {r1 r2 : RS} {vn1 vn2 : Qv} {v v2 : Value} {ks ks2 : List Nat} {x y : World}
theorem Bw.lt (h : Bw B rb s last vn w r1 vn1 v ks x) : w.heap.size < x.heap.size := (Array.getElem?_eq_some_iff.1 h.box).1
theorem Bw.start (h : Rr B rb s last r vn w) : Bw B rb s last vn w r vn (.slice none 0 0) [] (w.alloc (.cells #[.int .u8 0, .int .u8 0, .int .i64 0] 75)) :=
  have k := kp_alloc w (.cells #[.int .u8 0, .int .u8 0, .int .i64 0] 75)
  have hl := h.lt
  have hn := h.new (Nat.le_refl _)
  ⟨h.kp k, leaf_row B _, fun j hj => by simp [Value.ownBlock] at hj, Adv.kp vn rb k, fun j hj => by simp [Value.ownBlock] at hj, TokBox.new w, ⟨hn.1.2, hn.2⟩, by omega⟩
theorem Bw.step (h : Bw B rb s last vn w r1 vn1 v ks x) (hr : Rr B rb s last r2 vn2 y) (a : Adv rb vn1 x vn2 y) : Bw B rb s last vn w r2 vn2 v ks y := by
  obtain ⟨q1, q2⟩ := row_adv h.row h.off a
  refine ⟨hr, q1, q2, h.adv.trans a, h.new, TokBox.adv h.box a h.ne h.own.1, ⟨?_, ?_⟩, h.ne⟩
  · rcases a.own with e | e
    · rw [e]; exact h.own.1
    · intro z
      have := e _ z
      have := h.lt
      omega
  · intro z
    rcases a.kbs _ h.lt z with z | z
    · exact h.own.2 z
    · cases z
theorem Bw.kp (h : Bw B rb s last vn w r1 vn1 v ks x) (k : Kp x y) : Bw B rb s last vn w r1 vn1 v ks y := h.step (h.rr.kp k) (Adv.kp vn1 rb k)
theorem Bw.turn (h : Bw B rb s last vn w r1 vn1 v ks x) (hr : Rr B rb s last r2 vn2 y) (hk : KRow B y v2 ks2) (ho : Off rb vn2 v2) (a : LAdv rb vn1 v x vn2 v2 y) : Bw B rb s last vn w r2 vn2 v2 ks2 y := by
  obtain ⟨q1, q2⟩ := LAdv.adv h.adv a (fun j hj => by have := h.new j hj; omega)
  have hl := h.lt
  refine ⟨hr, hk, ho, q1, ?_, ?_, ⟨?_, ?_⟩, h.ne⟩
  · intro j hj
    rcases a.lin with e | e
    · rw [e] at hj; exact h.new j hj
    · have := e j hj
      omega
  · have hb := h.box
    unfold TokBox at hb ⊢
    rw [a.fr.block _ hl fun z => ?_]; exact hb
    rcases z with (z | z) | z
    · exact h.ne z
    · exact h.own.1 z
    · have := h.new _ z
      omega
  · rcases a.own with e | e
    · rw [e]; exact h.own.1
    · intro z
      have := e _ z
      omega
  · intro z
    exact h.own.2 (a.kbs _ hl z)
/-- The end of a branch: its pieces are given up to a node. -/
theorem Bw.done (h : Bw B rb s last vn w r1 vn1 v ks x) (hr : Rr B rb s last r2 vn2 y) (a : AdvX v.ownBlock rb vn1 x vn2 y) : Adv rb vn w vn2 y ∧ TokBox w.heap.size ⟨0, 0, 0⟩ y ∧ vn2.ownBlock ≠ some w.heap.size ∧ ¬ vn2.kb w.heap.size := by
  have a2 := AdvX.trans h.adv a
  have hl := h.lt
  refine ⟨⟨a2.fr, a2.own, fun j hj hq => (a2.kbs j hj hq).elim .inl fun z => ?_⟩, ?_, ?_, ?_⟩
  · have := h.new j z
    omega
  · have hb := h.box
    unfold TokBox at hb ⊢
    rw [a.fr.block _ hl fun z => ?_]; exact hb
    rcases z with z | z
    · exact h.ne z
    · exact h.own.1 z
  · rcases a.own with e | e
    · rw [e]; exact h.own.1
    · intro z
      have := e _ z
      omega
  · intro z
    rcases a.kbs _ hl z with z | z
    · exact h.own.2 z
    · have := h.new _ z
      omega
theorem okk_box (hR : Rr B rb s last r2 vn2 x) (hA : Adv rb vn w vn2 x) (hn : w.heap.size ≠ rb) (ho : vn2.ownBlock ≠ some w.heap.size ∧ ¬ vn2.kb w.heap.size) (f : Fr (On w.heap.size) x y) : Okk B rb s last vn w r2 y :=
  ⟨vn2, hR.off (P := On w.heap.size) (fun j hj => by unfold On at hj; subst hj; exact ⟨⟨hn, ho.1⟩, ho.2⟩) f, ⟨hA.fr.trans' f fun k hk q => by unfold On at q; omega, hA.own, hA.kbs⟩⟩
end
end Go.Proofs.YtpahpnajeliodaaGreatDoor
/- The reader's call branch. -/
namespace Go.Proofs.YtpahpnajeliodaaGreatDoor
open Go.ChangeShapes Go.WideShapes Go.ChangeAt Go.RowKit
set_option linter.unusedVariables false
set_option linter.unusedSimpArgs false
/-- What is asked of the pieces, and of what is kept from round to round. -/
structure Kpt (P : Tok → Bool → RS → Except (Nat × Nat) (Nat × RS)) (I : RS → List Nat → Prop) (J : Tok → RS → List Nat → Prop) (s : ByteArray) : Prop where
  head : ∀ r ks, I r ks → r.k ≤ s.size ∧ r.nds.length < 50000 ∧ ks.length < 50000
  next : ∀ r ks t k md cs, I r ks → nextF s (s.size + 1) r.k r.md r.cs = .ok (t, k, md, cs) → t.ends = false → J t { r with k := k, md := md, cs := cs } ks ∧ r.k < k
  mid : ∀ t r ks, J t r ks → r.k ≤ s.size ∧ r.nds.length < 50000 ∧ ks.length < 50000 ∧ ∀ p, ks.getLast? = some p → p < r.nds.length
  many : ∀ t r ks ks' r', J t r ks → manyF s t ks r = .ok (ks', r') → I r' ks' ∧ r.k ≤ r'.k
  piece : ∀ t r ks i r', J t r ks → P t ks.isEmpty r = .ok (i, r') → I r' (ks ++ [i]) ∧ r.k ≤ r'.k
section
variable {B rb : Nat} {s last : ByteArray} {r : RS} {vn : Qv} {w w1 : World} {m : Int} {P : Tok → Bool → RS → Except (Nat × Nat) (Nat × RS)} {I : RS → List Nat → Prop} {J : Tok → RS → List Nat → Prop}
theorem rmany {v : Value} {t : Tok} {ks : List Nat} (h : Rr B rb s last r vn w) (hs : s.size ≤ 400) (ha : r.k ≤ s.size) (hl : r.nds.length < 50000) (hks : ks.length < 50000) (hp : ∀ p, ks.getLast? = some p → p < r.nds.length) (hk : KRow B w v ks) (ho : Off rb vn v) :
    Calls Tryz.prog 42 #[.pointer (some ⟨rb, 0, none⟩), t.val, v] w (RetL B rb s last vn v w (manyF s t ks r)) := by
  cases hq : ks.getLast? with
  | none => exact many_none h (by omega) t (by omega) (List.getLast?_eq_none_iff.1 hq) hk ho
  | some p =>
    cases hr : repB (opOf r p) with
    | true => exact many_rep h hs ha (by omega) t (by omega) hq (hp p hq) hr hk ho
    | false => exact many_star h (by omega) t (by omega) hq (hp p hq) hr hk ho
set_option maxHeartbeats 4000000 in
set_option maxRecDepth 100000 in
theorem branch_any (K : Kpt P I J s) (h : Rr B rb s last r vn w) (hs : s.size ≤ 400) (hI : I r [])
    (hP : ∀ t r1 ks vn1 x, J t r1 ks → Rr B rb s last r1 vn1 x → Below B w x → Calls Tryz.prog 43 #[.pointer (some ⟨rb, 0, none⟩), t.val, .bool ks.isEmpty] x (RetI B rb s last vn1 x (P t ks.isEmpty r1))) (X : Except (Nat × Nat) (Nat × Tok × RS)) (hX : brF P s (s.size + 1) r [] = X) :
    Calls Tryz.prog 29 #[.pointer (some ⟨rb, 0, none⟩)] w (RetB B rb s last vn w X) := by
  have HK : Hid _ := K
  have HP : Hid _ := hP
  have H0 : Hid (Rr B rb s last r vn w ∧ I r [] ∧ brF P s (s.size + 1) r [] = X) := ⟨h, hI, hX⟩
  clear K hP h hI hX
  go_enter Tryz.func29, Tryz.ntmps29
  go_wp2_with fail
  go_loopw [4] (fun v4 wr => ∃ (f : Nat) (r1 : RS) (vn1 : Qv) (ks : List Nat), s.size - r1.k < f ∧ brF P s f r1 ks = X ∧ I r1 ks ∧ Bw B rb s last vn w r1 vn1 v4 ks wr) (fun v4 wr => s.size - atOf rb wr)
  case atStart =>
    exact ⟨_, r, vn, [], by omega, H0.out.2.2, H0.out.2.1, Bw.start H0.out.1⟩
  case round =>
    obtain ⟨f, r1, vn1, ks, hf, hX, hI, hb⟩ := hrel
    cases f with
    | zero => omega
    | succ f =>
    have hX' : (match nextF s (s.size + 1) r1.k r1.md r1.cs with
      | .error e => .error e
      | .ok (t, k, md, cs) =>
        if t.ends then .ok ((joinF 5 ks { r1 with k := k, md := md, cs := cs }).1, t, (joinF 5 ks { r1 with k := k, md := md, cs := cs }).2)
        else if t.kd = 2 ∧ amo t.c mnS = true then
          match manyF s t ks { r1 with k := k, md := md, cs := cs } with
          | .error e => .error e
          | .ok (ks', r') => brF P s f r' ks'
        else
          match P t ks.isEmpty { r1 with k := k, md := md, cs := cs } with
          | .error e => .error e
          | .ok (i, r') => brF P s f r' (ks ++ [i])) = X := hX
    clear hX
    obtain ⟨i1, i2, i3⟩ := HK.out.head _ _ hI
    have HA : Hid (atOf rb wr = r1.k) := hb.rr.scn.atOf
    have HBw : Hid _ := hb
    have HI : Hid _ := hI
    obtain ⟨R, hR⟩ : ∃ R, nextF s (s.size + 1) r1.k r1.md r1.cs = R := ⟨_, rfl⟩
    have HN : Hid _ := rnext hb.rr hs i1 hR
    rw [hR] at hX'
    have HX : Hid _ := hX'
    have HR : Hid (nextF s (s.size + 1) r1.k r1.md r1.cs = R) := hR
    obtain ⟨va, vc, hv, _, _⟩ := owns_form hb.row
    subst hv
    clear hX' hI hb hR
    cases R with
    | error z =>
      obtain ⟨n, a⟩ := z
      have HXe : Hid (X = .error (n, a)) := HX.out.symm
      go_wp2_with fail
      refine Calls.mono HN.out ?_
      rintro e w2 ⟨rfl, q⟩
      have H2 : Hid (Er rb vn w w2) := H0.out.1.ert HBw.out.adv q
      clear q
      unfold Wrong
      go_wp2_with fail
      rw [HXe.out]
      exact ⟨rfl, rfl, H2.out⟩
    | ok z =>
      obtain ⟨t, k, md, cs⟩ := z
      go_wp2_with fail
      refine Calls.mono HN.out ?_
      rintro e w2 ⟨rfl, q1, q2⟩
      have H2 : Hid (Bw B rb s last vn w { r1 with k := k, md := md, cs := cs } vn1 _ ks w2) := HBw.out.step q1 q2
      clear q1 q2
      obtain ⟨kd, c, pl⟩ := t
      unfold Tok.val
      simp only
      have HTb : Hid (TokBox w2.heap.size ⟨kd, c, pl⟩ (w2.alloc (.cells #[.int .u8 kd, .int .u8 c, .int .i64 pl] 75))) := alloc_new w2 _
      obtain ⟨⟨t0, t1, t2⟩, _⟩ := HTb.out.cells
      have HE : Hid (∀ x, Calls Tryz.prog 40 #[.agg #[.int .u8 kd, .int .u8 c, .int .i64 pl]] x fun e w' => e = .returned (.bool (Tok.ends ⟨kd, c, pl⟩)) ∧ Kp x w') := fun x => ends_any ⟨kd, c, pl⟩ x
      obtain ⟨y, hy⟩ : ∃ y, Tok.ends ⟨kd, c, pl⟩ = y := ⟨_, rfl⟩
      rw [hy] at HE
      have HY : Hid (Tok.ends ⟨kd, c, pl⟩ = y) := hy
      clear hy
      go_wp2_with fail
      refine Calls.mono (HE.out _) ?_
      rintro e w3 ⟨rfl, q⟩
      have H3 : Hid (Bw B rb s last vn w { r1 with k := k, md := md, cs := cs } vn1 _ ks w3 ∧ TokBox w2.heap.size ⟨kd, c, pl⟩ w3) := ⟨(H2.out.kp (kp_alloc _ _)).kp q, HTb.out.kp q⟩
      clear q t0 t1 t2
      cases y with
      | true =>
        have HXe : Hid (X = .ok ((joinF 5 ks { r1 with k := k, md := md, cs := cs }).1, ⟨kd, c, pl⟩, (joinF 5 ks { r1 with k := k, md := md, cs := cs }).2)) := by
          have := HX.out
          simp only [HY.out, if_true] at this
          exact this.symm
        have HJ : Hid (∀ vv x, Rr B rb s last { r1 with k := k, md := md, cs := cs } vn1 x → KRow B x vv ks → Off rb vn1 vv → Calls Tryz.prog 31 #[.pointer (some ⟨rb, 4, none⟩), .int .u8 5, vv] x fun e w' => e = .returned (.int .i64 (joinF 5 ks { r1 with k := k, md := md, cs := cs }).1) ∧ ∃ vn', Rr B rb s last (joinF 5 ks { r1 with k := k, md := md, cs := cs }).2 vn' w' ∧ AdvX vv.ownBlock rb vn1 x vn' w') := fun vv x a b c => rjoin a 5 (by show r1.nds.length < 100000; omega) (by omega) b c
        generalize joinF 5 ks { r1 with k := k, md := md, cs := cs } = JJ at *
        obtain ⟨ji, jr⟩ := JJ
        simp only at HJ HXe
        have H4 : Hid (Bw B rb s last vn w { r1 with k := k, md := md, cs := cs } vn1 (.slice va ks.length vc) ks w3.drew ∧ TokBox w2.heap.size ⟨kd, c, pl⟩ w3.drew ∧ w2.heap.size ≠ rb ∧ vn1.ownBlock ≠ some w2.heap.size ∧ w.heap.size ≠ w2.heap.size) := by
          have l1 := H2.out.rr.lt
          have l2 := H2.out.lt
          exact ⟨H3.out.1.kp (kp_drew _), H3.out.2.kp (kp_drew _), by omega, H2.out.rr.own (Nat.le_refl _), by omega⟩
        have rl0 : ∀ w', TokBox w2.heap.size ⟨kd, c, pl⟩ w' → w'.cell? ⟨w2.heap.size, 0, none⟩ = some (.int .u8 kd) := fun _ h => h.cells.1.1
        have rl1 : ∀ w', TokBox w2.heap.size ⟨kd, c, pl⟩ w' → w'.cell? ⟨w2.heap.size, 1, none⟩ = some (.int .u8 c) := fun _ h => h.cells.1.2.1
        have rl2 : ∀ w', TokBox w2.heap.size ⟨kd, c, pl⟩ w' → w'.cell? ⟨w2.heap.size, 2, none⟩ = some (.int .i64 pl) := fun _ h => h.cells.1.2.2
        go_wp2_with fail
        refine wp_region_noPanic ?_
        refine wp_region_held_drew (S := TokBox w2.heap.size ⟨kd, c, pl⟩) (by kernel_rfl) (H4.out.2.1) (fun hHeld => ?_)
        refine takeAt 0 (some 12) ?_ rfl rfl (by kernel_rfl) (by kernel_rfl) (by kernel_rfl) (fun _ _ _ h => h) (Or.inl ⟨by rfl, ?_⟩) hHeld ?_
        rotate_left
        · intro w hSw
          go_simp <;> with_reducible rfl
        try simp only [Act.put, List.setIfInBounds_toArray, List.set_cons_zero, List.set_cons_succ]
        refine takeAt 1 (some 13) ?_ rfl rfl (by kernel_rfl) (by kernel_rfl) (by kernel_rfl) (fun _ _ _ h => h) (Or.inl ⟨by rfl, ?_⟩) hHeld ?_
        rotate_left
        · intro w hSw
          go_simp <;> with_reducible rfl
        try simp only [Act.put, List.setIfInBounds_toArray, List.set_cons_zero, List.set_cons_succ]
        refine takeAt 2 (some 14) ?_ rfl rfl (by kernel_rfl) (by kernel_rfl) (by kernel_rfl) (fun _ _ _ h => h) (Or.inl ⟨by rfl, ?_⟩) hHeld ?_
        rotate_left
        · intro w hSw
          go_simp <;> with_reducible rfl
        try simp only [Act.put, List.setIfInBounds_toArray, List.set_cons_zero, List.set_cons_succ]
        refine takeAt 3 (some 15) ?_ rfl rfl (by kernel_rfl) (by kernel_rfl) (by kernel_rfl) (fun _ _ _ h => h) (Or.inl ⟨by rfl, ?_⟩) hHeld ?_
        rotate_left
        · intro w hSw
          go_simp <;> with_reducible rfl
        try simp only [Act.put, List.setIfInBounds_toArray, List.set_cons_zero, List.set_cons_succ]
        refine takeAt 5 (some 17) ?_ rfl rfl (by kernel_rfl) (by kernel_rfl) (by kernel_rfl) (fun _ _ _ h => h) (Or.inl ⟨by rfl, ?_⟩) hHeld ?_
        rotate_left
        · intro w hSw
          go_simp <;> with_reducible rfl
        try simp only [Act.put, List.setIfInBounds_toArray, List.set_cons_zero, List.set_cons_succ]
        refine callAt 4 16 31 (vals := #[.pointer (some ⟨rb, 4, none⟩), .int .u8 5, (.slice va ks.length vc)]) (by kernel_rfl) rfl rfl rfl rfl (by simp [Act.eval]) Tryz.func31 (by kernel_rfl) (by kernel_rfl) ?_
        refine Calls.mono (HJ.out _ _ H4.out.1.rr H4.out.1.row H4.out.1.off) ?_
        rintro e w4 ⟨rfl, vn2, z1, z2⟩
        have H5 : Hid ((Adv rb vn w vn2 w4 ∧ TokBox w.heap.size ⟨0, 0, 0⟩ w4 ∧ vn2.ownBlock ≠ some w.heap.size ∧ ¬ vn2.kb w.heap.size) ∧ TokBox w2.heap.size ⟨kd, c, pl⟩ w4 ∧ Rr B rb s last jr vn2 w4) := ⟨H4.out.1.done z1 z2, by
          have hb := H4.out.2.1
          unfold TokBox at hb ⊢
          rw [z2.fr.block _ (Array.getElem?_eq_some_iff.1 hb).1 fun z => ?_]
          · exact hb
          · rcases z with z | z
            · exact H4.out.2.2.1 z
            · exact H4.out.2.2.2.1 z, z1⟩
        clear z1 z2
        refine ⟨_, rfl, H5.out.2.1, fun hHeld => ?_⟩
        try simp only [Act.put, List.setIfInBounds_toArray, List.set_cons_zero, List.set_cons_succ]
        refine takeAt 6 (some 2) ?_ rfl rfl (by kernel_rfl) (by kernel_rfl) (by kernel_rfl) (fun _ _ _ h => h) (Or.inl ⟨by rfl, ?_⟩) hHeld ?_
        rotate_left
        · intro w hSw
          go_simp <;> with_reducible rfl
        try simp only [Act.put, List.setIfInBounds_toArray, List.set_cons_zero, List.set_cons_succ]
        obtain ⟨⟨n0, n1, n2⟩, m0, m1, m2⟩ := H5.out.1.2.1.cells
        have H6 : Hid (TokBox w2.heap.size ⟨kd, c, pl⟩ (((w4.setCell ⟨w.heap.size, 0, none⟩ (.int .u8 kd)).setCell ⟨w.heap.size, 1, none⟩ (.int .u8 c)).setCell ⟨w.heap.size, 2, none⟩ (.int .i64 pl))) := by
          have f : Fr (On w.heap.size) w4 (((w4.setCell ⟨w.heap.size, 0, none⟩ (.int .u8 kd)).setCell ⟨w.heap.size, 1, none⟩ (.int .u8 c)).setCell ⟨w.heap.size, 2, none⟩ (.int .i64 pl)) := ((fr_set _ 0 _ _).trans (fr_set _ 1 _ _)).trans (fr_set _ 2 _ _)
          exact TokBox.fr H5.out.2.1 f (by have := H4.out.2.2.2.2; omega)
        refine wpAnyH_ready (rs := [7]) (by kernel_rfl) (by simp) ?_
        refine AllReadyH.cons rfl (fun K hK => ?_) AllReadyH.nil
        go_simp
        refine hK.out _ _ (H6.out) (fun hHeld => ?_)
        clear hK K
        try simp only [Act.put, List.setIfInBounds_toArray, List.set_cons_zero, List.set_cons_succ]
        refine wpAnyH_done (by kernel_rfl) ?_ _
        refine NoPanic.normal ?_
        go_wp2_with fail
        obtain ⟨e0, e1, e2, _⟩ := H5.out.1.2.1.put (.int .u8 kd) (.int .u8 c) (.int .i64 pl)
        rw [HXe.out]
        refine bodyPost_ret (v := .tuple #[.int .i64 ji, .agg #[.int .u8 kd, .int .u8 c, .int .i64 pl]]) (by simp [results, Tryz.results29, go_sem, e0, e1, e2]) rfl ⟨rfl, okk_box H5.out.2.2 H5.out.1.1 H4.out.1.ne H5.out.1.2.2 (((fr_set _ 0 _ _).trans (fr_set _ 1 _ _)).trans (fr_set _ 2 _ _))⟩
      | false =>
        have HJ : Hid (J ⟨kd, c, pl⟩ { r1 with k := k, md := md, cs := cs } ks ∧ r1.k < k) := HK.out.next _ _ _ _ _ _ HI.out HR.out HY.out
        obtain ⟨j1, j2, j3, j4⟩ := HK.out.mid _ _ _ HJ.out.1
        obtain ⟨⟨t0, t1, t2⟩, _⟩ := H3.out.2.cells
        have HAm : Hid (∀ x, Calls Tryz.prog 41 #[.int .u8 c, .string ⟨#[42, 43, 61, 63, 123]⟩] x fun e w' => e = .returned (.bool (amo c mnS)) ∧ w' = x) := fun x => among_any c mnS x
        by_cases hkd : kd = 2
        · have d2 : ((kd : Int) == 2) = true := by simp; omega
          cases ham : amo c mnS with
          | true =>
            have HQ : Hid (kd = 2 ∧ amo c mnS = true) := ⟨hkd, ham⟩
            rw [ham] at HAm
            clear hkd ham
            have HM : Hid _ := rmany (t := ⟨kd, c, pl⟩) H3.out.1.rr hs j1 j2 j3 j4 H3.out.1.row H3.out.1.off
            obtain ⟨M, hM⟩ : ∃ M, manyF s ⟨kd, c, pl⟩ ks { r1 with k := k, md := md, cs := cs } = M := ⟨_, rfl⟩
            have HMe : Hid (manyF s ⟨kd, c, pl⟩ ks { r1 with k := k, md := md, cs := cs } = M) := hM
            rw [hM] at HM
            have HXm : Hid ((match (generalizing := false) M with | .error e => .error e | .ok (ks', r') => brF P s f r' ks') = X) := by
              have := HX.out
              simp only [HY.out, hM] at this
              rw [if_neg (by simp), if_pos (by exact HQ.out)] at this
              exact this
            clear hM
            unfold Tok.val at HM
            cases M with
            | error z =>
              obtain ⟨n, a⟩ := z
              have HXe : Hid (X = .error (n, a)) := HXm.out.symm
              go_wp2_with (go_at_call 41; refine Calls.mono (HAm.out _) ?_; rintro e _ ⟨rfl, rfl⟩)
              refine Calls.mono HM.out ?_
              rintro e w4 ⟨rfl, q⟩
              have H5 : Hid (Er rb vn w w4) := H0.out.1.ert H3.out.1.adv q
              clear q
              unfold Wrong
              go_wp2_with fail
              rw [HXe.out]
              exact ⟨rfl, rfl, H5.out⟩
            | ok z =>
              obtain ⟨ks2, r2⟩ := z
              go_wp2_with (go_at_call 41; refine Calls.mono (HAm.out _) ?_; rintro e _ ⟨rfl, rfl⟩)
              refine Calls.mono HM.out ?_
              rintro e w4 ⟨v2, vn2, rfl, q1, q2, q3, q4⟩
              have H5 : Hid (Bw B rb s last vn w r2 vn2 v2 ks2 w4) := H3.out.1.turn q1 q2 q3 q4
              clear q1 q2 q3 q4
              go_wp2_with fail
              go_roundw
              case rel =>
                have g := HK.out.many _ _ _ _ _ HJ.out.1 HMe.out
                have l := HJ.out.2
                have l2 := (HK.out.head _ _ g.1).1
                have l3 : k ≤ r2.k := g.2
                exact ⟨f, r2, vn2, ks2, by omega, HXm.out, g.1, H5.out⟩
              case measure =>
                have g := HK.out.many _ _ _ _ _ HJ.out.1 HMe.out
                have l := HJ.out.2
                have l2 := (HK.out.head _ _ g.1).1
                have l3 : k ≤ r2.k := g.2
                rw [HA.out, H5.out.rr.scn.atOf]
                omega
          | false =>
            have HQ : Hid (¬ (kd = 2 ∧ amo c mnS = true)) := fun q => by rw [ham] at q; cases q.2
            rw [ham] at HAm
            clear hkd ham
            obtain ⟨E, hE⟩ : ∃ E, ks.isEmpty = E := ⟨_, rfl⟩
            have dE : ((ks.length : Int) == 0) = E := by rw [← hE]; cases ks <;> simp; omega
            have HPc : Hid _ := HP.out ⟨kd, c, pl⟩ { r1 with k := k, md := md, cs := cs } ks vn1 w3 HJ.out.1 H3.out.1.rr (H0.out.1.below H3.out.1.adv)
            obtain ⟨M, hM⟩ : ∃ M, P ⟨kd, c, pl⟩ ks.isEmpty { r1 with k := k, md := md, cs := cs } = M := ⟨_, rfl⟩
            have HMe : Hid (P ⟨kd, c, pl⟩ ks.isEmpty { r1 with k := k, md := md, cs := cs } = M) := hM
            have HXm : Hid ((match (generalizing := false) M with | .error e => .error e | .ok (i, r') => brF P s f r' (ks ++ [i])) = X) := by
              have := HX.out
              simp only [HY.out, hM] at this
              rw [if_neg (by simp), if_neg (by exact HQ.out)] at this
              exact this
            rw [hM, hE] at HPc
            clear hM hE
            unfold Tok.val at HPc
            cases M with
            | error z =>
              obtain ⟨n, a⟩ := z
              have HXe : Hid (X = .error (n, a)) := HXm.out.symm
              go_wp2_with (go_at_call 41; refine Calls.mono (HAm.out _) ?_; rintro e _ ⟨rfl, rfl⟩)
              refine Calls.mono HPc.out ?_
              rintro e w4 ⟨rfl, q⟩
              have H5 : Hid (Er rb vn w w4) := H0.out.1.ert H3.out.1.adv q
              clear q
              unfold Wrong
              go_wp2_with fail
              rw [HXe.out]
              exact ⟨rfl, rfl, H5.out⟩
            | ok z =>
              obtain ⟨i, r2⟩ := z
              go_wp2_with (go_at_call 41; refine Calls.mono (HAm.out _) ?_; rintro e _ ⟨rfl, rfl⟩)
              refine Calls.mono HPc.out ?_
              rintro e w4 ⟨rfl, vn2, q1, q2⟩
              have H5 : Hid (Bw B rb s last vn w r2 vn2 (.slice va ks.length vc) ks w4) := H3.out.1.step q1 q2
              clear q1 q2
              obtain ⟨i9, hi9, z0, z1, z2⟩ := info_parts infoInt
              obtain ⟨L, hL⟩ : ∃ L, ks.length = L := ⟨_, rfl⟩
              have HL : Hid (ks.length = L) := hL
              have hLs : L < 50000 := by omega
              rw [hL] at H5 ⊢
              clear hL
              have HOW : Hid ((w4.alloc (.cells #[.int .i64 i] 3)).ownsRow B 3 1 (.slice va L vc) L (nums ks)) := by have := row_kp H5.out.row (kp_alloc w4 (.cells #[.int .i64 i] 3)); rw [HL.out] at this; exact this
              have HNEW : Hid (∀ j u, ([.int .i64 i] : List Value)[j]? = some u → (w4.alloc (.cells #[.int .i64 i] 3)).cell? ((⟨w4.heap.size, 0, none⟩ : Addr).add j) = some u) := by
                intro j u hj
                rw [Addr.add_lit, cell_at (alloc_new w4 _), Nat.zero_add, ← hj]; exact List.getElem?_toArray
              have HONE : Hid (∀ u ∈ ([.int .i64 i] : List Value), u.oneCell' = true) := by intro u hu; simp only [List.mem_singleton] at hu; subst hu; rfl
              have HSZ : Hid ((w4.alloc (.cells #[.int .i64 i] 3)).heap.size = w4.heap.size + 1) := alloc_size _ _
              have HBW : Hid (B ≤ (w4.alloc (.cells #[.int .i64 i] 3)).heap.size) := by have := H5.out.rr.hB; have := HSZ.out; show B ≤ _; omega
              go_wp2_with (at_builtin; refine wpList_append_lies _ rfl (.tmp 30) (.tmp 37) 71 rfl B 3 i9 _ 1 8 Tryz.underlying71 hi9 z0 z1 z2 rfl (by decide) (.slice va L vc) L (nums ks) rfl HOW.out ⟨w4.heap.size, 0, none⟩ 1 1 [.int .i64 i] rfl rfl HNEW.out HONE.out (by omega) (by unfold maxLen; omega) (by omega) HBW.out (w4.heap.size + 1) HSZ.out ?_)
              intro g cp w5 hown hgrow hat hlt
              have HF : Hid (Bw B rb s last vn w r2 vn2 (.slice (some ⟨g, 0, none⟩) (L + 1) cp) (ks ++ [i]) w5) := by
                obtain ⟨q1, q2, q3, q4⟩ := H5.out.rr.snoc (x := i) HL.out H5.out.row H5.out.off (kp_alloc w4 (.cells #[.int .i64 i] 3)) hown hgrow (by rw [HSZ.out]; exact hat)
                exact H5.out.turn q1 q2 q3 q4
              clear hown hgrow hat hlt
              go_wp2_with fail
              go_roundw
              case rel =>
                have g1 := HK.out.piece _ _ _ _ _ HJ.out.1 HMe.out
                have l := HJ.out.2
                have l2 := (HK.out.head _ _ g1.1).1
                have l3 : k ≤ r2.k := g1.2
                exact ⟨f, r2, vn2, ks ++ [i], by omega, HXm.out, g1.1, HF.out⟩
              case measure =>
                have g1 := HK.out.piece _ _ _ _ _ HJ.out.1 HMe.out
                have l := HJ.out.2
                have l2 := (HK.out.head _ _ g1.1).1
                have l3 : k ≤ r2.k := g1.2
                rw [HA.out, HF.out.rr.scn.atOf]
                omega
        · have d2 : ((kd : Int) == 2) = false := by simp; omega
          have HQ : Hid (¬ (kd = 2 ∧ amo c mnS = true)) := fun q => hkd q.1
          clear hkd
          obtain ⟨E, hE⟩ : ∃ E, ks.isEmpty = E := ⟨_, rfl⟩
          have dE : ((ks.length : Int) == 0) = E := by rw [← hE]; cases ks <;> simp; omega
          have HPc : Hid _ := HP.out ⟨kd, c, pl⟩ { r1 with k := k, md := md, cs := cs } ks vn1 w3 HJ.out.1 H3.out.1.rr (H0.out.1.below H3.out.1.adv)
          obtain ⟨M, hM⟩ : ∃ M, P ⟨kd, c, pl⟩ ks.isEmpty { r1 with k := k, md := md, cs := cs } = M := ⟨_, rfl⟩
          have HMe : Hid (P ⟨kd, c, pl⟩ ks.isEmpty { r1 with k := k, md := md, cs := cs } = M) := hM
          have HXm : Hid ((match (generalizing := false) M with | .error e => .error e | .ok (i, r') => brF P s f r' (ks ++ [i])) = X) := by
            have := HX.out
            simp only [HY.out, hM] at this
            rw [if_neg (by simp), if_neg (by exact HQ.out)] at this
            exact this
          rw [hM, hE] at HPc
          clear hM hE
          unfold Tok.val at HPc
          cases M with
          | error z =>
            obtain ⟨n, a⟩ := z
            have HXe : Hid (X = .error (n, a)) := HXm.out.symm
            go_wp2_with fail
            refine Calls.mono HPc.out ?_
            rintro e w4 ⟨rfl, q⟩
            have H5 : Hid (Er rb vn w w4) := H0.out.1.ert H3.out.1.adv q
            clear q
            unfold Wrong
            go_wp2_with fail
            rw [HXe.out]
            exact ⟨rfl, rfl, H5.out⟩
          | ok z =>
            obtain ⟨i, r2⟩ := z
            go_wp2_with fail
            refine Calls.mono HPc.out ?_
            rintro e w4 ⟨rfl, vn2, q1, q2⟩
            have H5 : Hid (Bw B rb s last vn w r2 vn2 (.slice va ks.length vc) ks w4) := H3.out.1.step q1 q2
            clear q1 q2
            obtain ⟨i9, hi9, z0, z1, z2⟩ := info_parts infoInt
            obtain ⟨L, hL⟩ : ∃ L, ks.length = L := ⟨_, rfl⟩
            have HL : Hid (ks.length = L) := hL
            have hLs : L < 50000 := by omega
            rw [hL] at H5 ⊢
            clear hL
            have HOW : Hid ((w4.alloc (.cells #[.int .i64 i] 3)).ownsRow B 3 1 (.slice va L vc) L (nums ks)) := by have := row_kp H5.out.row (kp_alloc w4 (.cells #[.int .i64 i] 3)); rw [HL.out] at this; exact this
            have HNEW : Hid (∀ j u, ([.int .i64 i] : List Value)[j]? = some u → (w4.alloc (.cells #[.int .i64 i] 3)).cell? ((⟨w4.heap.size, 0, none⟩ : Addr).add j) = some u) := by
              intro j u hj
              rw [Addr.add_lit, cell_at (alloc_new w4 _), Nat.zero_add, ← hj]; exact List.getElem?_toArray
            have HONE : Hid (∀ u ∈ ([.int .i64 i] : List Value), u.oneCell' = true) := by intro u hu; simp only [List.mem_singleton] at hu; subst hu; rfl
            have HSZ : Hid ((w4.alloc (.cells #[.int .i64 i] 3)).heap.size = w4.heap.size + 1) := alloc_size _ _
            have HBW : Hid (B ≤ (w4.alloc (.cells #[.int .i64 i] 3)).heap.size) := by have := H5.out.rr.hB; have := HSZ.out; show B ≤ _; omega
            go_wp2_with (at_builtin; refine wpList_append_lies _ rfl (.tmp 30) (.tmp 37) 71 rfl B 3 i9 _ 1 8 Tryz.underlying71 hi9 z0 z1 z2 rfl (by decide) (.slice va L vc) L (nums ks) rfl HOW.out ⟨w4.heap.size, 0, none⟩ 1 1 [.int .i64 i] rfl rfl HNEW.out HONE.out (by omega) (by unfold maxLen; omega) (by omega) HBW.out (w4.heap.size + 1) HSZ.out ?_)
            intro g cp w5 hown hgrow hat hlt
            have HF : Hid (Bw B rb s last vn w r2 vn2 (.slice (some ⟨g, 0, none⟩) (L + 1) cp) (ks ++ [i]) w5) := by
              obtain ⟨q1, q2, q3, q4⟩ := H5.out.rr.snoc (x := i) HL.out H5.out.row H5.out.off (kp_alloc w4 (.cells #[.int .i64 i] 3)) hown hgrow (by rw [HSZ.out]; exact hat)
              exact H5.out.turn q1 q2 q3 q4
            clear hown hgrow hat hlt
            go_wp2_with fail
            go_roundw
            case rel =>
              have g1 := HK.out.piece _ _ _ _ _ HJ.out.1 HMe.out
              have l := HJ.out.2
              have l2 := (HK.out.head _ _ g1.1).1
              have l3 : k ≤ r2.k := g1.2
              exact ⟨f, r2, vn2, ks ++ [i], by omega, HXm.out, g1.1, HF.out⟩
            case measure =>
              have g1 := HK.out.piece _ _ _ _ _ HJ.out.1 HMe.out
              have l := HJ.out.2
              have l2 := (HK.out.head _ _ g1.1).1
              have l3 : k ≤ r2.k := g1.2
              rw [HA.out, HF.out.rr.scn.atOf]
              omega

end
end Go.Proofs.YtpahpnajeliodaaGreatDoor
