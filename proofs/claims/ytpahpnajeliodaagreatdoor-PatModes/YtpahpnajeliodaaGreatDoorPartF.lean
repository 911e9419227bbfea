/- Texts that the proof of the law stands on: Branches, Kept, Knot, Knot2, Knot3, Pattern, NewReader, Recov, Read, Parse, Inr1, Inr2, Inr3. -/
import Derived.Test.YtpahpnajeliodaaGreatDoorPartE
import Derived.Defers
import Derived.Recover
import Derived.Test.YtpahpnajeliodaaGreatDoorPartB
/- The reader's call branches. -/
namespace Go.Proofs.YtpahpnajeliodaaGreatDoor
open Go.ChangeShapes Go.WideShapes Go.ChangeAt Go.RowKit
set_option linter.unusedVariables false
set_option linter.unusedSimpArgs false
/-- The branches, from here on; F: what a branch makes. -/
def brsL (F : RS → Except (Nat × Nat) (Nat × Tok × RS)) : Nat → RS → List Nat → Except (Nat × Nat) (Nat × Tok × RS)
  | 0, _, _ => .error (0, 0)
  | f + 1, r, ks =>
    match F r with
    | .error e => .error e
    | .ok (i, t, r') => if t.kd = 2 ∧ t.c = 124 then brsL F f r' (ks ++ [i]) else .ok ((joinF 6 (ks ++ [i]) r').1, t, (joinF 6 (ks ++ [i]) r').2)
structure Kbs (F : RS → Except (Nat × Nat) (Nat × Tok × RS)) (I : RS → List Nat → Prop) (s : ByteArray) : Prop where
  head : ∀ r ks, I r ks → r.k ≤ s.size ∧ ks.length < 50000
  step : ∀ r ks i t r', I r ks → F r = .ok (i, t, r') → r'.nds.length < 50000 ∧ ((t.kd = 2 ∧ t.c = 124) → I r' (ks ++ [i]) ∧ r.k < r'.k)
section
variable {B rb : Nat} {s last : ByteArray} {r : RS} {vn : Qv} {w w1 : World} {m : Int} {F : RS → Except (Nat × Nat) (Nat × Tok × RS)} {I : RS → List Nat → Prop}
set_option maxHeartbeats 4000000 in
set_option maxRecDepth 100000 in
theorem branches_any (K : Kbs F I s) (h : Rr B rb s last r vn w) (hs : s.size ≤ 400) (hI : I r [])
    (hB : ∀ r1 ks vn1 x, I r1 ks → Rr B rb s last r1 vn1 x → Below B w x → Calls Tryz.prog 29 #[.pointer (some ⟨rb, 0, none⟩)] x (RetB B rb s last vn1 x (F r1))) (X : Except (Nat × Nat) (Nat × Tok × RS)) (hX : brsL F (s.size + 1) r [] = X) :
    Calls Tryz.prog 21 #[.pointer (some ⟨rb, 0, none⟩)] w (RetB B rb s last vn w X) := by
  have HK : Hid _ := K
  have HP : Hid _ := hB
  have H0 : Hid (Rr B rb s last r vn w ∧ I r [] ∧ brsL F (s.size + 1) r [] = X) := ⟨h, hI, hX⟩
  clear K hB h hI hX
  go_enter Tryz.func21, Tryz.ntmps21
  go_wp2_with fail
  go_loopw [4] (fun v4 wr => ∃ (f : Nat) (r1 : RS) (vn1 : Qv) (ks : List Nat), s.size - r1.k < f ∧ brsL F f r1 ks = X ∧ I r1 ks ∧ Bw B rb s last vn w r1 vn1 v4 ks wr) (fun v4 wr => s.size - atOf rb wr)
  case atStart =>
    exact ⟨_, r, vn, [], by omega, H0.out.2.2, H0.out.2.1, Bw.start H0.out.1⟩
  case round =>
    obtain ⟨f, r1, vn1, ks, hf, hX, hI, hb⟩ := hrel
    cases f with
    | zero => omega
    | succ f =>
    have hX' : (match F r1 with
      | .error e => .error e
      | .ok (i, t, r') => if t.kd = 2 ∧ t.c = 124 then brsL F f r' (ks ++ [i]) else .ok ((joinF 6 (ks ++ [i]) r').1, t, (joinF 6 (ks ++ [i]) r').2)) = X := hX
    clear hX
    obtain ⟨i1, i3⟩ := HK.out.head _ _ hI
    have HA : Hid (atOf rb wr = r1.k) := hb.rr.scn.atOf
    have HBw : Hid _ := hb
    have HI : Hid _ := hI
    have HN : Hid _ := HP.out _ _ _ _ hI hb.rr (H0.out.1.below hb.adv)
    obtain ⟨R, hR⟩ : ∃ R, F r1 = R := ⟨_, rfl⟩
    rw [hR] at hX' HN
    have HX : Hid _ := hX'
    have HR : Hid (F r1 = R) := hR
    obtain ⟨va, vc, hv, _, _⟩ := owns_form hb.row
    subst hv
    clear hX' hI hb hR
    cases R with
    | error z =>
      obtain ⟨n, a⟩ := z
      have HXe : Hid (X = .error (n, a)) := HX.out.symm
      go_wp2_with fail
      refine Calls.mono HN.out ?_
      rintro e w2 ⟨rfl, q⟩
      have H2 : Hid (Er rb vn w w2) := H0.out.1.ert HBw.out.adv q
      clear q
      unfold Wrong
      go_wp2_with fail
      rw [HXe.out]
      exact ⟨rfl, rfl, H2.out⟩
    | ok z =>
      obtain ⟨i, t, r2⟩ := z
      go_wp2_with fail
      refine Calls.mono HN.out ?_
      rintro e w2 ⟨rfl, vn2, q1, q2⟩
      have H2 : Hid (Bw B rb s last vn w r2 vn2 _ ks w2) := HBw.out.step q1 q2
      clear q1 q2
      obtain ⟨kd, c, pl⟩ := t
      unfold Tok.val
      simp only
      have HTb : Hid (TokBox w2.heap.size ⟨kd, c, pl⟩ (w2.alloc (.cells #[.int .u8 kd, .int .u8 c, .int .i64 pl] 75))) := alloc_new w2 _
      obtain ⟨w4, hw4⟩ : ∃ w4, w2.alloc (.cells #[.int .u8 kd, .int .u8 c, .int .i64 pl] 75) = w4 := ⟨_, rfl⟩
      have HW4 : Hid (w2.alloc (.cells #[.int .u8 kd, .int .u8 c, .int .i64 pl] 75) = w4) := hw4
      have H5 : Hid (Bw B rb s last vn w r2 vn2 (.slice va ks.length vc) ks w4) := by rw [← hw4]; exact H2.out.kp (kp_alloc _ _)
      rw [hw4] at HTb
      clear hw4
      obtain ⟨i9, hi9, z0, z1, z2⟩ := info_parts infoInt
      obtain ⟨L, hL⟩ : ∃ L, ks.length = L := ⟨_, rfl⟩
      have HL : Hid (ks.length = L) := hL
      have hLs : L < 50000 := by omega
      have HNT : Hid (w2.heap.size ≠ rb ∧ vn2.ownBlock ≠ some w2.heap.size ∧ (∀ j, (Value.slice va ks.length vc).ownBlock = some j → j ≠ w2.heap.size) ∧ w.heap.size ≠ w2.heap.size) := by
        have l1 := H2.out.rr.lt
        have l2 := H2.out.lt
        exact ⟨by omega, H2.out.rr.own (Nat.le_refl _), fun j hj => by have := (H2.out.row.lt j hj).2; omega, by omega⟩
      rw [hL] at H5 HNT ⊢
      clear hL
      have HOW : Hid ((w4.alloc (.cells #[.int .i64 i] 3)).ownsRow B 3 1 (.slice va L vc) L (nums ks)) := by have := row_kp H5.out.row (kp_alloc w4 (.cells #[.int .i64 i] 3)); rw [HL.out] at this; exact this
      have HNEW : Hid (∀ j u, ([.int .i64 i] : List Value)[j]? = some u → (w4.alloc (.cells #[.int .i64 i] 3)).cell? ((⟨w4.heap.size, 0, none⟩ : Addr).add j) = some u) := by
        intro j u hj
        rw [Addr.add_lit, cell_at (alloc_new w4 _), Nat.zero_add, ← hj]; exact List.getElem?_toArray
      have HONE : Hid (∀ u ∈ ([.int .i64 i] : List Value), u.oneCell' = true) := by intro u hu; simp only [List.mem_singleton] at hu; subst hu; rfl
      have HSZ : Hid ((w4.alloc (.cells #[.int .i64 i] 3)).heap.size = w4.heap.size + 1) := alloc_size _ _
      have HBW : Hid (B ≤ (w4.alloc (.cells #[.int .i64 i] 3)).heap.size) := by have := H5.out.rr.hB; have := HSZ.out; show B ≤ _; omega
      go_upto_region 3 with fail
      rw [HW4.out]
      go_wp2_with (at_builtin; refine wpList_append_lies _ rfl (.tmp 12) (.tmp 14) 71 rfl B 3 i9 _ 1 8 Tryz.underlying71 hi9 z0 z1 z2 rfl (by decide) (.slice va L vc) L (nums ks) rfl HOW.out ⟨w4.heap.size, 0, none⟩ 1 1 [.int .i64 i] rfl rfl HNEW.out HONE.out (by omega) (by unfold maxLen; omega) (by omega) HBW.out (w4.heap.size + 1) HSZ.out ?_)
      intro g cp w5 hown hgrow hat hlt
      have HF : Hid (Bw B rb s last vn w r2 vn2 (.slice (some ⟨g, 0, none⟩) (L + 1) cp) (ks ++ [i]) w5 ∧ TokBox w2.heap.size ⟨kd, c, pl⟩ w5) := by
        obtain ⟨q1, q2, q3, q4⟩ := H5.out.rr.snoc (x := i) HL.out H5.out.row H5.out.off (kp_alloc w4 (.cells #[.int .i64 i] 3)) hown hgrow (by rw [HSZ.out]; exact hat)
        refine ⟨H5.out.turn q1 q2 q3 q4, ?_⟩
        have hb := HTb.out
        unfold TokBox at hb ⊢
        rw [q4.fr.block _ (Array.getElem?_eq_some_iff.1 hb).1 fun z => ?_]
        · exact hb
        · rcases z with (z | z) | z
          · exact HNT.out.1 z
          · exact HNT.out.2.1 z
          · exact HNT.out.2.2.1 _ z rfl
      clear hown hgrow hat hlt
      have HI2 : Hid (∀ x, Calls Tryz.prog 30 #[.agg #[.int .u8 kd, .int .u8 c, .int .i64 pl], .int .u8 124] x fun e w' => e = .returned (.bool (decide (kd = 2 ∧ c = 124))) ∧ Kp x w') := fun x => isSign_any ⟨kd, c, pl⟩ 124 x
      obtain ⟨y, hy⟩ : ∃ y, decide (kd = 2 ∧ c = 124) = y := ⟨_, rfl⟩
      have HY : Hid (decide (kd = 2 ∧ c = 124) = y) := hy
      rw [hy] at HI2
      clear hy
      obtain ⟨⟨t0, t1, t2⟩, _⟩ := HF.out.2.cells
      go_wp2_with fail
      refine Calls.mono (HI2.out _) ?_
      rintro e w6 ⟨rfl, q⟩
      have H6 : Hid (Bw B rb s last vn w r2 vn2 (.slice (some ⟨g, 0, none⟩) (L + 1) cp) (ks ++ [i]) w6 ∧ TokBox w2.heap.size ⟨kd, c, pl⟩ w6) := ⟨HF.out.1.kp q, HF.out.2.kp q⟩
      clear q t0 t1 t2
      have HSt : Hid _ := HK.out.step _ _ _ _ _ HI.out HR.out
      cases y with
      | true =>
        have HXm : Hid (brsL F f r2 (ks ++ [i]) = X) := by
          have := HX.out
          try simp only at this
          rw [if_pos (of_decide_eq_true HY.out)] at this
          exact this
        go_wp2_with fail
        go_roundw
        case rel =>
          have g1 := HSt.out.2 (of_decide_eq_true HY.out)
          have l2 := (HK.out.head _ _ g1.1).1
          have l3 := g1.2
          exact ⟨f, r2, vn2, ks ++ [i], by omega, HXm.out, g1.1, H6.out.1⟩
        case measure =>
          have g1 := HSt.out.2 (of_decide_eq_true HY.out)
          have l2 := (HK.out.head _ _ g1.1).1
          have l3 := g1.2
          rw [HA.out, H6.out.1.rr.scn.atOf]
          omega
      | false =>
        have HXe : Hid (X = .ok ((joinF 6 (ks ++ [i]) r2).1, ⟨kd, c, pl⟩, (joinF 6 (ks ++ [i]) r2).2)) := by
          have := HX.out
          try simp only at this
          rw [if_neg (of_decide_eq_false HY.out)] at this
          exact this.symm
        have hnd := HSt.out.1
        have HJ : Hid (∀ vv x, Rr B rb s last r2 vn2 x → KRow B x vv (ks ++ [i]) → Off rb vn2 vv → Calls Tryz.prog 31 #[.pointer (some ⟨rb, 4, none⟩), .int .u8 6, vv] x fun e w' => e = .returned (.int .i64 (joinF 6 (ks ++ [i]) r2).1) ∧ ∃ vn', Rr B rb s last (joinF 6 (ks ++ [i]) r2).2 vn' w' ∧ AdvX vv.ownBlock rb vn2 x vn' w') := fun vv x a b c => rjoin a 6 (by omega) (by have := HL.out; simp; omega) b c
        generalize joinF 6 (ks ++ [i]) r2 = JJ at *
        obtain ⟨ji, jr⟩ := JJ
        simp only at HJ HXe
        have H7 : Hid (Bw B rb s last vn w r2 vn2 (.slice (some ⟨g, 0, none⟩) (L + 1) cp) (ks ++ [i]) w6.drew ∧ TokBox w2.heap.size ⟨kd, c, pl⟩ w6.drew) := ⟨H6.out.1.kp (kp_drew _), H6.out.2.kp (kp_drew _)⟩
        have rl0 : ∀ w', TokBox w2.heap.size ⟨kd, c, pl⟩ w' → w'.cell? ⟨w2.heap.size, 0, none⟩ = some (.int .u8 kd) := fun _ h => h.cells.1.1
        have rl1 : ∀ w', TokBox w2.heap.size ⟨kd, c, pl⟩ w' → w'.cell? ⟨w2.heap.size, 1, none⟩ = some (.int .u8 c) := fun _ h => h.cells.1.2.1
        have rl2 : ∀ w', TokBox w2.heap.size ⟨kd, c, pl⟩ w' → w'.cell? ⟨w2.heap.size, 2, none⟩ = some (.int .i64 pl) := fun _ h => h.cells.1.2.2
        go_wp2_with fail
        refine wp_region_noPanic ?_
        refine wp_region_held_drew (S := TokBox w2.heap.size ⟨kd, c, pl⟩) (by kernel_rfl) (H7.out.2) (fun hHeld => ?_)
        refine takeAt 0 (some 19) ?_ rfl rfl (by kernel_rfl) (by kernel_rfl) (by kernel_rfl) (fun _ _ _ h => h) (Or.inl ⟨by rfl, ?_⟩) hHeld ?_
        rotate_left
        · intro w hSw
          go_simp <;> with_reducible rfl
        try simp only [Act.put, List.setIfInBounds_toArray, List.set_cons_zero, List.set_cons_succ]
        refine takeAt 1 (some 20) ?_ rfl rfl (by kernel_rfl) (by kernel_rfl) (by kernel_rfl) (fun _ _ _ h => h) (Or.inl ⟨by rfl, ?_⟩) hHeld ?_
        rotate_left
        · intro w hSw
          go_simp <;> with_reducible rfl
        try simp only [Act.put, List.setIfInBounds_toArray, List.set_cons_zero, List.set_cons_succ]
        refine takeAt 2 (some 21) ?_ rfl rfl (by kernel_rfl) (by kernel_rfl) (by kernel_rfl) (fun _ _ _ h => h) (Or.inl ⟨by rfl, ?_⟩) hHeld ?_
        rotate_left
        · intro w hSw
          go_simp <;> with_reducible rfl
        try simp only [Act.put, List.setIfInBounds_toArray, List.set_cons_zero, List.set_cons_succ]
        refine takeAt 3 (some 22) ?_ rfl rfl (by kernel_rfl) (by kernel_rfl) (by kernel_rfl) (fun _ _ _ h => h) (Or.inl ⟨by rfl, ?_⟩) hHeld ?_
        rotate_left
        · intro w hSw
          go_simp <;> with_reducible rfl
        try simp only [Act.put, List.setIfInBounds_toArray, List.set_cons_zero, List.set_cons_succ]
        refine takeAt 5 (some 24) ?_ rfl rfl (by kernel_rfl) (by kernel_rfl) (by kernel_rfl) (fun _ _ _ h => h) (Or.inl ⟨by rfl, ?_⟩) hHeld ?_
        rotate_left
        · intro w hSw
          go_simp <;> with_reducible rfl
        try simp only [Act.put, List.setIfInBounds_toArray, List.set_cons_zero, List.set_cons_succ]
        refine callAt 4 23 31 (vals := #[.pointer (some ⟨rb, 4, none⟩), .int .u8 6, .slice (some ⟨g, 0, none⟩) (L + 1) cp]) (by kernel_rfl) rfl rfl rfl rfl (by simp [Act.eval]) Tryz.func31 (by kernel_rfl) (by kernel_rfl) ?_
        refine Calls.mono (HJ.out _ _ H7.out.1.rr H7.out.1.row H7.out.1.off) ?_
        rintro e w7 ⟨rfl, vn3, x1, x2⟩
        have H8 : Hid ((Adv rb vn w vn3 w7 ∧ TokBox w.heap.size ⟨0, 0, 0⟩ w7 ∧ vn3.ownBlock ≠ some w.heap.size ∧ ¬ vn3.kb w.heap.size) ∧ TokBox w2.heap.size ⟨kd, c, pl⟩ w7 ∧ Rr B rb s last jr vn3 w7) := ⟨H7.out.1.done x1 x2, by
          have hb := H7.out.2
          unfold TokBox at hb ⊢
          rw [x2.fr.block _ (Array.getElem?_eq_some_iff.1 hb).1 fun z => ?_]
          · exact hb
          · rcases z with z | z
            · exact HNT.out.1 z
            · exact HNT.out.2.1 z, x1⟩
        clear x1 x2
        refine ⟨_, rfl, H8.out.2.1, fun hHeld => ?_⟩
        try simp only [Act.put, List.setIfInBounds_toArray, List.set_cons_zero, List.set_cons_succ]
        refine takeAt 6 (some 2) ?_ rfl rfl (by kernel_rfl) (by kernel_rfl) (by kernel_rfl) (fun _ _ _ h => h) (Or.inl ⟨by rfl, ?_⟩) hHeld ?_
        rotate_left
        · intro w hSw
          go_simp <;> with_reducible rfl
        try simp only [Act.put, List.setIfInBounds_toArray, List.set_cons_zero, List.set_cons_succ]
        obtain ⟨⟨n0, n1, n2⟩, m0, m1, m2⟩ := H8.out.1.2.1.cells
        have H9 : Hid (TokBox w2.heap.size ⟨kd, c, pl⟩ (((w7.setCell ⟨w.heap.size, 0, none⟩ (.int .u8 kd)).setCell ⟨w.heap.size, 1, none⟩ (.int .u8 c)).setCell ⟨w.heap.size, 2, none⟩ (.int .i64 pl))) := by
          have f : Fr (On w.heap.size) w7 (((w7.setCell ⟨w.heap.size, 0, none⟩ (.int .u8 kd)).setCell ⟨w.heap.size, 1, none⟩ (.int .u8 c)).setCell ⟨w.heap.size, 2, none⟩ (.int .i64 pl)) := ((fr_set _ 0 _ _).trans (fr_set _ 1 _ _)).trans (fr_set _ 2 _ _)
          exact TokBox.fr H8.out.2.1 f (by have := HNT.out.2.2.2; omega)
        refine wpAnyH_ready (rs := [7]) (by kernel_rfl) (by simp) ?_
        refine AllReadyH.cons rfl (fun K hK => ?_) AllReadyH.nil
        go_simp
        refine hK.out _ _ (H9.out) (fun hHeld => ?_)
        clear hK K
        try simp only [Act.put, List.setIfInBounds_toArray, List.set_cons_zero, List.set_cons_succ]
        refine wpAnyH_done (by kernel_rfl) ?_ _
        refine NoPanic.normal ?_
        go_wp2_with fail
        obtain ⟨e0, e1, e2, _⟩ := H8.out.1.2.1.put (.int .u8 kd) (.int .u8 c) (.int .i64 pl)
        rw [HXe.out]
        exact bodyPost_ret (v := .tuple #[.int .i64 ji, .agg #[.int .u8 kd, .int .u8 c, .int .i64 pl]]) (by simp [results, Tryz.results21, go_sem, e0, e1, e2]) rfl ⟨rfl, okk_box H8.out.2.2 H8.out.1.1 H7.out.1.ne H8.out.1.2.2 (((fr_set _ 0 _ _).trans (fr_set _ 1 _ _)).trans (fr_set _ 2 _ _))⟩
end
end Go.Proofs.YtpahpnajeliodaaGreatDoor
/- What is kept from piece to piece (plain facts on the model). -/
namespace Go.Proofs.YtpahpnajeliodaaGreatDoor
set_option linter.unusedVariables false
set_option linter.unusedSimpArgs false
/-- From r to r': on in the text, at most n nodes more, as many groups. -/
structure Stp (s : ByteArray) (n : Nat) (r r' : RS) : Prop where
  k : r.k ≤ r'.k
  sz : r'.k ≤ s.size
  up : r.nds.length ≤ r'.nds.length
  nd : r'.nds.length ≤ r.nds.length + n
  cl : r'.cl.length = r.cl.length
  g : r'.g = r.g
section
variable {s last : ByteArray} {r r' : RS} {t : Tok} {i n : Nat} {ks ks' : List Nat}
theorem Stp.refl (h : r.k ≤ s.size) : Stp s 0 r r := ⟨Nat.le_refl _, h, Nat.le_refl _, Nat.le_refl _, rfl, rfl⟩
theorem Stp.add (h : r.k ≤ s.size) (d : Nd) : Stp s 1 r (addN d r).2 ∧ (addN d r).1 < (addN d r).2.nds.length := by
  refine ⟨⟨Nat.le_refl _, h, ?_, ?_, rfl, rfl⟩, ?_⟩ <;> simp [addN]
theorem finF_le {s : ByteArray} {k n : Nat} {m : Int} {y : Bool} {a : Nat} {b : Int} {c : Bool} {j : Nat} (h : finF s k n m y = some (a, b, c, j)) (hk : k ≤ s.size) : k ≤ j ∧ j ≤ s.size := by
  unfold finF at h
  split at h
  · rename_i hp
    have : k + 1 ≤ s.size := pfx_len hp hk
    split at h
    · cases h
    · cases h; exact ⟨by omega, this⟩
  · split at h
    · rename_i hp
      have : k + 2 ≤ s.size := pfx_len hp hk
      split at h
      · cases h
      · cases h; exact ⟨by omega, this⟩
    · cases h
theorem bndF_le {s : ByteArray} {k : Nat} {a : Nat} {b : Int} {c : Bool} {j : Nat} (h : bndF s k = some (a, b, c, j)) (hk : k ≤ s.size) : k ≤ j ∧ j ≤ s.size := by
  have hk1 : (if pfx s k ⟨#[45]⟩ then k + 1 else k) ≤ s.size ∧ k ≤ (if pfx s k ⟨#[45]⟩ then k + 1 else k) := by
    cases hp : pfx s k ⟨#[45]⟩ with
    | true => exact ⟨pfx_len hp hk, by simp⟩
    | false => exact ⟨hk, by simp⟩
  unfold bndF at h
  split at h
  · cases h
  · rename_i n k2 h2
    obtain ⟨a1, a2, _⟩ := numF_le h2 hk1.1
    split at h
    · rename_i hp
      have := pfx_len hp a2
      split at h
      · cases h
      · rename_i m k3 h3
        obtain ⟨b1, b2, _⟩ := numF_le h3 this
        obtain ⟨c1, c2⟩ := finF_le h b2
        exact ⟨by omega, c2⟩
    · obtain ⟨c1, c2⟩ := finF_le h a2
      exact ⟨by omega, c2⟩
theorem timesF_stp {d : Nd} (h : timesF s t r = .ok (d, r')) (hk : r.k ≤ s.size) : Stp s 0 r r' := by
  unfold timesF at h
  split at h
  · cases h; exact Stp.refl hk
  · split at h
    · cases h; exact Stp.refl hk
    · split at h
      · split at h
        · cases h
        · rename_i hb
          cases h
          obtain ⟨a, b⟩ := bndF_le hb hk
          exact ⟨a, b, Nat.le_refl _, Nat.le_refl _, rfl, rfl⟩
      · cases h; exact Stp.refl hk
theorem manyF_stp (h : manyF s t ks r = .ok (ks', r')) (hk : r.k ≤ s.size) (hp : ∀ p ∈ ks, p < r.nds.length) : Stp s 1 r r' ∧ ks'.length ≤ ks.length + 1 ∧ ∀ p ∈ ks', p < r'.nds.length := by
  have hstar : ∀ (a : List Nat) (b : RS), (a, b) = (ks ++ [r.nds.length], ({ r with nds := r.nds ++ [{ op := 2, c := t.c }] } : RS)) → Stp s 1 r b ∧ a.length ≤ ks.length + 1 ∧ ∀ p ∈ a, p < b.nds.length := by
    intro a b e
    cases e
    refine ⟨(Stp.add hk { op := 2, c := t.c }).1, by simp, fun p hq => ?_⟩
    simp only [List.mem_append, List.mem_singleton] at hq
    simp only [List.length_append, List.length_singleton]
    rcases hq with hq | hq
    · have := hp p hq; omega
    · omega
  unfold manyF at h
  split at h
  · split at h
    · cases h
    · injection h with h; exact hstar _ _ h.symm
  · split at h
    · split at h
      · cases h
      · rename_i q hq hrep d r1 h1
        injection h with h
        injection h with ha hb
        subst ha; subst hb
        have st := timesF_stp h1 hk
        have e := timesF_nds h1
        refine ⟨⟨st.k, st.sz, ?_, ?_, st.cl, st.g⟩, by simp, fun p hm => ?_⟩
        · simp [e]
        · simp [e]
        · have := List.mem_or_eq_of_mem_set hm
          simp only [List.length_append, List.length_singleton]
          rcases this with z | z
          · have := hp p z; rw [e]; omega
          · omega
    · split at h
      · cases h
      · injection h with h; exact hstar _ _ h.symm
theorem edgeF_stp (h : edgeF s t r = .ok (i, r')) (hk : r.k ≤ s.size) : Stp s 1 r r' ∧ i < r'.nds.length := by
  unfold edgeF at h
  split at h
  · rename_i hp
    have := pfx_len hp hk
    cases h
    obtain ⟨a, b⟩ := Stp.add (r := { r with k := r.k + 1 }) this { op := 14 }
    exact ⟨⟨by simp [addN], a.sz, a.up, a.nd, rfl, rfl⟩, b⟩
  · split at h
    · rename_i hp
      have := pfx_len hp hk
      cases h
      obtain ⟨a, b⟩ := Stp.add (r := { r with k := r.k + 1 }) this { op := 15 }
      exact ⟨⟨by simp [addN], a.sz, a.up, a.nd, rfl, rfl⟩, b⟩
    · cases h
theorem letterF_stp (h : letterF s t r = .ok (i, r')) (hk : r.k ≤ s.size) : Stp s 1 r r' ∧ i < r'.nds.length := by
  unfold letterF at h
  split at h
  · cases h; exact Stp.add hk _
  split at h
  · cases h; exact Stp.add hk _
  split at h
  · exact edgeF_stp h hk
  split at h
  · unfold backF at h
    split at h
    · cases h; exact Stp.add hk _
    · cases h
  split at h
  · cases h; exact Stp.add hk _
  · cases h
theorem eolF_stp (h : eolF s t r = .ok (i, r')) (hk : r.k ≤ s.size) : Stp s 1 r r' ∧ i < r'.nds.length := by
  unfold eolF at h
  split at h
  · cases h
  · split at h
    · cases h; exact Stp.add hk _
    · cases h; exact Stp.add hk _
theorem setF_stp (h : setF s t r = .ok (i, r')) (hk : r.k ≤ s.size) : Stp s 1 r r' ∧ i < r'.nds.length := by
  unfold setF at h
  split at h
  · cases h
  · rename_i r1 hc
    cases h
    unfold collF at hc
    split at hc
    · cases hc; exact Stp.add hk _
    · split at hc <;> cases hc
  · rename_i q r1 hc
    cases h
    unfold collF at hc
    split at hc
    · cases hc
    · rename_i q0 fl k2 hx
      split at hc
      · cases hc
      · cases hc
        obtain ⟨_, a, b⟩ := rdF_ok _ _ _ _ _ _ _ ok_zero hx
        have hk1 : r.k ≤ (if pfx s r.k hat then r.k + 1 else r.k) := by split <;> omega
        obtain ⟨x, y⟩ := Stp.add (r := { r with k := k2 }) b { op := 4, set := (if pfx s r.k hat then notS q0 else q0) }
        exact ⟨⟨by show r.k ≤ k2; omega, x.sz, x.up, x.nd, rfl, rfl⟩, y⟩
theorem joinF_stp (op : Nat) (hk : r.k ≤ s.size) (hp : ∀ p ∈ ks, p < r.nds.length) : Stp s 1 r (joinF op ks r).2 ∧ (joinF op ks r).1 < (joinF op ks r).2.nds.length := by
  unfold joinF
  split
  · exact Stp.add hk _
  · rename_i x
    exact ⟨⟨Nat.le_refl _, hk, Nat.le_refl _, by simp, rfl, rfl⟩, hp x (by simp)⟩
  · exact Stp.add hk _
end
end Go.Proofs.YtpahpnajeliodaaGreatDoor
/- The knot: what is kept of pieces, groups, branches. -/
namespace Go.Proofs.YtpahpnajeliodaaGreatDoor
set_option linter.unusedVariables false
set_option linter.unusedSimpArgs false
/-- A reader that may go on. -/
structure Gd (s : ByteArray) (r : RS) : Prop where
  sz : r.k ≤ s.size
  nd : r.nds.length ≤ 1600 + 4 * r.k
  cl : r.cl.length = 10
  g : r.g ≤ 9
/-- From r to r': what a piece (x = 0), a branch (x = 1), the branches (x = 2) leave; e: the 4 nodes that a token which is not the end gives room for. -/
structure Aft (s : ByteArray) (x e : Nat) (r : RS) (i : Nat) (r' : RS) : Prop where
  k : r.k ≤ r'.k
  sz : r'.k ≤ s.size
  up : r.nds.length ≤ r'.nds.length
  nd : r'.nds.length + e ≤ 1600 + 4 * r'.k + x
  cl : r'.cl.length = 10
  g : r.g ≤ r'.g
  g9 : r'.g ≤ 9
  i : i < r'.nds.length
section
variable {s last : ByteArray} {r r' : RS} {t : Tok} {i n : Nat} {ks : List Nat}
theorem Stp.aft (h : Stp s 1 r r') (hi : i < r'.nds.length) (hn : r.nds.length + 4 ≤ 1600 + 4 * r.k) (hc : r.cl.length = 10) (hg : r.g ≤ 9) : Aft s 0 0 r i r' :=
  ⟨h.k, h.sz, h.up, by have := h.nd; have := h.k; omega, by rw [h.cl]; exact hc, by rw [h.g]; exact Nat.le_refl _, by rw [h.g]; exact hg, hi⟩
theorem againF_aft (hla : last.size ≤ 1100) (hk : r.k ≤ s.size) (hn : r.nds.length + 4 ≤ 1600 + 4 * r.k) (hc : r.cl.length = 10) (hg : r.g ≤ 9) (h : againF last r = (i, r')) : Aft s 0 0 r i r' := by
  unfold againF at h
  split at h
  · cases h
    obtain ⟨a, b⟩ := Stp.add (s := s) hk { op := 1 }
    exact a.aft b hn hc hg
  · rename_i h4
    have hb : (bytesN last.data.toList).length = last.size := by simp [bytesN]
    obtain ⟨a, b⟩ := joinF_stp (s := s) (r := { r with nds := r.nds ++ bytesN last.data.toList }) (ks := (List.range last.size).map (r.nds.length + ·)) 5 hk (by
      intro p hp
      simp only [List.mem_map, List.mem_range] at hp
      obtain ⟨j, hj, rfl⟩ := hp
      simp only [List.length_append, hb]
      omega)
    rw [h] at a b
    have e1 := a.nd
    have e2 := a.up
    simp only [List.length_append, hb] at e1 e2
    exact ⟨a.k, a.sz, by omega, by have := a.k; simp only at this; omega, by rw [a.cl]; exact hc, by rw [a.g]; exact Nat.le_refl _, by rw [a.g]; exact hg, b⟩
theorem signF_aft {G : Tok → RS → Except (Nat × Nat) (Nat × RS)} {first : Bool} (hla : last.size ≤ 1100) (hk : r.k ≤ s.size) (hn : r.nds.length + 4 ≤ 1600 + 4 * r.k) (hc : r.cl.length = 10) (hg : r.g ≤ 9)
    (hG : ∀ i r', G t r = .ok (i, r') → Aft s 0 0 r i r') (h : signF G s last t first r = .ok (i, r')) : Aft s 0 0 r i r' := by
  have bare : ∀ d : Nd, .ok (addN d r) = (.ok (i, r') : Except (Nat × Nat) (Nat × RS)) → Aft s 0 0 r i r' := fun d e => by
    injection e with e
    obtain ⟨a, b⟩ := Stp.add (s := s) hk d
    rw [e] at a b
    exact a.aft b hn hc hg
  unfold signF at h
  split at h
  · split at h
    · exact bare _ h
    · exact bare _ h
  split at h
  · obtain ⟨a, b⟩ := eolF_stp h hk
    exact a.aft b hn hc hg
  split at h
  · exact bare _ h
  split at h
  · exact bare _ h
  split at h
  · exact bare _ h
  split at h
  · injection h with h
    exact againF_aft hla hk hn hc hg h
  split at h
  · obtain ⟨a, b⟩ := setF_stp h hk
    exact a.aft b hn hc hg
  split at h
  · exact hG _ _ h
  · exact bare _ h
theorem pieceF_aft {G : Tok → RS → Except (Nat × Nat) (Nat × RS)} {first : Bool} (hla : last.size ≤ 1100) (hk : r.k ≤ s.size) (hn : r.nds.length + 4 ≤ 1600 + 4 * r.k) (hc : r.cl.length = 10) (hg : r.g ≤ 9)
    (hG : ∀ i r', G t r = .ok (i, r') → Aft s 0 0 r i r') (h : pieceF G s last t first r = .ok (i, r')) : Aft s 0 0 r i r' := by
  unfold pieceF at h
  split at h
  · exact signF_aft hla hk hn hc hg hG h
  · split at h
    · obtain ⟨a, b⟩ := letterF_stp h hk
      exact a.aft b hn hc hg
    · injection h with h
      obtain ⟨a, b⟩ := Stp.add (s := s) hk { op := 2, c := t.c }
      unfold plF at h
      rw [h] at a b
      exact a.aft b hn hc hg
def room (t : Tok) : Nat := if t.kd = 0 then 0 else 4
theorem groupF_aft {BR : RS → Except (Nat × Nat) (Nat × Tok × RS)} (hd : Gd s r) (hB : ∀ r1 i t r2, Gd s r1 → BR r1 = .ok (i, t, r2) → Aft s 2 (room t) r1 i r2) (h : groupF BR t r = .ok (i, r')) : Aft s 0 0 r i r' := by
  unfold groupF at h
  split at h
  · cases h
  · rename_i h9
    have hg := hd.g
    split at h
    · cases h
    · rename_i kid en r1 h1
      have a := hB { r with g := r.g + 1 } _ _ _ ⟨hd.sz, hd.nd, hd.cl, by show r.g + 1 ≤ 9; omega⟩ h1
      split at h
      · cases h
      · rename_i h0
        cases h
        have e := a.nd
        unfold room at e
        rw [if_neg h0] at e
        have hu := a.up
        have hk := a.k
        have hgg := a.g
        simp only at hu hk hgg
        refine ⟨hk, a.sz, ?_, ?_, ?_, ?_, a.g9, ?_⟩ <;> simp [addN]
        · omega
        · omega
        · exact a.cl
        · omega
end
end Go.Proofs.YtpahpnajeliodaaGreatDoor
/- The knot: branch and branches, by the number of groups that may still come. -/
namespace Go.Proofs.YtpahpnajeliodaaGreatDoor
set_option linter.unusedVariables false
set_option linter.unusedSimpArgs false
section
variable {s last : ByteArray} {r r' : RS} {t : Tok} {i n : Nat} {ks : List Nat}
theorem nextF_c {s : ByteArray} {f : Nat} : ∀ {k : Nat} {md : ByteArray} {cs : Nat} {t : Tok} {k' : Nat} {md' : ByteArray} {cs' : Nat}, nextF s f k md cs = .ok (t, k', md', cs') → t.c < 256 := by
  induction f with
  | zero => intro k md cs t k' md' cs' h; simp [nextF] at h
  | succ f ih =>
    intro k md cs t k' md' cs' h
    rw [nextF] at h
    split at h
    · cases h
    · rename_i t1 k1 h1
      have hc : t1.c < 256 := by
        unfold tokOf at h1
        split at h1
        · split at h1
          · split at h1
            · cases h1; exact byteAt_lt _ _
            · cases h1
          · cases h1; exact byteAt_lt _ _
        · cases h1; simp
      split at h
      · split at h
        · exact ih h
        · cases h; exact hc
      · cases h; exact hc
/-- At the head of a round. -/
structure HdI (s : ByteArray) (g0 : Nat) (r : RS) (ks : List Nat) : Prop where
  gd : Gd s r
  len : ks.length ≤ r.k
  lt : ∀ p ∈ ks, p < r.nds.length
  g0 : g0 ≤ r.g
/-- Behind the token, that is not an end. -/
structure MdJ (s : ByteArray) (g0 : Nat) (t : Tok) (r : RS) (ks : List Nat) : Prop where
  sz : r.k ≤ s.size
  nd : r.nds.length + 4 ≤ 1600 + 4 * r.k
  cl : r.cl.length = 10
  g : r.g ≤ 9
  len : ks.length + 1 ≤ r.k
  lt : ∀ p ∈ ks, p < r.nds.length
  g0 : g0 ≤ r.g
  c : t.c < 256
theorem mdJ_of {g0 k cs : Nat} {md : ByteArray} (h : HdI s g0 r ks) (hn : nextF s (s.size + 1) r.k r.md r.cs = .ok (t, k, md, cs)) (he : t.ends = false) : MdJ s g0 t { r with k := k, md := md, cs := cs } ks ∧ r.k < k := by
  obtain ⟨a, b, c⟩ := nextF_le hn h.gd.sz
  have hkd : t.kd ≠ 0 := fun e => by unfold Tok.ends at he; simp [e] at he
  have hk := c hkd
  have h1 := h.gd.nd
  have h2 := h.len
  exact ⟨⟨b, by show r.nds.length + 4 ≤ 1600 + 4 * k; omega, h.gd.cl, h.gd.g, by show ks.length + 1 ≤ k; omega, h.lt, h.g0, nextF_c hn⟩, hk⟩
theorem MdJ.gd {g0 : Nat} (h : MdJ s g0 t r ks) : Gd s r := ⟨h.sz, by have := h.nd; omega, h.cl, h.g⟩
theorem hdI_piece {g0 : Nat} (h : MdJ s g0 t r ks) (a : Aft s 0 0 r i r') : HdI s g0 r' (ks ++ [i]) := by
  have h1 := a.k
  have h2 := h.len
  have h3 := h.g0
  have h4 := a.g
  have h5 := a.nd
  refine ⟨⟨a.sz, by omega, a.cl, a.g9⟩, by simp; omega, fun p hp => ?_, by omega⟩
  simp only [List.mem_append, List.mem_singleton] at hp
  rcases hp with hp | hp
  · have := h.lt p hp; have := a.up; omega
  · rw [hp]; exact a.i
theorem hdI_many {g0 : Nat} {ks' : List Nat} (h : MdJ s g0 t r ks) (hm : manyF s t ks r = .ok (ks', r')) : HdI s g0 r' ks' ∧ r.k ≤ r'.k := by
  obtain ⟨a, b, c⟩ := manyF_stp hm h.sz h.lt
  have h1 := a.k
  have h2 := h.len
  have h3 := h.g0
  have h5 := a.nd
  have h6 := h.nd
  exact ⟨⟨⟨a.sz, by omega, by rw [a.cl]; exact h.cl, by rw [a.g]; exact h.g⟩, by omega, c, by rw [a.g]; exact h3⟩, h1⟩
theorem kpt_of {P : Tok → Bool → RS → Except (Nat × Nat) (Nat × RS)} (hs : s.size ≤ 400) (g0 : Nat) (hP : ∀ t r ks i r', MdJ s g0 t r ks → P t ks.isEmpty r = .ok (i, r') → Aft s 0 0 r i r') : Kpt P (HdI s g0) (MdJ s g0) s where
  head r ks h := ⟨h.gd.sz, by have := h.gd.nd; have := h.gd.sz; omega, by have := h.len; have := h.gd.sz; omega⟩
  next r ks t k md cs h hn he := mdJ_of h hn he
  mid t r ks h := ⟨h.sz, by have := h.nd; have := h.sz; omega, by have := h.len; have := h.sz; omega, fun p hp => h.lt p (List.mem_of_getLast? hp)⟩
  many t r ks ks' r' h hm := hdI_many h hm
  piece t r ks i r' h hp := ⟨hdI_piece h (hP _ _ _ _ _ h hp), (hP _ _ _ _ _ h hp).k⟩
theorem brF_aft {P : Tok → Bool → RS → Except (Nat × Nat) (Nat × RS)} {g0 : Nat} (hP : ∀ t r ks i r', MdJ s g0 t r ks → P t ks.isEmpty r = .ok (i, r') → Aft s 0 0 r i r') :
    ∀ (f : Nat) (r : RS) (ks : List Nat) (i : Nat) (t : Tok) (r' : RS), HdI s g0 r ks → brF P s f r ks = .ok (i, t, r') → Aft s 1 (room t) r i r' ∧ (t.kd ≠ 0 → r.k < r'.k) := by
  intro f
  induction f with
  | zero => intro r ks i t r' _ h; simp [brF] at h
  | succ f ih =>
    intro r ks i t r' hI h
    rw [brF] at h
    split at h
    · cases h
    · rename_i t1 k md cs hn
      obtain ⟨n1, n2, n3⟩ := nextF_le hn hI.gd.sz
      split at h
      · cases h
        obtain ⟨a, b⟩ := joinF_stp (s := s) (r := { r with k := k, md := md, cs := cs }) (ks := ks) 5 n2 hI.lt
        have e1 := a.nd
        have e2 := a.up
        have e3 := a.k
        have e4 := hI.gd.nd
        simp only at e1 e2 e3
        refine ⟨⟨by omega, a.sz, e2, ?_, by rw [a.cl]; exact hI.gd.cl, by rw [a.g]; exact Nat.le_refl _, by rw [a.g]; exact hI.gd.g, b⟩, fun h0 => by have := n3 h0; omega⟩
        unfold room
        split
        · omega
        · rename_i h0
          have := n3 h0
          omega
      · rename_i he
        obtain ⟨j1, j2⟩ := mdJ_of hI hn (Bool.eq_false_iff.2 he)
        split at h
        · split at h
          · cases h
          · rename_i ks' r1 hm
            obtain ⟨q1, q2⟩ := hdI_many j1 hm
            obtain ⟨st, _, _⟩ := manyF_stp hm j1.sz j1.lt
            obtain ⟨a, b⟩ := ih _ _ _ _ _ q1 h
            have e1 := a.k
            have e2 := st.up
            have e3 := a.up
            have e4 := a.g
            have e5 := st.g
            simp only at q2 e2 e5
            exact ⟨⟨by omega, a.sz, by omega, a.nd, a.cl, by omega, a.g9, a.i⟩, fun _ => by omega⟩
        · split at h
          · cases h
          · rename_i i1 r1 hp
            have p1 := hP _ _ _ _ _ j1 hp
            obtain ⟨a, b⟩ := ih _ _ _ _ _ (hdI_piece j1 p1) h
            have e1 := a.k
            have e2 := p1.up
            have e3 := a.up
            have e4 := a.g
            have e5 := p1.g
            have e6 := p1.k
            simp only at e2 e5 e6
            exact ⟨⟨by omega, a.sz, by omega, a.nd, a.cl, by omega, a.g9, a.i⟩, fun _ => by omega⟩
end
end Go.Proofs.YtpahpnajeliodaaGreatDoor
/- The knot: the contract of branches. -/
namespace Go.Proofs.YtpahpnajeliodaaGreatDoor
open Go.ChangeShapes Go.WideShapes Go.ChangeAt Go.RowKit
set_option linter.unusedVariables false
set_option linter.unusedSimpArgs false
/-- The branches of a pattern, or of a group; n: more than the groups that may still come. -/
def brsF (s last : ByteArray) : Nat → RS → Except (Nat × Nat) (Nat × Tok × RS)
  | 0, _ => .error (0, 0)
  | n + 1, r => brsL (fun r => brF (pieceF (groupF (brsF s last n)) s last) s (s.size + 1) r []) (s.size + 1) r []
section
variable {s last : ByteArray} {r r' : RS} {t : Tok} {i n : Nat} {ks : List Nat}
theorem brsL_aft {F : RS → Except (Nat × Nat) (Nat × Tok × RS)} {g0 : Nat} (hF : ∀ r ks i t r', HdI s g0 r ks → F r = .ok (i, t, r') → Aft s 1 (room t) r i r' ∧ (t.kd ≠ 0 → r.k < r'.k)) :
    ∀ (f : Nat) (r : RS) (ks : List Nat) (i : Nat) (t : Tok) (r' : RS), HdI s g0 r ks → brsL F f r ks = .ok (i, t, r') → Aft s 2 (room t) r i r' := by
  intro f
  induction f with
  | zero => intro r ks i t r' _ h; simp [brsL] at h
  | succ f ih =>
    intro r ks i t r' hI h
    rw [brsL] at h
    split at h
    · cases h
    · rename_i i1 t1 r1 h1
      obtain ⟨a, b⟩ := hF _ _ _ _ _ hI h1
      have e1 := a.nd
      have e2 := a.k
      have e3 := a.up
      have e4 := a.g
      have l0 := hI.len
      have g0' := hI.g0
      have hlt : ∀ p ∈ ks ++ [i1], p < r1.nds.length := fun p hp => by
        simp only [List.mem_append, List.mem_singleton] at hp
        rcases hp with hp | hp
        · have := hI.lt p hp; omega
        · rw [hp]; exact a.i
      split at h
      · rename_i hc
        have hk := b (by omega)
        have er : room t1 = 4 := by unfold room; rw [if_neg (by omega)]
        rw [er] at e1
        have c := ih _ _ _ _ _ (⟨⟨a.sz, by omega, a.cl, a.g9⟩, by simp; omega, hlt, by omega⟩ : HdI s g0 r1 (ks ++ [i1])) h
        have f1 := c.k
        have f2 := c.up
        have f3 := c.g
        exact ⟨by omega, c.sz, by omega, c.nd, c.cl, by omega, c.g9, c.i⟩
      · cases h
        obtain ⟨c, d⟩ := joinF_stp (s := s) (ks := ks ++ [i1]) 6 a.sz hlt
        have f1 := c.k
        have f2 := c.up
        have f3 := c.nd
        exact ⟨by omega, c.sz, by omega, by omega, by rw [c.cl]; exact a.cl, by rw [c.g]; exact e4, by rw [c.g]; exact a.g9, d⟩
theorem Gd.hd (h : Gd s r) : HdI s r.g r [] := ⟨h, by simp, fun p hp => by simp at hp, Nat.le_refl _⟩
theorem brsF_aft (hla : last.size ≤ 1100) : ∀ (n : Nat) (r : RS) (i : Nat) (t : Tok) (r' : RS), Gd s r → brsF s last n r = .ok (i, t, r') → Aft s 2 (room t) r i r'
  | 0, _, _, _, _, _, h => by cases h
  | n + 1, r, i, t, r', hd, h => by
    rw [brsF] at h
    refine brsL_aft (g0 := r.g) (fun r1 ks1 i1 t1 r2 h1 h2 => ?_) _ _ _ _ _ _ hd.hd h
    refine brF_aft (g0 := r.g) (fun t3 r3 ks3 i3 r4 h3 h4 => ?_) _ _ _ _ _ _ (⟨h1.gd, by simp, fun p hp => by simp at hp, h1.g0⟩ : HdI s r.g r1 []) h2
    exact pieceF_aft hla h3.sz h3.nd h3.cl h3.g (fun i5 r5 h5 => groupF_aft h3.gd (fun r6 i6 t6 r7 h6 h7 => brsF_aft hla n r6 i6 t6 r7 h6 h7) h5) h4
variable {B rb : Nat} {vn : Qv} {w : World} {m : Int}
theorem cell3_below {w' : World} (h3 : 3 < B) (hb : Below B w w') (hm : w.cell? ⟨3, 0, none⟩ = some (.int .i64 m)) : w'.cell? ⟨3, 0, none⟩ = some (.int .i64 m) := by
  rw [← hm]
  exact World.cell?_of_block (hb.block 3 h3)
theorem branches_ok (hs : s.size ≤ 400) (hla : last.size ≤ 1100) (h3 : 3 < B) : ∀ (n : Nat) (r : RS) (vn : Qv) (w : World), 9 - r.g < n → Gd s r → Rr B rb s last r vn w → w.cell? ⟨3, 0, none⟩ = some (.int .i64 m) →
    Calls Tryz.prog 21 #[.pointer (some ⟨rb, 0, none⟩)] w (RetB B rb s last vn w (brsF s last n r))
  | 0, _, _, _, hn, _, _, _ => by omega
  | n + 1, r, vn, w, hn, hd, h, hm => by
    have hPa : ∀ t r1 ks i r', MdJ s r.g t r1 ks → pieceF (groupF (brsF s last n)) s last t ks.isEmpty r1 = .ok (i, r') → Aft s 0 0 r1 i r' := fun t r1 ks i r' hJ hp =>
      pieceF_aft hla hJ.sz hJ.nd hJ.cl hJ.g (fun i5 r5 h5 => groupF_aft hJ.gd (fun r6 i6 t6 r7 h6 h7 => brsF_aft hla n r6 i6 t6 r7 h6 h7) h5) hp
    have hFa : ∀ r1 ks i t r', HdI s r.g r1 ks → brF (pieceF (groupF (brsF s last n)) s last) s (s.size + 1) r1 [] = .ok (i, t, r') → Aft s 1 (room t) r1 i r' ∧ (t.kd ≠ 0 → r1.k < r'.k) := fun r1 ks i t r' hI hb =>
      brF_aft hPa _ _ _ _ _ _ (⟨hI.gd, by simp, fun p hp => by simp at hp, hI.g0⟩ : HdI s r.g r1 []) hb
    refine branches_any (F := fun r => brF (pieceF (groupF (brsF s last n)) s last) s (s.size + 1) r []) (I := HdI s r.g) ⟨fun r1 ks hI => ⟨hI.gd.sz, by have := hI.len; have := hI.gd.sz; omega⟩, fun r1 ks i t r' hI hb => ?_⟩ h hs hd.hd (fun r1 ks vn1 x hI hR hB => ?_) _ rfl
    · obtain ⟨a, b⟩ := hFa _ _ _ _ _ hI hb
      have e1 := a.nd
      have e2 := a.sz
      have e3 := a.up
      have e4 := a.g
      have e5 := hI.len
      have e6 := hI.g0
      refine ⟨by omega, fun hc => ?_⟩
      have hk := b (by omega)
      have er : room t = 4 := by unfold room; rw [if_neg (by omega)]
      rw [er] at e1
      refine ⟨⟨⟨a.sz, by omega, a.cl, a.g9⟩, by simp; omega, fun p hp => ?_, by omega⟩, hk⟩
      simp only [List.mem_append, List.mem_singleton] at hp
      rcases hp with hp | hp
      · have := hI.lt p hp; omega
      · rw [hp]; exact a.i
    · have hmx := cell3_below h3 hB hm
      refine branch_any (kpt_of hs r.g hPa) hR hs (⟨hI.gd, by simp, fun p hp => by simp at hp, hI.g0⟩ : HdI s r.g r1 []) (fun t r2 ks2 vn2 y hJ hR2 hB2 => ?_) _ rfl
      have hmy := cell3_below h3 hB2 hmx
      obtain ⟨kd, c, pl⟩ := t
      refine piece_any (G := groupF (brsF s last n)) hR2 hs hla hJ.sz (by have := hJ.nd; have := hJ.sz; omega) hmy hJ.cl hJ.c (fun h40 z kz => ?_)
      have hRz := hR2.kp kz
      by_cases h9 : r2.g = 9
      · unfold groupF
        rw [if_pos h9]
        exact group_full hRz h9
      · have hgd := hJ.gd
        have hg := hJ.g
        have hg0 := hJ.g0
        have hgd1 : Gd s { r2 with g := r2.g + 1 } := ⟨hgd.sz, hgd.nd, hgd.cl, by show r2.g + 1 ≤ 9; omega⟩
        have hmz := cell3_below h3 (hR2.below (Adv.kp vn2 rb kz)) hmy
        refine group_any (BR := brsF s last n) hRz hg (fun x2 hx2 hbx => ?_) (fun i6 t6 r6 h6 => ?_)
        · exact branches_ok hs hla h3 n _ vn2 x2 (by show 9 - (r2.g + 1) < n; omega) hgd1 hx2 (cell3_below h3 hbx hmz)
        · have a := brsF_aft hla n _ _ _ _ hgd1 h6
          have e1 := a.nd
          have e2 := a.sz
          exact ⟨by omega, a.cl⟩
end
end Go.Proofs.YtpahpnajeliodaaGreatDoor
/- The reader's call pattern. -/
namespace Go.Proofs.YtpahpnajeliodaaGreatDoor
open Go.ChangeShapes Go.WideShapes Go.ChangeAt Go.RowKit
set_option linter.unusedVariables false
set_option linter.unusedSimpArgs false
def patF (s last : ByteArray) (r : RS) : Except (Nat × Nat) (Nat × RS) :=
  match brsF s last 10 r with
  | .error e => .error e
  | .ok (i, t, r') => if t.kd ≠ 0 then .error (31, t.pl) else if 400 < r'.nds.length then .error (33, 0) else .ok (i, r')
def RetP (B rb : Nat) (s last : ByteArray) (vn : Qv) (w : World) (R : Except (Nat × Nat) (Nat × RS)) (e : Ending) (w' : World) : Prop :=
  match R with
  | .ok (i, r') => ∃ vn', e = .returned (.agg #[vn'.v, .int .i64 i, .int .i64 r'.g, .int .u8 r'.cs]) ∧ Rr B rb s last r' vn' w' ∧ Adv rb vn w vn' w'
  | .error (n, p) => e = Wrong n p ∧ Er rb vn w w'
def PatBox (n : Nat) (v : Value) (i g c : Nat) (w : World) : Prop := w.heap[n]? = some (.cells #[v, .int .i64 i, .int .i64 g, .int .u8 c] 26 (0, 0))
theorem PatBox.cells {n : Nat} {v : Value} {i g c : Nat} {w : World} (h : PatBox n v i g c w) : w.cell? ⟨n, 0, none⟩ = some v ∧ w.cell? ⟨n, 1, none⟩ = some (.int .i64 i) ∧ w.cell? ⟨n, 2, none⟩ = some (.int .i64 g) ∧ w.cell? ⟨n, 3, none⟩ = some (.int .u8 c) := by
  unfold PatBox at h
  refine ⟨?_, ?_, ?_, ?_⟩ <;> simp [World.cell?, h]
theorem PatBox.fz {n : Nat} {v : Value} {i g c : Nat} {w : World} (h : PatBox n v i g c w) (j : Nat) : w.frozen? ⟨n, j, none⟩ = false := by unfold PatBox at h; simp [World.frozen?, h]
theorem PatBox.put {n : Nat} {v : Value} {i g c0 : Nat} {w : World} (h : PatBox n v i g c0 w) (a b c d : Value) : (w.setCell ⟨n, 0, none⟩ a).cell? ⟨n, 0, none⟩ = some a ∧ ((w.setCell ⟨n, 0, none⟩ a).setCell ⟨n, 1, none⟩ b).cell? ⟨n, 1, none⟩ = some b ∧ (((w.setCell ⟨n, 0, none⟩ a).setCell ⟨n, 1, none⟩ b).setCell ⟨n, 2, none⟩ c).cell? ⟨n, 2, none⟩ = some c ∧
    ((((w.setCell ⟨n, 0, none⟩ a).setCell ⟨n, 1, none⟩ b).setCell ⟨n, 2, none⟩ c).setCell ⟨n, 3, none⟩ d).cell? ⟨n, 3, none⟩ = some d := by
  have h0 := heap_setCell (off := 0) (v := a) h
  have h1 := heap_setCell (off := 1) (v := b) h0
  have h2 := heap_setCell (off := 2) (v := c) h1
  have h3 := heap_setCell (off := 3) (v := d) h2
  exact ⟨by simp only [World.cell?, h0]; rfl, by simp only [World.cell?, h1]; rfl, by simp only [World.cell?, h2]; rfl, by simp only [World.cell?, h3]; rfl⟩
def PCells (rb : Nat) (v : Value) (g cs : Nat) (w : World) : Prop := w.cell? ⟨rb, 4, none⟩ = some v ∧ w.cell? ⟨rb, 6, none⟩ = some (.int .i64 g) ∧ w.cell? ⟨rb, 3, none⟩ = some (.int .u8 cs)
section
variable {B rb : Nat} {s last : ByteArray} {r : RS} {vn : Qv} {w w1 : World} {m : Int}
theorem Rr.form (h : Rr B rb s last r vn w) : ∃ a cap, vn.v = .slice a r.nds.length cap ∧ r.nds.length ≤ cap ∧ cap ≤ maxLen := by
  obtain ⟨ns, h⟩ := h
  obtain ⟨a, cap, e, h1, h2⟩ := owns_form h.row
  rw [h.len] at e h1
  exact ⟨a, cap, e, h1, h2⟩
set_option maxHeartbeats 4000000 in
set_option maxRecDepth 100000 in
theorem pattern_any (hs : s.size ≤ 400) (hla : last.size ≤ 1100) (h3 : 3 < B) (hd : Gd s r) (h : Rr B rb s last r vn w) (hm : w.cell? ⟨3, 0, none⟩ = some (.int .i64 m)) :
    Calls Tryz.prog 12 #[.pointer (some ⟨rb, 0, none⟩)] w (RetP B rb s last vn w (patF s last r)) := by
  have HB : Hid (∀ x, Rr B rb s last r vn x → Below B w x → Calls Tryz.prog 21 #[.pointer (some ⟨rb, 0, none⟩)] x (RetB B rb s last vn x (brsF s last 10 r))) := fun x hx hb => branches_ok hs hla h3 10 r vn x (by omega) hd hx (cell3_below h3 hb hm)
  have HR : Hid (Rr B rb s last r vn w) := h
  have HAf : Hid _ := fun i t r' (e : brsF s last 10 r = .ok (i, t, r')) => brsF_aft hla 10 r i t r' hd e
  unfold patF
  clear h hm hd
  generalize brsF s last 10 r = R at *
  cases R with
  | error x =>
    obtain ⟨n, a⟩ := x
    go_enter Tryz.func12, Tryz.ntmps12
    go_wp2_with fail
    refine Calls.mono (HB.out _ (HR.out.kp (kp_alloc _ _)) (HR.out.below (Adv.kp vn rb (kp_alloc _ _)))) ?_
    rintro e w1 ⟨rfl, q⟩
    have H1 : Hid (Er rb vn w w1) := HR.out.ert (Adv.kp vn rb (kp_alloc w _)) q
    clear q
    unfold Wrong
    go_wp2_with fail
    exact ⟨rfl, rfl, H1.out⟩
  | ok x =>
    obtain ⟨i, t, r'⟩ := x
    obtain ⟨kd, c, pl⟩ := t
    simp only
    have HA' : Hid _ := HAf.out _ _ _ rfl
    by_cases h0 : kd = 0
    · rw [if_neg (by simpa using h0)]
      have e0 : ((kd : Int) != 0) = false := by simp; omega
      by_cases hb : 400 < r'.nds.length
      · rw [if_pos hb]
        have db : decide ((400 : Int) < (r'.nds.length : Int)) = true := decide_eq_true (by omega)
        have db2 : decide (400 < r'.nds.length) = true := decide_eq_true hb
        clear h0 hb
        go_enter Tryz.func12, Tryz.ntmps12
        go_wp2_with fail
        refine Calls.mono (HB.out _ (HR.out.kp (kp_alloc _ _)) (HR.out.below (Adv.kp vn rb (kp_alloc _ _)))) ?_
        rintro e w1 ⟨rfl, vn1, q1, q2⟩
        have HE : Hid (TokBox w1.heap.size ⟨kd, c, pl⟩ (w1.alloc (.cells #[.int .u8 kd, .int .u8 c, .int .i64 pl] 75))) := alloc_new w1 _
        obtain ⟨⟨u0, u1, u2⟩, _⟩ := HE.out.cells
        have H2 : Hid (Rr B rb s last r' vn1 (w1.alloc (.cells #[.int .u8 kd, .int .u8 c, .int .i64 pl] 75)) ∧ Adv rb vn w vn1 (w1.alloc (.cells #[.int .u8 kd, .int .u8 c, .int .i64 pl] 75))) := ⟨q1.kp (kp_alloc _ _), ((Adv.kp vn rb (kp_alloc w _)).trans q2).trans (Adv.kp vn1 rb (kp_alloc _ _))⟩
        obtain ⟨a4, p4, c4, l4, m4⟩ := H2.out.1.c4
        clear q1 q2
        unfold Tok.val
        simp only
        go_wp2_with fail
        exact ⟨rfl, rfl, HR.out.er H2.out.2⟩
      · rw [if_neg hb]
        have db : decide ((400 : Int) < (r'.nds.length : Int)) = false := decide_eq_false (by omega)
        have db2 : decide (400 < r'.nds.length) = false := decide_eq_false hb
        clear h0 hb
        go_enter Tryz.func12, Tryz.ntmps12
        go_wp2_with fail
        refine Calls.mono (HB.out _ (HR.out.kp (kp_alloc _ _)) (HR.out.below (Adv.kp vn rb (kp_alloc _ _)))) ?_
        rintro e w1 ⟨rfl, vn1, q1, q2⟩
        have HE : Hid (TokBox w1.heap.size ⟨kd, c, pl⟩ (w1.alloc (.cells #[.int .u8 kd, .int .u8 c, .int .i64 pl] 75))) := alloc_new w1 _
        obtain ⟨⟨u0, u1, u2⟩, _⟩ := HE.out.cells
        have H2 : Hid (Rr B rb s last r' vn1 (w1.alloc (.cells #[.int .u8 kd, .int .u8 c, .int .i64 pl] 75)) ∧ Adv rb vn w vn1 (w1.alloc (.cells #[.int .u8 kd, .int .u8 c, .int .i64 pl] 75))) := ⟨q1.kp (kp_alloc _ _), ((Adv.kp vn rb (kp_alloc w _)).trans q2).trans (Adv.kp vn1 rb (kp_alloc _ _))⟩
        obtain ⟨a4, p4, ev4, l4, m4⟩ := H2.out.1.form
        have c4 : (w1.alloc (.cells #[.int .u8 kd, .int .u8 c, .int .i64 pl] 75)).cell? ⟨rb, 4, none⟩ = some (.slice a4 r'.nds.length p4) := by rw [← ev4]; obtain ⟨ns, hr⟩ := H2.out.1; exact hr.c4
        have c3 := H2.out.1.scn.c3
        have c6 := H2.out.1.c6
        have HPB : Hid (PatBox w.heap.size (.slice none 0 0) 0 0 0 (w1.alloc (.cells #[.int .u8 kd, .int .u8 c, .int .i64 pl] 75))) := by
          have hb0 : PatBox w.heap.size (.slice none 0 0) 0 0 0 (w.alloc (.cells #[.slice none 0 0, .int .i64 0, .int .i64 0, .int .u8 0] 26)) := alloc_new w _
          unfold PatBox at hb0 ⊢
          have l := HR.out.lt
          have hl0 := (Array.getElem?_eq_some_iff.1 hb0).1
          show _ = _
          rw [(kp_alloc w1 (.cells #[.int .u8 kd, .int .u8 c, .int .i64 pl] 75)).block _ (Nat.lt_of_lt_of_le hl0 q2.fr.size), q2.fr.block _ hl0 (fun z => ?_)]
          · exact hb0
          · rcases z with z | z
            · omega
            · exact HR.out.own (Nat.le_refl _) z
        obtain ⟨y0, y1, y2, y3⟩ := HPB.out.cells
        have z0 := HPB.out.fz 0
        have z1 := HPB.out.fz 1
        have z2 := HPB.out.fz 2
        have z3 := HPB.out.fz 3
        have HEV : Hid (vn1.v = .slice a4 r'.nds.length p4) := ev4
        have HNW : Hid _ := HR.out.new (Nat.le_refl _)
        have HQ2 : Hid (vn1.ownBlock ≠ some w.heap.size ∧ ¬ vn1.kb w.heap.size) := by
          have hsz : w.heap.size < (w.alloc (.cells #[.slice none 0 0, .int .i64 0, .int .i64 0, .int .u8 0] 26)).heap.size := by rw [alloc_size]; omega
          refine ⟨?_, fun z => ?_⟩
          · rcases q2.own with e | e
            · rw [e]; exact HNW.out.1.2
            · intro z
              have := e _ z
              omega
          · rcases q2.kbs _ hsz z with z | z
            · exact HNW.out.2 z
            · cases z
        clear q1 q2 ev4
        unfold Tok.val
        simp only
        go_wp2_with fail
        have HX : Hid (Rr B rb s last r' vn1 (w1.alloc (.cells #[.int .u8 kd, .int .u8 c, .int .i64 pl] 75)).drew ∧ Adv rb vn w vn1 (w1.alloc (.cells #[.int .u8 kd, .int .u8 c, .int .i64 pl] 75)).drew ∧ PatBox w.heap.size (.slice none 0 0) 0 0 0 (w1.alloc (.cells #[.int .u8 kd, .int .u8 c, .int .i64 pl] 75)).drew ∧ PCells rb (.slice a4 r'.nds.length p4) r'.g r'.cs (w1.alloc (.cells #[.int .u8 kd, .int .u8 c, .int .i64 pl] 75)).drew ∧ PCells rb (.slice a4 r'.nds.length p4) r'.g r'.cs (((((w1.alloc (.cells #[.int .u8 kd, .int .u8 c, .int .i64 pl] 75)).drew.setCell ⟨w.heap.size, 0, none⟩ (.slice a4 r'.nds.length p4)).setCell ⟨w.heap.size, 1, none⟩ (.int .i64 i)).setCell ⟨w.heap.size, 2, none⟩ (.int .i64 r'.g)).setCell ⟨w.heap.size, 3, none⟩ (.int .u8 r'.cs))) := by
          have k := kp_drew (w1.alloc (.cells #[.int .u8 kd, .int .u8 c, .int .i64 pl] 75))
          have hR := H2.out.1.kp k
          have hp : PCells rb (.slice a4 r'.nds.length p4) r'.g r'.cs (w1.alloc (.cells #[.int .u8 kd, .int .u8 c, .int .i64 pl] 75)).drew := ⟨by rw [← HEV.out]; obtain ⟨ns, hr⟩ := hR; exact hr.c4, hR.c6, hR.scn.c3⟩
          refine ⟨hR, H2.out.2.trans (Adv.kp vn1 rb k), HPB.out, hp, ?_⟩
          have f := fr_four w.heap.size (.slice a4 r'.nds.length p4) (.int .i64 i) (.int .i64 r'.g) (.int .u8 r'.cs) (w1.alloc (.cells #[.int .u8 kd, .int .u8 c, .int .i64 pl] 75)).drew
          have e := f.block rb hR.lt (fun z => HNW.out.1.1 z.symm)
          obtain ⟨q1, q2, q3⟩ := hp
          exact ⟨by rw [← q1]; simp only [World.cell?, e], by rw [← q2]; simp only [World.cell?, e], by rw [← q3]; simp only [World.cell?, e]⟩
        have rl0 : ∀ w', PCells rb (.slice a4 r'.nds.length p4) r'.g r'.cs w' → w'.cell? ⟨rb, 4, none⟩ = some (.slice a4 r'.nds.length p4) := fun _ h => h.1
        have rl1 : ∀ w', PCells rb (.slice a4 r'.nds.length p4) r'.g r'.cs w' → w'.cell? ⟨rb, 6, none⟩ = some (.int .i64 r'.g) := fun _ h => h.2.1
        have rl2 : ∀ w', PCells rb (.slice a4 r'.nds.length p4) r'.g r'.cs w' → w'.cell? ⟨rb, 3, none⟩ = some (.int .u8 r'.cs) := fun _ h => h.2.2
        refine wp_region_noPanic ?_
        refine wp_region_held_drew (S := PCells rb (.slice a4 r'.nds.length p4) r'.g r'.cs) (by kernel_rfl) (HX.out.2.2.2.1) (fun hHeld => ?_)
        refine takeAt 0 (some 26) ?_ rfl rfl (by kernel_rfl) (by kernel_rfl) (by kernel_rfl) (fun _ _ _ h => h) (Or.inl ⟨by rfl, ?_⟩) hHeld ?_
        rotate_left
        · intro w hSw
          go_simp <;> with_reducible rfl
        try simp only [Act.put, List.setIfInBounds_toArray, List.set_cons_zero, List.set_cons_succ]
        refine takeAt 1 (some 27) ?_ rfl rfl (by kernel_rfl) (by kernel_rfl) (by kernel_rfl) (fun _ _ _ h => h) (Or.inl ⟨by rfl, ?_⟩) hHeld ?_
        rotate_left
        · intro w hSw
          go_simp <;> with_reducible rfl
        try simp only [Act.put, List.setIfInBounds_toArray, List.set_cons_zero, List.set_cons_succ]
        refine takeAt 2 (some 28) ?_ rfl rfl (by kernel_rfl) (by kernel_rfl) (by kernel_rfl) (fun _ _ _ h => h) (Or.inl ⟨by rfl, ?_⟩) hHeld ?_
        rotate_left
        · intro w hSw
          go_simp <;> with_reducible rfl
        try simp only [Act.put, List.setIfInBounds_toArray, List.set_cons_zero, List.set_cons_succ]
        refine takeAt 3 (some 29) ?_ rfl rfl (by kernel_rfl) (by kernel_rfl) (by kernel_rfl) (fun _ _ _ h => h) (Or.inl ⟨by rfl, ?_⟩) hHeld ?_
        rotate_left
        · intro w hSw
          go_simp <;> with_reducible rfl
        try simp only [Act.put, List.setIfInBounds_toArray, List.set_cons_zero, List.set_cons_succ]
        refine takeAt 4 (some 30) ?_ rfl rfl (by kernel_rfl) (by kernel_rfl) (by kernel_rfl) (fun _ _ _ h => h) (Or.inl ⟨by rfl, ?_⟩) hHeld ?_
        rotate_left
        · intro w hSw
          go_simp <;> with_reducible rfl
        try simp only [Act.put, List.setIfInBounds_toArray, List.set_cons_zero, List.set_cons_succ]
        refine takeAt 5 (some 31) ?_ rfl rfl (by kernel_rfl) (by kernel_rfl) (by kernel_rfl) (fun _ _ _ h => h) (Or.inl ⟨by rfl, ?_⟩) hHeld ?_
        rotate_left
        · intro w hSw
          go_simp <;> with_reducible rfl
        try simp only [Act.put, List.setIfInBounds_toArray, List.set_cons_zero, List.set_cons_succ]
        refine takeAt 6 (some 32) ?_ rfl rfl (by kernel_rfl) (by kernel_rfl) (by kernel_rfl) (fun _ _ _ h => h) (Or.inl ⟨by rfl, ?_⟩) hHeld ?_
        rotate_left
        · intro w hSw
          go_simp <;> with_reducible rfl
        try simp only [Act.put, List.setIfInBounds_toArray, List.set_cons_zero, List.set_cons_succ]
        refine takeAt 7 (some 33) ?_ rfl rfl (by kernel_rfl) (by kernel_rfl) (by kernel_rfl) (fun _ _ _ h => h) (Or.inl ⟨by rfl, ?_⟩) hHeld ?_
        rotate_left
        · intro w hSw
          go_simp <;> with_reducible rfl
        try simp only [Act.put, List.setIfInBounds_toArray, List.set_cons_zero, List.set_cons_succ]
        refine takeAt 8 (some 34) ?_ rfl rfl (by kernel_rfl) (by kernel_rfl) (by kernel_rfl) (fun _ _ _ h => h) (Or.inl ⟨by rfl, ?_⟩) hHeld ?_
        rotate_left
        · intro w hSw
          go_simp <;> with_reducible rfl
        try simp only [Act.put, List.setIfInBounds_toArray, List.set_cons_zero, List.set_cons_succ]
        refine takeAt 9 (some 35) ?_ rfl rfl (by kernel_rfl) (by kernel_rfl) (by kernel_rfl) (fun _ _ _ h => h) (Or.inl ⟨by rfl, ?_⟩) hHeld ?_
        rotate_left
        · intro w hSw
          go_simp <;> with_reducible rfl
        try simp only [Act.put, List.setIfInBounds_toArray, List.set_cons_zero, List.set_cons_succ]
        refine takeAt 10 (some 36) ?_ rfl rfl (by kernel_rfl) (by kernel_rfl) (by kernel_rfl) (fun _ _ _ h => h) (Or.inl ⟨by rfl, ?_⟩) hHeld ?_
        rotate_left
        · intro w hSw
          go_simp <;> with_reducible rfl
        try simp only [Act.put, List.setIfInBounds_toArray, List.set_cons_zero, List.set_cons_succ]
        refine takeAt 11 (some 37) ?_ rfl rfl (by kernel_rfl) (by kernel_rfl) (by kernel_rfl) (fun _ _ _ h => h) (Or.inl ⟨by rfl, ?_⟩) hHeld ?_
        rotate_left
        · intro w hSw
          go_simp <;> with_reducible rfl
        try simp only [Act.put, List.setIfInBounds_toArray, List.set_cons_zero, List.set_cons_succ]
        refine takeAt 12 (some 38) ?_ rfl rfl (by kernel_rfl) (by kernel_rfl) (by kernel_rfl) (fun _ _ _ h => h) (Or.inl ⟨by rfl, ?_⟩) hHeld ?_
        rotate_left
        · intro w hSw
          go_simp <;> with_reducible rfl
        try simp only [Act.put, List.setIfInBounds_toArray, List.set_cons_zero, List.set_cons_succ]
        refine takeAt 13 (some 39) ?_ rfl rfl (by kernel_rfl) (by kernel_rfl) (by kernel_rfl) (fun _ _ _ h => h) (Or.inl ⟨by rfl, ?_⟩) hHeld ?_
        rotate_left
        · intro w hSw
          go_simp <;> with_reducible rfl
        try simp only [Act.put, List.setIfInBounds_toArray, List.set_cons_zero, List.set_cons_succ]
        refine takeAt 14 (some 40) ?_ rfl rfl (by kernel_rfl) (by kernel_rfl) (by kernel_rfl) (fun _ _ _ h => h) (Or.inl ⟨by rfl, ?_⟩) hHeld ?_
        rotate_left
        · intro w hSw
          go_simp <;> with_reducible rfl
        try simp only [Act.put, List.setIfInBounds_toArray, List.set_cons_zero, List.set_cons_succ]
        refine takeAt 15 (some 41) ?_ rfl rfl (by kernel_rfl) (by kernel_rfl) (by kernel_rfl) (fun _ _ _ h => h) (Or.inl ⟨by rfl, ?_⟩) hHeld ?_
        rotate_left
        · intro w hSw
          go_simp <;> with_reducible rfl
        try simp only [Act.put, List.setIfInBounds_toArray, List.set_cons_zero, List.set_cons_succ]
        obtain ⟨d0, d1, d2, d3⟩ := HX.out.2.2.1.cells
        have g0 := HX.out.2.2.1.fz 0
        have g1 := HX.out.2.2.1.fz 1
        have g2 := HX.out.2.2.1.fz 2
        have g3 := HX.out.2.2.1.fz 3
        refine wpAnyH_ready (rs := [16]) (by kernel_rfl) (by simp) ?_
        refine AllReadyH.cons rfl (fun K hK => ?_) AllReadyH.nil
        go_simp
        refine hK.out _ _ (HX.out.2.2.2.2) (fun hHeld => ?_)
        clear hK K
        try simp only [Act.put, List.setIfInBounds_toArray, List.set_cons_zero, List.set_cons_succ]
        refine wpAnyH_done (by kernel_rfl) ?_ _
        refine NoPanic.normal ?_
        go_wp2_with fail
        obtain ⟨e0, e1, e2, e3⟩ := HX.out.2.2.1.put (.slice a4 r'.nds.length p4) (.int .i64 i) (.int .i64 r'.g) (.int .u8 r'.cs)
        have f := fr_four w.heap.size (.slice a4 r'.nds.length p4) (.int .i64 i) (.int .i64 r'.g) (.int .u8 r'.cs) (w1.alloc (.cells #[.int .u8 kd, .int .u8 c, .int .i64 pl] 75)).drew
        have HPo : RetP B rb s last vn w (.ok (i, r')) (.returned (.agg #[(.slice a4 r'.nds.length p4), .int .i64 i, .int .i64 r'.g, .int .u8 r'.cs])) (((((w1.alloc (.cells #[.int .u8 kd, .int .u8 c, .int .i64 pl] 75)).drew.setCell ⟨w.heap.size, 0, none⟩ (.slice a4 r'.nds.length p4)).setCell ⟨w.heap.size, 1, none⟩ (.int .i64 i)).setCell ⟨w.heap.size, 2, none⟩ (.int .i64 r'.g)).setCell ⟨w.heap.size, 3, none⟩ (.int .u8 r'.cs)) := ⟨vn1, by rw [HEV.out], HX.out.1.off (P := On w.heap.size) (fun j hj => by unfold On at hj; subst hj; exact ⟨⟨HNW.out.1.1, HQ2.out.1⟩, HQ2.out.2⟩) f, ⟨HX.out.2.1.fr.trans' f fun k hk q => by unfold On at q; omega, HX.out.2.1.own, HX.out.2.1.kbs⟩⟩
        have hPB : PatBox w.heap.size (.slice a4 r'.nds.length p4) i r'.g r'.cs (((((w1.alloc (.cells #[.int .u8 kd, .int .u8 c, .int .i64 pl] 75)).drew.setCell ⟨w.heap.size, 0, none⟩ (.slice a4 r'.nds.length p4)).setCell ⟨w.heap.size, 1, none⟩ (.int .i64 i)).setCell ⟨w.heap.size, 2, none⟩ (.int .i64 r'.g)).setCell ⟨w.heap.size, 3, none⟩ (.int .u8 r'.cs)) := by
          have h := HX.out.2.2.1
          have h0 := heap_setCell (off := 0) (v := (.slice a4 r'.nds.length p4)) h
          have h1 := heap_setCell (off := 1) (v := .int .i64 i) h0
          have h2 := heap_setCell (off := 2) (v := .int .i64 r'.g) h1
          exact heap_setCell (off := 3) (v := .int .u8 r'.cs) h2
        clear e0 e1 e2 e3 f
        have hE : (((((w1.alloc (.cells #[.int .u8 kd, .int .u8 c, .int .i64 pl] 75)).setCell ⟨w.heap.size, 0, none⟩ (.slice a4 r'.nds.length p4)).setCell ⟨w.heap.size, 1, none⟩ (.int .i64 i)).setCell ⟨w.heap.size, 2, none⟩ (.int .i64 r'.g)).setCell ⟨w.heap.size, 3, none⟩ (.int .u8 r'.cs)).drew = (((((w1.alloc (.cells #[.int .u8 kd, .int .u8 c, .int .i64 pl] 75)).drew.setCell ⟨w.heap.size, 0, none⟩ (.slice a4 r'.nds.length p4)).setCell ⟨w.heap.size, 1, none⟩ (.int .i64 i)).setCell ⟨w.heap.size, 2, none⟩ (.int .i64 r'.g)).setCell ⟨w.heap.size, 3, none⟩ (.int .u8 r'.cs)) := rfl
        rw [hE]
        clear hE
        generalize (((((w1.alloc (.cells #[.int .u8 kd, .int .u8 c, .int .i64 pl] 75)).drew.setCell ⟨w.heap.size, 0, none⟩ (.slice a4 r'.nds.length p4)).setCell ⟨w.heap.size, 1, none⟩ (.int .i64 i)).setCell ⟨w.heap.size, 2, none⟩ (.int .i64 r'.g)).setCell ⟨w.heap.size, 3, none⟩ (.int .u8 r'.cs)) = W9 at *
        obtain ⟨e0, e1, e2, e3⟩ := hPB.cells
        exact bodyPost_ret (v := .agg #[(.slice a4 r'.nds.length p4), .int .i64 i, .int .i64 r'.g, .int .u8 r'.cs]) (by simp [results, Tryz.results12, go_sem, e0, e1, e2, e3]) rfl HPo
    · rw [if_pos (by simpa using h0)]
      have e0 : ((kd : Int) != 0) = true := by simp; omega
      clear h0
      go_enter Tryz.func12, Tryz.ntmps12
      go_wp2_with fail
      refine Calls.mono (HB.out _ (HR.out.kp (kp_alloc _ _)) (HR.out.below (Adv.kp vn rb (kp_alloc _ _)))) ?_
      rintro e w1 ⟨rfl, vn1, q1, q2⟩
      have HE : Hid (TokBox w1.heap.size ⟨kd, c, pl⟩ (w1.alloc (.cells #[.int .u8 kd, .int .u8 c, .int .i64 pl] 75))) := alloc_new w1 _
      obtain ⟨⟨u0, u1, u2⟩, _⟩ := HE.out.cells
      have H2 : Hid (Adv rb vn w vn1 (w1.alloc (.cells #[.int .u8 kd, .int .u8 c, .int .i64 pl] 75))) := ((Adv.kp vn rb (kp_alloc w _)).trans q2).trans (Adv.kp vn1 rb (kp_alloc _ _))
      clear q1 q2
      unfold Tok.val
      simp only
      go_wp2_with fail
      exact ⟨rfl, rfl, HR.out.er H2.out⟩
end
end Go.Proofs.YtpahpnajeliodaaGreatDoor
/- A new reader. -/
namespace Go.Proofs.YtpahpnajeliodaaGreatDoor
open Go.ChangeShapes Go.WideShapes Go.ChangeAt Go.RowKit
set_option linter.unusedVariables false
set_option linter.unusedSimpArgs false
/-- A reader at the beginning. -/
def rs0 : RS := { k := 0, md := mdM, cs := 0, g := 0, cl := List.replicate 10 false, nds := [] }
theorem rs0_gd (s : ByteArray) : Gd s rs0 := ⟨Nat.zero_le _, by simp [rs0], by simp [rs0], by simp [rs0]⟩
theorem newReader_any (s last : ByteArray) (w : World) :
    Calls Tryz.prog 7 #[.string s, .string last] w fun e w' => ∃ rb, e = .returned (.pointer (some ⟨rb, 0, none⟩)) ∧ w.heap.size ≤ rb ∧ Kp w w' ∧ ∀ B, B ≤ w.heap.size → Rr B rb s last rs0 ⟨.slice none 0 0, fun _ => False⟩ w' := by
  go_enter Tryz.func7, Tryz.ntmps7
  go_wp2_with fail
  go_ret
  refine ⟨w.heap.size, rfl, Nat.le_refl _, kp_alloc _ _, fun B hB => ⟨[], hB, alloc_new w _, World.ownsRow_nil _ _ _ _, by simp [Qv.ownBlock, Value.ownBlock], rfl, fun x hx => by simp at hx, fun j hj => hj.elim⟩⟩
end Go.Proofs.YtpahpnajeliodaaGreatDoor
/- The reader's read: what its deferred closure does. -/
namespace Go.Proofs.YtpahpnajeliodaaGreatDoor
open Go.ChangeShapes Go.WideShapes Go.ChangeAt Go.RowKit
set_option linter.unusedVariables false
set_option linter.unusedSimpArgs false
set_option maxHeartbeats 2000000 in
set_option maxRecDepth 100000 in
theorem catch_idle (p e a : Addr) (w : World) :
    CallsD Tryz.prog 11 #[.pointer (some p), .pointer (some e), .pointer (some a)] .returning w fun e u' w' => e = .returned (.tuple #[]) ∧ u' = .returning ∧ w' = w := by
  refine callsD_of_wpS Tryz.func11 rfl fun c₀ cs hu => ?_
  apply wpS_seq
  apply wpS_region
  simp [wpOpsS, go_sem, recoverD, hu, Tryz.ntmps11, Exit.thenS]
  rw [show (#[.pointer (some p), .pointer (some e), .pointer (some a)] ++ (Array.replicate 14 undef).setIfInBounds 3 Value.nilIface : Array Value) = #[.pointer (some p), .pointer (some e), .pointer (some a), undef, undef, undef, .nilIface, undef, undef, undef, undef, undef, undef, undef, undef, undef, undef] from rfl]
  refine wpS_of_wp ?_
  go_wp2_with fail
  cases c₀
  simp_all [bodyPostS, results, Tryz.results11]
theorem fault_assert (n at_ : Nat) (w : World) : Sem.run Tryz.prog (Instr.typeAssert (Value.iface 52 (.agg #[.int .u16 n, .int .i64 at_])) 20 52 true) w = .ok (.tuple #[.agg #[.int .u16 n, .int .i64 at_], .bool true]) w := by kernel_rfl
def One (b : Nat) (v : Value) (t : TypeId) (w : World) : Prop := w.heap[b]? = some (.cells #[v] t (0, 0))
theorem One.cell {b : Nat} {v : Value} {t : TypeId} {w : World} (h : One b v t w) : w.cell? ⟨b, 0, none⟩ = some v ∧ w.frozen? ⟨b, 0, none⟩ = false := by
  unfold One at h
  exact ⟨by simp [World.cell?, h], by simp [World.frozen?, h]⟩
theorem One.set {b : Nat} {v : Value} {t : TypeId} {w : World} (h : One b v t w) (u : Value) : One b u t (w.setCell ⟨b, 0, none⟩ u) := by
  unfold One at h ⊢
  rw [heap_setCell h]; simp
def FltBox (b n a : Nat) (w : World) : Prop := w.heap[b]? = some (.cells #[.int .u16 n, .int .i64 a] 52 (0, 0))
theorem FltBox.cells {b n a : Nat} {w : World} (h : FltBox b n a w) : w.cell? ⟨b, 0, none⟩ = some (.int .u16 n) ∧ w.cell? ⟨b, 1, none⟩ = some (.int .i64 a) := by
  unfold FltBox at h
  exact ⟨by simp [World.cell?, h], by simp [World.cell?, h]⟩
/-- The three answers' boxes: the pattern, the error, the place. -/
def Ans (np ne na : Nat) (v : Value) (i g c e a : Nat) (w : World) : Prop := PatBox np v i g c w ∧ One ne (.int .u16 e) 28 w ∧ One na (.int .i64 a) 3 w
def On3 (np ne na k : Nat) : Prop := k = np ∨ k = ne ∨ k = na
set_option maxHeartbeats 2000000 in
set_option maxRecDepth 100000 in
theorem catch_fault (np ne na n at_ : Nat) (older : List PanicEntry) (w : World) {v0 : Value} {i0 g0 c0 e0 p0 : Nat} (h : Ans np ne na v0 i0 g0 c0 e0 p0 w) (h1 : np ≠ ne) (h2 : np ≠ na) (h3 : ne ≠ na) :
    CallsD Tryz.prog 11 #[.pointer (some ⟨np, 0, none⟩), .pointer (some ⟨ne, 0, none⟩), .pointer (some ⟨na, 0, none⟩)] (.panicking ({ v := .iface 52 (.agg #[.int .u16 n, .int .i64 at_]), recovered := false } :: older)) w fun e u' w' =>
      e = .returned (.tuple #[]) ∧ u' = .panicking ({ v := .iface 52 (.agg #[.int .u16 n, .int .i64 at_]), recovered := true } :: older) ∧ Fr (On3 np ne na) w w' ∧ Ans np ne na (.slice none 0 0) 0 0 0 n at_ w' := by
  have lp : np < w.heap.size := (Array.getElem?_eq_some_iff.1 h.1).1
  have le : ne < w.heap.size := (Array.getElem?_eq_some_iff.1 h.2.1).1
  have la : na < w.heap.size := (Array.getElem?_eq_some_iff.1 h.2.2).1
  have k0 : Kp w (w.alloc (.cells #[.int .u16 n, .int .i64 at_] 52)).drew := kp_trans (kp_alloc w _) (kp_drew _)
  have a0 : Ans np ne na v0 i0 g0 c0 e0 p0 (w.alloc (.cells #[.int .u16 n, .int .i64 at_] 52)).drew ∧ FltBox w.heap.size n at_ (w.alloc (.cells #[.int .u16 n, .int .i64 at_] 52)).drew := by
    refine ⟨⟨?_, ?_, ?_⟩, alloc_new w _⟩
    · have := h.1; unfold PatBox at *; rw [k0.block _ lp]; exact this
    · have := h.2.1; unfold One at *; rw [k0.block _ le]; exact this
    · have := h.2.2; unfold One at *; rw [k0.block _ la]; exact this
  have lx : w.heap.size < (w.alloc (.cells #[.int .u16 n, .int .i64 at_] 52)).drew.heap.size := (Array.getElem?_eq_some_iff.1 a0.2).1
  have f1 := fr_four np (.slice none 0 0) (.int .i64 0) (.int .i64 0) (.int .u8 0) (w.alloc (.cells #[.int .u16 n, .int .i64 at_] 52)).drew
  have a1 : Ans np ne na (.slice none 0 0) 0 0 0 e0 p0 (((((w.alloc (.cells #[.int .u16 n, .int .i64 at_] 52)).drew.setCell ⟨np, 0, none⟩ (.slice none 0 0)).setCell ⟨np, 1, none⟩ (.int .i64 0)).setCell ⟨np, 2, none⟩ (.int .i64 0)).setCell ⟨np, 3, none⟩ (.int .u8 0)) ∧ FltBox w.heap.size n at_ (((((w.alloc (.cells #[.int .u16 n, .int .i64 at_] 52)).drew.setCell ⟨np, 0, none⟩ (.slice none 0 0)).setCell ⟨np, 1, none⟩ (.int .i64 0)).setCell ⟨np, 2, none⟩ (.int .i64 0)).setCell ⟨np, 3, none⟩ (.int .u8 0)) := by
    refine ⟨⟨?_, ?_, ?_⟩, ?_⟩
    · have h := a0.1.1
      have q0 := heap_setCell (off := 0) (v := .slice none 0 0) h
      have q1 := heap_setCell (off := 1) (v := .int .i64 0) q0
      have q2 := heap_setCell (off := 2) (v := .int .i64 0) q1
      exact heap_setCell (off := 3) (v := .int .u8 0) q2
    · have := a0.1.2.1; unfold One at *; rw [f1.block _ (by omega) (by unfold On; omega)]; exact this
    · have := a0.1.2.2; unfold One at *; rw [f1.block _ (by omega) (by unfold On; omega)]; exact this
    · have := a0.2; unfold FltBox at *; rw [f1.block _ lx (by unfold On; omega)]; exact this
  have f2 := fr_set ne 0 (.int .u16 n) (((((w.alloc (.cells #[.int .u16 n, .int .i64 at_] 52)).drew.setCell ⟨np, 0, none⟩ (.slice none 0 0)).setCell ⟨np, 1, none⟩ (.int .i64 0)).setCell ⟨np, 2, none⟩ (.int .i64 0)).setCell ⟨np, 3, none⟩ (.int .u8 0))
  have s1 : (w.alloc (.cells #[.int .u16 n, .int .i64 at_] 52)).drew.heap.size ≤ (((((w.alloc (.cells #[.int .u16 n, .int .i64 at_] 52)).drew.setCell ⟨np, 0, none⟩ (.slice none 0 0)).setCell ⟨np, 1, none⟩ (.int .i64 0)).setCell ⟨np, 2, none⟩ (.int .i64 0)).setCell ⟨np, 3, none⟩ (.int .u8 0)).heap.size := f1.size
  have a2 : Ans np ne na (.slice none 0 0) 0 0 0 n p0 ((((((w.alloc (.cells #[.int .u16 n, .int .i64 at_] 52)).drew.setCell ⟨np, 0, none⟩ (.slice none 0 0)).setCell ⟨np, 1, none⟩ (.int .i64 0)).setCell ⟨np, 2, none⟩ (.int .i64 0)).setCell ⟨np, 3, none⟩ (.int .u8 0)).setCell ⟨ne, 0, none⟩ (.int .u16 n)) ∧ FltBox w.heap.size n at_ ((((((w.alloc (.cells #[.int .u16 n, .int .i64 at_] 52)).drew.setCell ⟨np, 0, none⟩ (.slice none 0 0)).setCell ⟨np, 1, none⟩ (.int .i64 0)).setCell ⟨np, 2, none⟩ (.int .i64 0)).setCell ⟨np, 3, none⟩ (.int .u8 0)).setCell ⟨ne, 0, none⟩ (.int .u16 n)) := by
    refine ⟨⟨?_, a1.1.2.1.set _, ?_⟩, ?_⟩
    · have := a1.1.1; unfold PatBox at *; rw [f2.block _ (by omega) (by unfold On; omega)]; exact this
    · have := a1.1.2.2; unfold One at *; rw [f2.block _ (by omega) (by unfold On; omega)]; exact this
    · have := a1.2; unfold FltBox at *; rw [f2.block _ (by omega) (by unfold On; omega)]; exact this
  have f3 := fr_set na 0 (.int .i64 at_) ((((((w.alloc (.cells #[.int .u16 n, .int .i64 at_] 52)).drew.setCell ⟨np, 0, none⟩ (.slice none 0 0)).setCell ⟨np, 1, none⟩ (.int .i64 0)).setCell ⟨np, 2, none⟩ (.int .i64 0)).setCell ⟨np, 3, none⟩ (.int .u8 0)).setCell ⟨ne, 0, none⟩ (.int .u16 n))
  have s2 : (((((w.alloc (.cells #[.int .u16 n, .int .i64 at_] 52)).drew.setCell ⟨np, 0, none⟩ (.slice none 0 0)).setCell ⟨np, 1, none⟩ (.int .i64 0)).setCell ⟨np, 2, none⟩ (.int .i64 0)).setCell ⟨np, 3, none⟩ (.int .u8 0)).heap.size ≤ ((((((w.alloc (.cells #[.int .u16 n, .int .i64 at_] 52)).drew.setCell ⟨np, 0, none⟩ (.slice none 0 0)).setCell ⟨np, 1, none⟩ (.int .i64 0)).setCell ⟨np, 2, none⟩ (.int .i64 0)).setCell ⟨np, 3, none⟩ (.int .u8 0)).setCell ⟨ne, 0, none⟩ (.int .u16 n)).heap.size := f2.size
  have a3 : Ans np ne na (.slice none 0 0) 0 0 0 n at_ (((((((w.alloc (.cells #[.int .u16 n, .int .i64 at_] 52)).drew.setCell ⟨np, 0, none⟩ (.slice none 0 0)).setCell ⟨np, 1, none⟩ (.int .i64 0)).setCell ⟨np, 2, none⟩ (.int .i64 0)).setCell ⟨np, 3, none⟩ (.int .u8 0)).setCell ⟨ne, 0, none⟩ (.int .u16 n)).setCell ⟨na, 0, none⟩ (.int .i64 at_)) ∧ FltBox w.heap.size n at_ (((((((w.alloc (.cells #[.int .u16 n, .int .i64 at_] 52)).drew.setCell ⟨np, 0, none⟩ (.slice none 0 0)).setCell ⟨np, 1, none⟩ (.int .i64 0)).setCell ⟨np, 2, none⟩ (.int .i64 0)).setCell ⟨np, 3, none⟩ (.int .u8 0)).setCell ⟨ne, 0, none⟩ (.int .u16 n)).setCell ⟨na, 0, none⟩ (.int .i64 at_)) := by
    refine ⟨⟨?_, ?_, a2.1.2.2.set _⟩, ?_⟩
    · have := a2.1.1; unfold PatBox at *; rw [f3.block _ (by omega) (by unfold On; omega)]; exact this
    · have := a2.1.2.1; unfold One at *; rw [f3.block _ (by omega) (by unfold On; omega)]; exact this
    · have := a2.2; unfold FltBox at *; rw [f3.block _ (by omega) (by unfold On; omega)]; exact this
  have HA0 : Hid (Ans np ne na v0 i0 g0 c0 e0 p0 (w.alloc (.cells #[.int .u16 n, .int .i64 at_] 52)).drew ∧ FltBox w.heap.size n at_ (w.alloc (.cells #[.int .u16 n, .int .i64 at_] 52)).drew) := a0
  have HA1 : Hid (Ans np ne na (.slice none 0 0) 0 0 0 e0 p0 (((((w.alloc (.cells #[.int .u16 n, .int .i64 at_] 52)).drew.setCell ⟨np, 0, none⟩ (.slice none 0 0)).setCell ⟨np, 1, none⟩ (.int .i64 0)).setCell ⟨np, 2, none⟩ (.int .i64 0)).setCell ⟨np, 3, none⟩ (.int .u8 0)) ∧ FltBox w.heap.size n at_ (((((w.alloc (.cells #[.int .u16 n, .int .i64 at_] 52)).drew.setCell ⟨np, 0, none⟩ (.slice none 0 0)).setCell ⟨np, 1, none⟩ (.int .i64 0)).setCell ⟨np, 2, none⟩ (.int .i64 0)).setCell ⟨np, 3, none⟩ (.int .u8 0))) := a1
  have HA2 : Hid (Ans np ne na (.slice none 0 0) 0 0 0 n p0 ((((((w.alloc (.cells #[.int .u16 n, .int .i64 at_] 52)).drew.setCell ⟨np, 0, none⟩ (.slice none 0 0)).setCell ⟨np, 1, none⟩ (.int .i64 0)).setCell ⟨np, 2, none⟩ (.int .i64 0)).setCell ⟨np, 3, none⟩ (.int .u8 0)).setCell ⟨ne, 0, none⟩ (.int .u16 n)) ∧ FltBox w.heap.size n at_ ((((((w.alloc (.cells #[.int .u16 n, .int .i64 at_] 52)).drew.setCell ⟨np, 0, none⟩ (.slice none 0 0)).setCell ⟨np, 1, none⟩ (.int .i64 0)).setCell ⟨np, 2, none⟩ (.int .i64 0)).setCell ⟨np, 3, none⟩ (.int .u8 0)).setCell ⟨ne, 0, none⟩ (.int .u16 n))) := a2
  have HA3 : Hid (Ans np ne na (.slice none 0 0) 0 0 0 n at_ (((((((w.alloc (.cells #[.int .u16 n, .int .i64 at_] 52)).drew.setCell ⟨np, 0, none⟩ (.slice none 0 0)).setCell ⟨np, 1, none⟩ (.int .i64 0)).setCell ⟨np, 2, none⟩ (.int .i64 0)).setCell ⟨np, 3, none⟩ (.int .u8 0)).setCell ⟨ne, 0, none⟩ (.int .u16 n)).setCell ⟨na, 0, none⟩ (.int .i64 at_)) ∧ FltBox w.heap.size n at_ (((((((w.alloc (.cells #[.int .u16 n, .int .i64 at_] 52)).drew.setCell ⟨np, 0, none⟩ (.slice none 0 0)).setCell ⟨np, 1, none⟩ (.int .i64 0)).setCell ⟨np, 2, none⟩ (.int .i64 0)).setCell ⟨np, 3, none⟩ (.int .u8 0)).setCell ⟨ne, 0, none⟩ (.int .u16 n)).setCell ⟨na, 0, none⟩ (.int .i64 at_)) ∧ Fr (On3 np ne na) w (((((((w.alloc (.cells #[.int .u16 n, .int .i64 at_] 52)).drew.setCell ⟨np, 0, none⟩ (.slice none 0 0)).setCell ⟨np, 1, none⟩ (.int .i64 0)).setCell ⟨np, 2, none⟩ (.int .i64 0)).setCell ⟨np, 3, none⟩ (.int .u8 0)).setCell ⟨ne, 0, none⟩ (.int .u16 n)).setCell ⟨na, 0, none⟩ (.int .i64 at_))) := by
    refine ⟨a3.1, a3.2, ?_⟩
    exact (((Fr.of_below k0).trans (f1.mono fun k _ q => .inl q)).trans (f2.mono fun k _ q => .inr (.inl q))).trans (f3.mono fun k _ q => .inr (.inr q))
  clear a0 a1 a2 a3 f1 f2 f3 k0 lx s1 s2 h
  refine callsD_of_wpS Tryz.func11 rfl fun c₀ cs hu => ?_
  apply wpS_seq
  apply wpS_region
  simp [wpOpsS, go_sem, recoverD, hu, Tryz.ntmps11, Exit.thenS]
  rw [show (#[.pointer (some ⟨np, 0, none⟩), .pointer (some ⟨ne, 0, none⟩), .pointer (some ⟨na, 0, none⟩)] ++ (Array.replicate 14 undef).setIfInBounds 3 (Value.iface 52 (.agg #[.int .u16 n, .int .i64 at_])) : Array Value) = #[.pointer (some ⟨np, 0, none⟩), .pointer (some ⟨ne, 0, none⟩), .pointer (some ⟨na, 0, none⟩), undef, undef, undef, Value.iface 52 (.agg #[.int .u16 n, .int .i64 at_]), undef, undef, undef, undef, undef, undef, undef, undef, undef, undef] from rfl]
  refine wpS_of_wp ?_
  have hTA := fun (w : World) => fault_assert n at_ w
  go_wp2_with fail
  have rl0 : ∀ w', FltBox w.heap.size n at_ w' → w'.cell? ⟨w.heap.size, 0, none⟩ = some (.int .u16 n) := fun _ h => h.cells.1
  have rl1 : ∀ w', FltBox w.heap.size n at_ w' → w'.cell? ⟨w.heap.size, 1, none⟩ = some (.int .i64 at_) := fun _ h => h.cells.2
  refine wp_region_noPanic ?_
  refine wp_region_held_drew (S := FltBox w.heap.size n at_) (by kernel_rfl) (HA0.out.2) (fun hHeld => ?_)
  generalize (w.alloc (.cells #[.int .u16 n, .int .i64 at_] 52)).drew = x0 at HA0 HA1 HA2 HA3 hHeld ⊢
  refine takeAt 0 (some 12) ?_ rfl rfl (by kernel_rfl) (by kernel_rfl) (by kernel_rfl) (fun _ _ _ h => h) (Or.inl ⟨by rfl, ?_⟩) hHeld ?_
  rotate_left
  · intro w hSw
    go_simp <;> with_reducible rfl
  try simp only [Act.put, List.setIfInBounds_toArray, List.set_cons_zero, List.set_cons_succ]
  refine takeAt 1 (some 13) ?_ rfl rfl (by kernel_rfl) (by kernel_rfl) (by kernel_rfl) (fun _ _ _ h => h) (Or.inl ⟨by rfl, ?_⟩) hHeld ?_
  rotate_left
  · intro w hSw
    go_simp <;> with_reducible rfl
  try simp only [Act.put, List.setIfInBounds_toArray, List.set_cons_zero, List.set_cons_succ]
  refine takeAt 2 (some 14) ?_ rfl rfl (by kernel_rfl) (by kernel_rfl) (by kernel_rfl) (fun _ _ _ h => h) (Or.inl ⟨by rfl, ?_⟩) hHeld ?_
  rotate_left
  · intro w hSw
    go_simp <;> with_reducible rfl
  try simp only [Act.put, List.setIfInBounds_toArray, List.set_cons_zero, List.set_cons_succ]
  refine takeAt 3 (some 15) ?_ rfl rfl (by kernel_rfl) (by kernel_rfl) (by kernel_rfl) (fun _ _ _ h => h) (Or.inl ⟨by rfl, ?_⟩) hHeld ?_
  rotate_left
  · intro w hSw
    go_simp <;> with_reducible rfl
  try simp only [Act.put, List.setIfInBounds_toArray, List.set_cons_zero, List.set_cons_succ]
  refine takeAt 4 (some 16) ?_ rfl rfl (by kernel_rfl) (by kernel_rfl) (by kernel_rfl) (fun _ _ _ h => h) (Or.inl ⟨by rfl, ?_⟩) hHeld ?_
  rotate_left
  · intro w hSw
    go_simp <;> with_reducible rfl
  try simp only [Act.put, List.setIfInBounds_toArray, List.set_cons_zero, List.set_cons_succ]
  obtain ⟨y0, y1, y2, y3⟩ := HA0.out.1.1.cells
  have g0 := HA0.out.1.1.fz 0
  have g1 := HA0.out.1.1.fz 1
  have g2 := HA0.out.1.1.fz 2
  have g3 := HA0.out.1.1.fz 3
  refine wpAnyH_ready (rs := [5]) (by kernel_rfl) (by simp) ?_
  refine AllReadyH.cons rfl (fun K hK => ?_) AllReadyH.nil
  go_simp
  refine hK.out _ _ (HA1.out.2) (fun hHeld => ?_)
  clear hK K
  try simp only [Act.put, List.setIfInBounds_toArray, List.set_cons_zero, List.set_cons_succ]
  generalize ((((x0.setCell ⟨np, 0, none⟩ (.slice none 0 0)).setCell ⟨np, 1, none⟩ (.int .i64 0)).setCell ⟨np, 2, none⟩ (.int .i64 0)).setCell ⟨np, 3, none⟩ (.int .u8 0)) = x1 at HA1 HA2 HA3 hHeld ⊢
  clear y0 y1 y2 y3 g0 g1 g2 g3
  obtain ⟨y0, g0⟩ := HA1.out.1.2.1.cell
  refine wpAnyH_ready (rs := [6]) (by kernel_rfl) (by simp) ?_
  refine AllReadyH.cons rfl (fun K hK => ?_) AllReadyH.nil
  go_simp
  refine hK.out _ _ (HA2.out.2) (fun hHeld => ?_)
  clear hK K
  try simp only [Act.put, List.setIfInBounds_toArray, List.set_cons_zero, List.set_cons_succ]
  generalize (x1.setCell ⟨ne, 0, none⟩ (.int .u16 n)) = x2 at HA2 HA3 hHeld ⊢
  clear y0 g0
  obtain ⟨y0, g0⟩ := HA2.out.1.2.2.cell
  refine wpAnyH_ready (rs := [7]) (by kernel_rfl) (by simp) ?_
  refine AllReadyH.cons rfl (fun K hK => ?_) AllReadyH.nil
  go_simp
  refine hK.out _ _ (HA3.out.2.1) (fun hHeld => ?_)
  clear hK K
  try simp only [Act.put, List.setIfInBounds_toArray, List.set_cons_zero, List.set_cons_succ]
  refine wpAnyH_done (by kernel_rfl) ?_ _
  refine NoPanic.normal ?_
  clear y0 g0 hHeld
  generalize (x2.setCell ⟨na, 0, none⟩ (.int .i64 at_)) = x3 at HA3 ⊢
  go_wp2_with fail
  have z := HA3.out
  cases c₀
  simp_all [bodyPostS, results, Tryz.results11]
end Go.Proofs.YtpahpnajeliodaaGreatDoor
/- The reader's read, and Parse. -/
namespace Go.Proofs.YtpahpnajeliodaaGreatDoor
open Go.ChangeShapes Go.WideShapes Go.ChangeAt Go.RowKit
set_option linter.unusedVariables false
set_option linter.unusedSimpArgs false
/-- What read comes to. -/
def RetR (B rb : Nat) (s last : ByteArray) (vn : Qv) (w : World) (R : Except (Nat × Nat) (Nat × RS)) (e : Ending) (w' : World) : Prop :=
  match R with
  | .ok (i, r') => ∃ vn', e = .returned (.tuple #[.agg #[vn'.v, .int .i64 i, .int .i64 r'.g, .int .u8 r'.cs], .int .u16 0, .int .i64 0]) ∧ Rr B rb s last r' vn' w' ∧ Adv rb vn w vn' w'
  | .error (n, p) => e = .returned (.tuple #[.agg #[.slice none 0 0, .int .i64 0, .int .i64 0, .int .u8 0], .int .u16 n, .int .i64 p]) ∧ Er rb vn w w'
section
variable {B rb : Nat} {s last : ByteArray} {r : RS} {vn : Qv} {w w1 : World} {m : Int}
/-- The world behind read's three answers. -/
def w3 (w : World) : World := (((w.alloc (.cells #[.slice none 0 0, .int .i64 0, .int .i64 0, .int .u8 0] 26)).alloc (.cells #[.int .u16 0] 28)).alloc (.cells #[.int .i64 0] 3))
theorem w3_kp (w : World) : Kp w (w3 w) := kp_trans (kp_trans (kp_alloc w _) (kp_alloc _ _)) (kp_alloc _ _)
theorem w3_ans (w : World) : Ans w.heap.size (w.heap.size + 1) (w.heap.size + 1 + 1) (.slice none 0 0) 0 0 0 0 0 (w3 w) := by
  refine ⟨?_, ?_, ?_⟩
  · unfold PatBox w3
    rw [alloc_old _ _ _ (by simp only [alloc_size]; omega), alloc_old _ _ _ (by simp only [alloc_size]; omega)]
    exact alloc_new w _
  · unfold One w3
    rw [alloc_old _ _ _ (by simp only [alloc_size]; omega)]
    have := alloc_new (w.alloc (.cells #[.slice none 0 0, .int .i64 0, .int .i64 0, .int .u8 0] 26)) (.cells #[.int .u16 0] 28)
    rw [alloc_size] at this
    exact this
  · unfold One w3
    have := alloc_new ((w.alloc (.cells #[.slice none 0 0, .int .i64 0, .int .i64 0, .int .u8 0] 26)).alloc (.cells #[.int .u16 0] 28)) (.cells #[.int .i64 0] 3)
    rw [alloc_size, alloc_size] at this
    exact this
theorem Ans.fr {S : Nat → Prop} {np ne na : Nat} {v : Value} {i g c e a : Nat} (h : Ans np ne na v i g c e a w) (f : Fr S w w1) (h1 : ¬ S np) (h2 : ¬ S ne) (h3 : ¬ S na) : Ans np ne na v i g c e a w1 := by
  obtain ⟨q1, q2, q3⟩ := h
  refine ⟨?_, ?_, ?_⟩
  · have l := (Array.getElem?_eq_some_iff.1 q1).1
    unfold PatBox at *; rw [f.block _ l h1]; exact q1
  · have l := (Array.getElem?_eq_some_iff.1 q2).1
    unfold One at *; rw [f.block _ l h2]; exact q2
  · have l := (Array.getElem?_eq_some_iff.1 q3).1
    unfold One at *; rw [f.block _ l h3]; exact q3
theorem Rr.far (h : Rr B rb s last r vn w) {j : Nat} (hj : w.heap.size ≤ j) : ¬ Rb rb vn j := fun q => by
  have := h.new hj
  rcases q with q | q
  · exact this.1.1 q
  · exact this.1.2 q
set_option maxHeartbeats 4000000 in
set_option maxRecDepth 100000 in
theorem read_any (hs : s.size ≤ 400) (hla : last.size ≤ 1100) (h3 : 3 < B) (hd : Gd s r) (h : Rr B rb s last r vn w) (hm : w.cell? ⟨3, 0, none⟩ = some (.int .i64 m)) :
    Calls Tryz.prog 8 #[.pointer (some ⟨rb, 0, none⟩)] w (RetR B rb s last vn w (patF s last r)) := by
  have hmf : ∀ (fn : Fn) (first cap : Array Value) (w : World), (Instr.makeFunc fn first cap).run Tryz.prog w = .ok (.func fn first cap) w := fun _ _ _ _ => rfl
  have HP : Hid (Calls Tryz.prog 12 #[.pointer (some ⟨rb, 0, none⟩)] (w3 w) (RetP B rb s last vn (w3 w) (patF s last r))) := pattern_any hs hla h3 hd (h.kp (w3_kp w)) (kp_cell (w3_kp w) hm)
  have HR : Hid (Rr B rb s last r vn w) := h
  clear h hm hd
  cases hR : patF s last r with
  | error x =>
    obtain ⟨n, a⟩ := x
    rw [hR] at HP
    clear hR
    go_enter_defers Tryz.func8, Tryz.ntmps8
    go_wp2_with fail
    refine Calls.mono HP.out ?_
    rintro e w1 ⟨rfl, q⟩
    have A1 : Ans w.heap.size (w.heap.size + 1) (w.heap.size + 1 + 1) (.slice none 0 0) 0 0 0 0 0 w1 := (w3_ans w).fr q (HR.out.far (Nat.le_refl _)) (HR.out.far (by omega)) (HR.out.far (by omega))
    refine leaves_cons (f := 11) (args := #[.pointer (some ⟨w.heap.size, 0, none⟩), .pointer (some ⟨w.heap.size + 1, 0, none⟩), .pointer (some ⟨w.heap.size + 1 + 1, 0, none⟩)]) (by simp) (by simp [go_sem]) ?_
    refine (catch_fault _ _ _ n a [] w1 A1 (by omega) (by omega) (by omega)).mono ?_
    rintro e u' w2 ⟨rfl, rfl, f2, A2⟩
    obtain ⟨⟨y0, y1, y2, y3⟩, y4, y5⟩ := (⟨A2.1.cells, A2.2.1.cell.1, A2.2.2.cell.1⟩ : _ ∧ _ ∧ _)
    have HE : Hid (Er rb vn w w2) := ((Fr.of_below (w3_kp w)).trans q).trans' f2 fun k hk z => by
      rcases z with z | z | z <;> omega
    clear A1 A2 f2 q
    simp [Leaves, settle, results, Tryz.results8, go_sem, y0, y1, y2, y3, y4, y5]
    exact ⟨rfl, HE.out⟩
  | ok x =>
    obtain ⟨i, r'⟩ := x
    rw [hR] at HP
    clear hR
    go_enter_defers Tryz.func8, Tryz.ntmps8
    go_wp2_with fail
    refine Calls.mono HP.out ?_
    rintro e w1 ⟨vn1, rfl, q1, q2⟩
    have A1 : Ans w.heap.size (w.heap.size + 1) (w.heap.size + 1 + 1) (.slice none 0 0) 0 0 0 0 0 w1 := (w3_ans w).fr q2.fr (HR.out.far (Nat.le_refl _)) (HR.out.far (by omega)) (HR.out.far (by omega))
    have HQ : Hid (Rr B rb s last r' vn1 w1 ∧ Adv rb vn (w3 w) vn1 w1 ∧ Ans w.heap.size (w.heap.size + 1) (w.heap.size + 1 + 1) (.slice none 0 0) 0 0 0 0 0 w1) := ⟨q1, q2, A1⟩
    obtain ⟨y0, y1, y2, y3⟩ := A1.1.cells
    obtain ⟨y4, g4⟩ := A1.2.1.cell
    obtain ⟨y5, g5⟩ := A1.2.2.cell
    have g0 := A1.1.fz 0
    have g1 := A1.1.fz 1
    have g2 := A1.1.fz 2
    have g3 := A1.1.fz 3
    obtain ⟨av, cap, ev, _, _⟩ := q1.form
    have HV : Hid (vn1.v = .slice av r'.nds.length cap) := ev
    rw [ev]
    clear A1 q1 q2 ev
    go_wp2_with fail
    refine leaves_cons (f := 11) (args := #[.pointer (some ⟨w.heap.size, 0, none⟩), .pointer (some ⟨w.heap.size + 1, 0, none⟩), .pointer (some ⟨w.heap.size + 1 + 1, 0, none⟩)]) (by simp) (by simp [go_sem]) ?_
    refine (catch_idle _ _ _ _).mono ?_
    rintro e u' w2 ⟨rfl, rfl, rfl⟩
    obtain ⟨q1, q2, A1⟩ := HQ.out
    obtain ⟨e0, e1, e2, e3⟩ := A1.1.put (.slice av r'.nds.length cap) (.int .i64 i) (.int .i64 r'.g) (.int .u8 r'.cs)
    have f4 := fr_four w.heap.size (.slice av r'.nds.length cap) (.int .i64 i) (.int .i64 r'.g) (.int .u8 r'.cs) w1
    have o4 : One (w.heap.size + 1) (.int .u16 0) 28 ((((w1.setCell ⟨w.heap.size, 0, none⟩ (.slice av r'.nds.length cap)).setCell ⟨w.heap.size, 1, none⟩ (.int .i64 i)).setCell ⟨w.heap.size, 2, none⟩ (.int .i64 r'.g)).setCell ⟨w.heap.size, 3, none⟩ (.int .u8 r'.cs)) := by
      have l := (Array.getElem?_eq_some_iff.1 A1.2.1).1
      have := A1.2.1
      unfold One at *; rw [f4.block _ l (by unfold On; omega)]; exact this
    have o5 : One (w.heap.size + 1 + 1) (.int .i64 0) 3 (((((w1.setCell ⟨w.heap.size, 0, none⟩ (.slice av r'.nds.length cap)).setCell ⟨w.heap.size, 1, none⟩ (.int .i64 i)).setCell ⟨w.heap.size, 2, none⟩ (.int .i64 r'.g)).setCell ⟨w.heap.size, 3, none⟩ (.int .u8 r'.cs)).setCell ⟨w.heap.size + 1, 0, none⟩ (.int .u16 0)) := by
      have l := (Array.getElem?_eq_some_iff.1 A1.2.2).1
      have := A1.2.2
      have s4 := f4.size
      unfold One at *; rw [heap_setCell_other (by omega), f4.block _ l (by unfold On; omega)]; exact this
    have e4 : (((((w1.setCell ⟨w.heap.size, 0, none⟩ (.slice av r'.nds.length cap)).setCell ⟨w.heap.size, 1, none⟩ (.int .i64 i)).setCell ⟨w.heap.size, 2, none⟩ (.int .i64 r'.g)).setCell ⟨w.heap.size, 3, none⟩ (.int .u8 r'.cs)).setCell ⟨w.heap.size + 1, 0, none⟩ (.int .u16 0)).cell? ⟨w.heap.size + 1, 0, none⟩ = some (.int .u16 0) := (o4.set _).cell.1
    have e5 : ((((((w1.setCell ⟨w.heap.size, 0, none⟩ (.slice av r'.nds.length cap)).setCell ⟨w.heap.size, 1, none⟩ (.int .i64 i)).setCell ⟨w.heap.size, 2, none⟩ (.int .i64 r'.g)).setCell ⟨w.heap.size, 3, none⟩ (.int .u8 r'.cs)).setCell ⟨w.heap.size + 1, 0, none⟩ (.int .u16 0)).setCell ⟨w.heap.size + 1 + 1, 0, none⟩ (.int .i64 0)).cell? ⟨w.heap.size + 1 + 1, 0, none⟩ = some (.int .i64 0) := (o5.set _).cell.1
    clear f4 o4 o5
    have HF : Hid (Fr (On3 w.heap.size (w.heap.size + 1) (w.heap.size + 1 + 1)) w1 ((((((w1.setCell ⟨w.heap.size, 0, none⟩ (.slice av r'.nds.length cap)).setCell ⟨w.heap.size, 1, none⟩ (.int .i64 i)).setCell ⟨w.heap.size, 2, none⟩ (.int .i64 r'.g)).setCell ⟨w.heap.size, 3, none⟩ (.int .u8 r'.cs)).setCell ⟨w.heap.size + 1, 0, none⟩ (.int .u16 0)).setCell ⟨w.heap.size + 1 + 1, 0, none⟩ (.int .i64 0))) :=
      (((((Fr.setCell (.inl rfl) _).trans (Fr.setCell (.inl rfl) _)).trans (Fr.setCell (.inl rfl) _)).trans (Fr.setCell (.inl rfl) _)).trans (Fr.setCell (.inr (.inl rfl)) _)).trans (Fr.setCell (.inr (.inr rfl)) _)
    clear y0 y1 y2 y3 y4 y5 g0 g1 g2 g3 g4 g5
    simp [Leaves, settle, results, Tryz.results8, go_sem, e0, e1, e2, e3, e4, e5]
    have hs3 : (w3 w).heap.size = w.heap.size + 1 + 1 + 1 := by unfold w3; simp only [alloc_size]
    have hne : ∀ j, On3 w.heap.size (w.heap.size + 1) (w.heap.size + 1 + 1) j → (j ≠ rb ∧ vn1.ownBlock ≠ some j) ∧ ¬ vn1.kb j := fun j hj => by
      have hj1 : w.heap.size ≤ j ∧ j < (w3 w).heap.size := by
        rw [hs3]
        rcases hj with z | z | z <;> omega
      have hn := HR.out.new hj1.1
      refine ⟨⟨hn.1.1, fun z => ?_⟩, fun z => ?_⟩
      · rcases q2.own with y | y
        · rw [y] at z; exact hn.1.2 z
        · have := y j z; omega
      · rcases q2.kbs j hj1.2 z with y | y
        · exact hn.2 y
        · cases y
    have a := (Adv.kp vn rb (w3_kp w)).trans q2
    refine ⟨vn1, by rw [HV.out], q1.off hne HF.out, ⟨a.fr.trans' HF.out fun k hk z => by rcases z with z | z | z <;> omega, a.own, a.kbs⟩⟩
end
end Go.Proofs.YtpahpnajeliodaaGreatDoor
/- Parse. -/
namespace Go.Proofs.YtpahpnajeliodaaGreatDoor
open Go.ChangeShapes Go.WideShapes Go.ChangeAt Go.RowKit
set_option linter.unusedVariables false
set_option linter.unusedSimpArgs false
section
variable {B rb : Nat} {s last : ByteArray} {r : RS} {vn : Qv} {w w1 : World} {m : Int}
/-- The pattern in memory, or why not. -/
def parF (s last : ByteArray) : Except (Nat × Nat) (Nat × RS) := if 300 < s.size ∨ 1000 < last.size then .error (33, 0) else patF s last rs0
def RetA (w : World) (R : Except (Nat × Nat) (Nat × RS)) (e : Ending) (w' : World) : Prop :=
  match R with
  | .ok (i, r') => ∃ v, e = .returned (.tuple #[.agg #[v, .int .i64 i, .int .i64 r'.g, .int .u8 r'.cs], .int .u16 0, .int .i64 0]) ∧ Pt w' v (r'.nds.map Nd.q) ∧ Kp w w'
  | .error (n, p) => e = .returned (.tuple #[.agg #[.slice none 0 0, .int .i64 0, .int .i64 0, .int .u8 0], .int .u16 n, .int .i64 p]) ∧ Kp w w'
set_option maxHeartbeats 4000000 in
set_option maxRecDepth 100000 in
theorem parse_any (s last : ByteArray) (h3 : 3 < w.heap.size) (hm : w.cell? ⟨3, 0, none⟩ = some (.int .i64 m)) :
    Calls Tryz.prog 5 #[.string s, .string last] w (RetA w (parF s last)) := by
  unfold parF
  by_cases h1 : 300 < s.size
  · rw [if_pos (.inl h1)]
    have d1 : decide ((300 : Int) < (s.size : Int)) = true := decide_eq_true (by omega)
    clear hm
    go_enter Tryz.func5, Tryz.ntmps5
    go_wp2_with fail
    refine bodyPost_ret (v := .tuple #[.agg #[.slice none 0 0, .int .i64 0, .int .i64 0, .int .u8 0], .int .u16 33, .int .i64 0]) ?_ rfl ⟨rfl, ?_⟩
    · simp [results, Tryz.results5, go_sem]
    · exact kp_alloc _ _
  by_cases h2 : 1000 < last.size
  · rw [if_pos (.inr h2)]
    have d1 : decide ((300 : Int) < (s.size : Int)) = false := decide_eq_false (by omega)
    have d2 : decide ((1000 : Int) < (last.size : Int)) = true := decide_eq_true (by omega)
    clear hm
    go_enter Tryz.func5, Tryz.ntmps5
    go_wp2_with fail
    refine bodyPost_ret (v := .tuple #[.agg #[.slice none 0 0, .int .i64 0, .int .i64 0, .int .u8 0], .int .u16 33, .int .i64 0]) ?_ rfl ⟨rfl, ?_⟩
    · simp [results, Tryz.results5, go_sem]
    · exact kp_alloc _ _
  rw [if_neg (by omega)]
  have d1 : decide ((300 : Int) < (s.size : Int)) = false := decide_eq_false (by omega)
  have d2 : decide ((1000 : Int) < (last.size : Int)) = false := decide_eq_false (by omega)
  have HM : Hid (w.cell? ⟨3, 0, none⟩ = some (.int .i64 m) ∧ 3 < w.heap.size ∧ s.size ≤ 400 ∧ last.size ≤ 1100) := ⟨hm, h3, by omega, by omega⟩
  obtain ⟨R, hR⟩ : ∃ R, patF s last rs0 = R := ⟨_, rfl⟩
  rw [hR]
  have HPF : Hid (patF s last rs0 = R) := hR
  clear hm hR
  go_enter Tryz.func5, Tryz.ntmps5
  go_wp2_with fail
  refine Calls.mono (newReader_any s last _) ?_
  rintro e w1 ⟨rb, rfl, q1, q2, q3⟩
  have k1 : Kp w w1 := kp_trans (kp_alloc w _) q2
  have hB : w.heap.size + 1 ≤ (w.alloc (.cells #[.slice none 0 0, .int .i64 0, .int .i64 0, .int .u8 0] 26)).heap.size := by rw [alloc_size]; exact Nat.le_refl _
  have HR : Hid (Rr (w.heap.size + 1) rb s last rs0 ⟨.slice none 0 0, fun _ => False⟩ w1) := q3 _ hB
  have HX : Hid (PatBox w.heap.size (.slice none 0 0) 0 0 0 w1 ∧ Kp w w1) := by
    refine ⟨?_, k1⟩
    unfold PatBox
    rw [q2.block _ (by rw [alloc_size]; omega)]; exact alloc_new w _
  have HC : Hid (Calls Tryz.prog 8 #[.pointer (some ⟨rb, 0, none⟩)] w1 (RetR (w.heap.size + 1) rb s last ⟨.slice none 0 0, fun _ => False⟩ w1 (patF s last rs0))) := read_any HM.out.2.2.1 HM.out.2.2.2 (by have := HM.out.2.1; omega) (rs0_gd s) HR.out (kp_cell k1 HM.out.1)
  rw [HPF.out] at HC
  clear q1 q2 q3 k1 hB
  clear HPF
  cases R with
  | error x =>
    obtain ⟨n, a⟩ := x
    go_wp2_with fail
    refine Calls.mono HC.out ?_
    rintro e w2 ⟨rfl, q⟩
    have hge : w.heap.size + 1 ≤ rb := by obtain ⟨ns, z⟩ := HR.out; exact z.ge
    have hfar : ¬ Rb rb ⟨.slice none 0 0, fun _ => False⟩ w.heap.size := fun z => by
      rcases z with z | z
      · omega
      · cases z
    have hPB : PatBox w.heap.size (.slice none 0 0) 0 0 0 w2 := by
      have l := (Array.getElem?_eq_some_iff.1 HX.out.1).1
      have := HX.out.1
      unfold PatBox at *; rw [q.block _ l hfar]; exact this
    have hK : Kp w w2 := ((Fr.of_below (S := fun k => w.heap.size ≤ k) HX.out.2).trans' q fun k hk z => by
      rcases z with z | z
      · omega
      · cases z).below (Nat.le_refl _) fun k hk => by omega
    obtain ⟨y0, y1, y2, y3⟩ := hPB.cells
    have g0 := hPB.fz 0
    have g1 := hPB.fz 1
    have g2 := hPB.fz 2
    have g3 := hPB.fz 3
    have HZ : Hid (PatBox w.heap.size (.slice none 0 0) 0 0 0 w2 ∧ Kp w w2) := ⟨hPB, hK⟩
    clear hPB hK hfar hge
    clear q
    go_wp2_with fail
    obtain ⟨e0, e1, e2, e3⟩ := HZ.out.1.put (.slice none 0 0) (.int .i64 0) (.int .i64 0) (.int .u8 0)
    have HF := fr_four w.heap.size (.slice none 0 0) (.int .i64 0) (.int .i64 0) (.int .u8 0) w2
    have HKp : Hid (Kp w ((((w2.setCell ⟨w.heap.size, 0, none⟩ (.slice none 0 0)).setCell ⟨w.heap.size, 1, none⟩ (.int .i64 0)).setCell ⟨w.heap.size, 2, none⟩ (.int .i64 0)).setCell ⟨w.heap.size, 3, none⟩ (.int .u8 0))) := kp_new HZ.out.2 HF (Nat.le_refl _)
    clear HF y0 y1 y2 y3 g0 g1 g2 g3
    refine bodyPost_ret (v := .tuple #[.agg #[.slice none 0 0, .int .i64 0, .int .i64 0, .int .u8 0], .int .u16 n, .int .i64 a]) ?_ rfl ⟨rfl, HKp.out⟩
    · simp [results, Tryz.results5, go_sem] at e0 e1 e2 e3 ⊢
      simp [e0, e1, e2, e3, go_sem]
  | ok x =>
    obtain ⟨i, r'⟩ := x
    go_wp2_with fail
    refine Calls.mono HC.out ?_
    rintro e w2 ⟨vn', rfl, q1, q2⟩
    obtain ⟨av, cap, ev, _, _⟩ := q1.form
    have hpt := q1.pt
    rw [ev] at hpt
    rw [ev]
    have hnw : (w.heap.size ≠ rb ∧ vn'.ownBlock ≠ some w.heap.size) ∧ ¬ vn'.kb w.heap.size := by
      have hge : w.heap.size + 1 ≤ rb := by obtain ⟨ns, z⟩ := HR.out; exact z.ge
      have lw : w.heap.size < w1.heap.size := (Array.getElem?_eq_some_iff.1 HX.out.1).1
      refine ⟨⟨by omega, fun z => ?_⟩, fun z => ?_⟩
      · rcases q2.own with y | y
        · rw [y] at z; cases z
        · have := y _ z; omega
      · rcases q2.kbs _ lw z with y | y
        · exact y
        · cases y
    have HPT : Hid (Rr (w.heap.size + 1) rb s last r' vn' w2 ∧ vn'.v = .slice av r'.nds.length cap ∧ ((w.heap.size ≠ rb ∧ vn'.ownBlock ≠ some w.heap.size) ∧ ¬ vn'.kb w.heap.size)) := ⟨q1, ev, hnw⟩
    have hge : w.heap.size + 1 ≤ rb := by obtain ⟨ns, z⟩ := HR.out; exact z.ge
    have hfar : ¬ Rb rb ⟨.slice none 0 0, fun _ => False⟩ w.heap.size := fun z => by
      rcases z with z | z
      · omega
      · cases z
    have hPB : PatBox w.heap.size (.slice none 0 0) 0 0 0 w2 := by
      have l := (Array.getElem?_eq_some_iff.1 HX.out.1).1
      have := HX.out.1
      unfold PatBox at *; rw [q2.fr.block _ l hfar]; exact this
    have hK : Kp w w2 := ((Fr.of_below (S := fun k => w.heap.size ≤ k) HX.out.2).trans' q2.fr fun k hk z => by
      rcases z with z | z
      · omega
      · cases z).below (Nat.le_refl _) fun k hk => by omega
    obtain ⟨y0, y1, y2, y3⟩ := hPB.cells
    have g0 := hPB.fz 0
    have g1 := hPB.fz 1
    have g2 := hPB.fz 2
    have g3 := hPB.fz 3
    have HZ : Hid (PatBox w.heap.size (.slice none 0 0) 0 0 0 w2 ∧ Kp w w2) := ⟨hPB, hK⟩
    clear hPB hK hfar hge
    clear q1 q2 hpt hnw ev
    go_wp2_with fail
    obtain ⟨e0, e1, e2, e3⟩ := HZ.out.1.put (.slice av r'.nds.length cap) (.int .i64 i) (.int .i64 r'.g) (.int .u8 r'.cs)
    have HF := fr_four w.heap.size (.slice av r'.nds.length cap) (.int .i64 i) (.int .i64 r'.g) (.int .u8 r'.cs) w2
    have HKp : Hid (Kp w ((((w2.setCell ⟨w.heap.size, 0, none⟩ (.slice av r'.nds.length cap)).setCell ⟨w.heap.size, 1, none⟩ (.int .i64 i)).setCell ⟨w.heap.size, 2, none⟩ (.int .i64 r'.g)).setCell ⟨w.heap.size, 3, none⟩ (.int .u8 r'.cs))) := kp_new HZ.out.2 HF (Nat.le_refl _)
    clear HF y0 y1 y2 y3 g0 g1 g2 g3
    refine bodyPost_ret (v := .tuple #[.agg #[.slice av r'.nds.length cap, .int .i64 i, .int .i64 r'.g, .int .u8 r'.cs], .int .u16 0, .int .i64 0]) ?_ rfl ⟨_, rfl, ?_, HKp.out⟩
    · simp [results, Tryz.results5, go_sem] at e0 e1 e2 e3 ⊢
      simp [e0, e1, e2, e3, go_sem]
    · have f := fr_four w.heap.size (.slice av r'.nds.length cap) (.int .i64 i) (.int .i64 r'.g) (.int .u8 r'.cs) w2
      have := (HPT.out.1.off (P := On w.heap.size) (fun j hj => by unfold On at hj; subst hj; exact HPT.out.2.2) f).pt
      rw [HPT.out.2.1] at this
      exact this
end
end Go.Proofs.YtpahpnajeliodaaGreatDoor
/- What is kept of the nodes while a pattern is read: they are trees. -/
namespace Go.Proofs.YtpahpnajeliodaaGreatDoor
set_option linter.unusedVariables false
set_option linter.unusedSimpArgs false
def seqSz (T : Nat → PT) (ks : List Nat) : Nat := (ks.map fun k => (T k).size + 1).sum
/-- A piece that may be repeated: a row is of bytes. -/
def Pcr (nds : List Nd) (p : Nat) : Prop := ∀ d, nds[p]? = some d → d.op = 5 → ∀ x ∈ d.kids, ∃ e, nds[x]? = some e ∧ e.op = 2
def opA (nds : List Nd) (p : Nat) : Nat := ((nds[p]?).map (·.op)).getD 0
/-- What a node's word asks of its kids. -/
def Shp (nds : List Nd) (d : Nd) : Prop :=
  (leafB d.op = true ∧ d.kids = []) ∨ ((d.op = 5 ∨ d.op = 6) ∧ 2 ≤ d.kids.length) ∨ (d.op = 9 ∧ d.kids = []) ∨ (d.op = 8 ∧ ∃ x, d.kids = [x]) ∨
  (d.op = 7 ∧ ∃ x, d.kids = [x] ∧ (0 ≤ d.mn ∧ d.mn ≤ 60 ∧ (d.mx < 0 ∨ (d.mn ≤ d.mx ∧ d.mx ≤ 60))) ∧ repB (opA nds x) = true ∧ Pcr nds x)
structure Wf (r : RS) (A : List Nat) : Prop where
  kl : ∀ (k : Nat) (d : Nd), r.nds[k]? = some d → ∀ x ∈ d.kids, x < k
  kn : ∀ (k : Nat) (d : Nd), r.nds[k]? = some d → d.kids.Nodup
  sh : ∀ (k : Nat) (d : Nd), r.nds[k]? = some d → Shp r.nds d
  own : ∀ (k1 k2 : Nat) (d1 d2 : Nd) (x : Nat), r.nds[k1]? = some d1 → r.nds[k2]? = some d2 → x ∈ d1.kids → x ∈ d2.kids → k1 = k2
  rn : A.Nodup
  fr : ∀ x ∈ A, ∀ (k : Nat) (d : Nd), r.nds[k]? = some d → x ∉ d.kids
  lt : ∀ x ∈ A, x < r.nds.length
  cl : ∀ j, r.cl.getD j false = true → 1 ≤ j ∧ j ≤ r.g
  g : r.g ≤ 9
  ns : ∀ (k : Nat) (d : Nd), r.nds[k]? = some d → (d.op = 8 ∨ d.op = 9) → 1 ≤ d.n ∧ d.n ≤ r.g
  tr : ∃ T : Nat → PT, (∀ k, k < r.nds.length → (T k).gd ∧ ∀ n, k < n → toT (r.nds.map Nd.q) n (k : Int) = some (T k)) ∧ seqSz T A ≤ 3 * r.nds.length
theorem Pcr.ext {nds e : List Nd} {p : Nat} (h : Pcr nds p) (hp : p < nds.length) : Pcr (nds ++ e) p := by
  intro d hd h5 x hx
  rw [List.getElem?_append_left hp] at hd
  obtain ⟨y, h1, h2⟩ := h d hd h5 x hx
  exact ⟨y, by rw [List.getElem?_append_left (List.getElem?_eq_some_iff.1 h1).1]; exact h1, h2⟩
theorem opA_ext {nds e : List Nd} {p : Nat} (hp : p < nds.length) : opA (nds ++ e) p = opA nds p := by unfold opA; rw [List.getElem?_append_left hp]
theorem Shp.ext {nds e : List Nd} {d : Nd} (h : Shp nds d) (hk : ∀ x ∈ d.kids, x < nds.length) : Shp (nds ++ e) d := by
  rcases h with h | h | h | h | ⟨h0, x, hx, h1, h2, h3⟩
  · exact .inl h
  · exact .inr (.inl h)
  · exact .inr (.inr (.inl h))
  · exact .inr (.inr (.inr (.inl h)))
  · have hl := hk x (by rw [hx]; simp)
    exact .inr (.inr (.inr (.inr ⟨h0, x, hx, h1, by rw [opA_ext hl]; exact h2, h3.ext hl⟩)))
theorem mapT_mono {f g : Int → Option PT} : ∀ (ks : List Int) (ts : List PT), (∀ k ∈ ks, ∀ t, f k = some t → g k = some t) → mapT f ks = some ts → mapT g ks = some ts
  | [], ts, _, h => h
  | k :: ks, ts, q, h => by
    rw [mapT] at h ⊢
    cases h1 : f k with
    | none => rw [h1] at h; cases h
    | some t =>
      rw [h1, Option.bind_some] at h
      rw [q k (by simp) t h1, Option.bind_some]
      cases h2 : mapT f ks with
      | none => rw [h2] at h; cases h
      | some us => rw [h2] at h; rw [mapT_mono ks us (fun x hx => q x (by simp [hx])) h2]; exact h
theorem toT_ext {L e : List Nq} : ∀ (n : Nat) (a : Int) (t : PT), toT L n a = some t → toT (L ++ e) n a = some t
  | 0, a, t, h => by cases h
  | n + 1, a, t, h => by
    rw [toT] at h ⊢
    by_cases hh : hasB L a = true
    · rw [if_pos hh] at h
      have hb : 0 ≤ a ∧ a < (L.length : Int) := of_decide_eq_true hh
      have hh2 : hasB (L ++ e) a = true := decide_eq_true ⟨hb.1, by rw [List.length_append]; omega⟩
      have hn : nodeAt (L ++ e) a = nodeAt L a := by unfold nodeAt; rw [List.getElem?_append_left (by omega)]
      rw [if_pos hh2, hn]
      simp only at h ⊢
      have hm : ∀ ts ks, mapT (toT L n) ks = some ts → mapT (toT (L ++ e) n) ks = some ts := fun ts ks => mapT_mono ks ts fun k _ t ht => toT_ext n k t ht
      have ho : ∀ (f : List PT → PT) ks, (mapT (toT L n) ks).map f = some t → (mapT (toT (L ++ e) n) ks).map f = some t := fun f ks h => by
        obtain ⟨ts, h1, h2⟩ := Option.map_eq_some_iff.1 h
        rw [hm ts ks h1]; simp [h2]
      have hs : ∀ (f : PT → PT) k, (toT L n k).map f = some t → (toT (L ++ e) n k).map f = some t := fun f k h => by
        obtain ⟨u, h1, h2⟩ := Option.map_eq_some_iff.1 h
        rw [toT_ext n k u h1]; simp [h2]
      split at h
      · rename_i h5
        rw [if_pos h5]
        split at h
        · rename_i h6; rw [if_pos h6]; exact ho _ _ h
        · cases h
      rename_i h5
      rw [if_neg h5]
      split at h
      · rename_i h6; rw [if_pos h6]; exact h
      rename_i h6
      rw [if_neg h6]
      split at h
      · rename_i h7
        rw [if_pos h7]
        split at h
        · rename_i h8; rw [if_pos h8]; exact ho _ _ h
        · cases h
      rename_i h7
      rw [if_neg h7]
      split at h
      · rename_i h8
        rw [if_pos h8]
        split at h
        · rename_i h9; rw [if_pos h9]; exact hs _ _ h
        · cases h
      rename_i h8
      rw [if_neg h8]
      split at h
      · rename_i h9
        rw [if_pos h9]
        split at h
        · rename_i h10; rw [if_pos h10]; exact hs _ _ h
        · cases h
      rename_i h9
      rw [if_neg h9]
      exact h
    · rw [if_neg hh] at h; cases h
theorem mapT_nat {f : Int → Option PT} {T : Nat → PT} : ∀ (ks : List Nat), (∀ k ∈ ks, f (k : Int) = some (T k)) → mapT f (ks.map fun (k : Nat) => (k : Int)) = some (ks.map T)
  | [], _ => rfl
  | k :: ks, q => by
    rw [List.map_cons, mapT, q k (by simp), mapT_nat ks (fun x hx => q x (by simp [hx]))]
    rfl
theorem seq_size (T : Nat → PT) : ∀ ks : List Nat, (seqOf (ks.map T)).size = seqSz T ks + 1
  | [] => rfl
  | k :: ks => by
    have := seq_size T ks
    simp only [List.map_cons, seqOf, PT.size, seqSz, List.sum_cons] at this ⊢
    omega
theorem alt_size (T : Nat → PT) : ∀ ks : List Nat, (altOf (ks.map T)).size ≤ seqSz T ks + 1
  | [] => by simp [altOf, PT.size]
  | [k] => by simp [altOf, seqSz]; omega
  | k :: l :: ks => by
    have := alt_size T (l :: ks)
    simp only [List.map_cons, altOf, PT.size, seqSz, List.sum_cons] at this ⊢
    omega
theorem seq_gd (T : Nat → PT) : ∀ ks : List Nat, (∀ k ∈ ks, (T k).gd) → (seqOf (ks.map T)).gd
  | [], _ => trivial
  | k :: ks, h => ⟨h k (by simp), seq_gd T ks fun x hx => h x (by simp [hx])⟩
theorem alt_gd (T : Nat → PT) : ∀ ks : List Nat, (∀ k ∈ ks, (T k).gd) → (altOf (ks.map T)).gd
  | [], _ => trivial
  | [k], h => h k (by simp)
  | k :: l :: ks, h => ⟨h k (by simp), alt_gd T (l :: ks) fun x hx => h x (by simp [hx])⟩
end Go.Proofs.YtpahpnajeliodaaGreatDoor
/- One node more. -/
namespace Go.Proofs.YtpahpnajeliodaaGreatDoor
set_option linter.unusedVariables false
set_option linter.unusedSimpArgs false
theorem tree_new {nds : List Nd} {d : Nd} {T : Nat → PT} {g : Nat} (hg : g ≤ 9) (hT : ∀ k, k < nds.length → (T k).gd ∧ ∀ n, k < n → toT (nds.map Nd.q) n (k : Int) = some (T k)) (hk : ∀ x ∈ d.kids, x < nds.length) (hs : Shp nds d) (hn : (d.op = 8 ∨ d.op = 9) → 1 ≤ d.n ∧ d.n ≤ g) :
    ∃ t : PT, t.gd ∧ t.size ≤ seqSz T d.kids + 1 ∧ ∀ n, nds.length < n → toT ((nds ++ [d]).map Nd.q) n (nds.length : Int) = some t := by
  have hh : hasB ((nds ++ [d]).map Nd.q) (nds.length : Int) = true := decide_eq_true ⟨by omega, by simp; omega⟩
  have hnode : nodeAt ((nds ++ [d]).map Nd.q) (nds.length : Int) = d.q := by unfold nodeAt; simp
  have hone : ∀ m k, k ∈ d.kids → nds.length ≤ m → toT ((nds ++ [d]).map Nd.q) m (k : Int) = some (T k) := fun m k hkk hm => by
    have := hk k hkk
    rw [List.map_append]
    exact toT_ext _ _ _ ((hT k this).2 m (by omega))
  have hall : ∀ m, nds.length ≤ m → mapT (toT ((nds ++ [d]).map Nd.q) m) d.q.kids = some (d.kids.map T) := fun m hm => mapT_nat d.kids fun k hkk => hone m k hkk hm
  have hgd : ∀ k ∈ d.kids, (T k).gd := fun k hkk => (hT k (hk k hkk)).1
  have hlen : d.q.kids.length = d.kids.length := by simp [Nd.q]
  have start : ∀ t : PT, t.gd → t.size ≤ seqSz T d.kids + 1 → (∀ m, nds.length ≤ m → (if d.q.op = 5 then if 1 ≤ d.q.kids.length then (mapT (toT ((nds ++ [d]).map Nd.q) m) d.q.kids).map seqOf else none
      else if d.q.op = 1 then some .empty
      else if d.q.op = 6 then if 1 ≤ d.q.kids.length then (mapT (toT ((nds ++ [d]).map Nd.q) m) d.q.kids).map altOf else none
      else if d.q.op = 7 then if d.q.kids.length = 1 ∧ 0 ≤ d.q.mn ∧ d.q.mn ≤ 60 ∧ d.q.mx ≤ 60 ∧ (d.q.mx < 0 ∨ d.q.mn ≤ d.q.mx) then (toT ((nds ++ [d]).map Nd.q) m (d.q.kids.headD 0)).map (.many d.q.mn.toNat (if d.q.mx < 0 then none else some d.q.mx.toNat) d.q.lz) else none
      else if d.q.op = 8 then if d.q.kids.length = 1 ∧ 0 ≤ d.q.n ∧ d.q.n ≤ 9 then (toT ((nds ++ [d]).map Nd.q) m (d.q.kids.headD 0)).map (.group d.q.n) else none
      else some (.leaf (leafI d.q))) = some t) → ∃ t : PT, t.gd ∧ t.size ≤ seqSz T d.kids + 1 ∧ ∀ n, nds.length < n → toT ((nds ++ [d]).map Nd.q) n (nds.length : Int) = some t := fun t h1 h2 h3 =>
    ⟨t, h1, h2, fun n hn => by
      obtain ⟨m, rfl⟩ : ∃ m, n = m + 1 := ⟨n - 1, by omega⟩
      rw [toT, if_pos hh, hnode]
      exact h3 m (by omega)⟩
  have eop : d.q.op = d.op := rfl
  rcases hs with ⟨hl, hk0⟩ | ⟨ho, h2⟩ | ⟨ho, hk0⟩ | ⟨ho, x, hx⟩ | ⟨ho, x, hx, hb, _, _⟩
  · by_cases h1 : d.op = 1
    · exact start .empty trivial (by simp [PT.size]) fun m hm => by rw [eop, if_neg (by omega), if_pos h1]
    · have hor : d.op = 2 ∨ d.op = 3 ∨ d.op = 4 ∨ d.op = 10 ∨ d.op = 11 ∨ d.op = 12 ∨ d.op = 13 ∨ d.op = 14 ∨ d.op = 15 := by unfold leafB at hl; simp at hl; omega
      refine start (.leaf (leafI d.q)) ?_ (by simp [PT.size]) fun m hm => by rw [eop, if_neg (by omega), if_neg h1, if_neg (by omega), if_neg (by omega), if_neg (by omega)]
      show leafK (leafI d.q)
      unfold leafI leafK
      rw [eop]
      rcases hor with h | h | h | h | h | h | h | h | h <;> simp [h]
  · rcases ho with ho | ho
    · exact start (seqOf (d.kids.map T)) (seq_gd T _ hgd) (by rw [seq_size]; exact Nat.le_refl _) fun m hm => by rw [eop, if_pos ho, if_pos (by rw [hlen]; omega), hall m hm]; rfl
    · exact start (altOf (d.kids.map T)) (alt_gd T _ hgd) (alt_size T _) fun m hm => by rw [eop, if_neg (by omega), if_neg (by omega), if_pos ho, if_pos (by rw [hlen]; omega), hall m hm]; rfl
  · have hnn := hn (.inr ho)
    refine start (.leaf (leafI d.q)) ?_ (by simp [PT.size]) fun m hm => by rw [eop, if_neg (by omega), if_neg (by omega), if_neg (by omega), if_neg (by omega), if_neg (by omega)]
    show leafK (leafI d.q)
    unfold leafI leafK
    rw [eop]
    have e : d.q.n = (d.n : Int) := rfl
    simp [ho, e]
    omega
  · have hnn := hn (.inl ho)
    have e : d.q.n = (d.n : Int) := rfl
    have eh : d.q.kids.headD 0 = (x : Int) := by simp [Nd.q, hx]
    have hxm : x ∈ d.kids := by rw [hx]; simp
    refine start (.group d.n (T x)) ⟨by omega, hgd x hxm⟩ (by simp [PT.size, seqSz, hx]) fun m hm => ?_
    rw [eop, if_neg (by omega), if_neg (by omega), if_neg (by omega), if_neg (by omega), if_pos ho, if_pos ⟨by rw [hlen, hx]; rfl, by omega, by omega⟩, eh, hone m x hxm hm, e]
    rfl
  · have eh : d.q.kids.headD 0 = (x : Int) := by simp [Nd.q, hx]
    have hxm : x ∈ d.kids := by rw [hx]; simp
    have e1 : d.q.mn = d.mn := rfl
    have e2 : d.q.mx = d.mx := rfl
    refine start (.many d.q.mn.toNat (if d.q.mx < 0 then none else some d.q.mx.toNat) d.q.lz (T x)) (hgd x hxm) (by simp [PT.size, seqSz, hx]) fun m hm => ?_
    rw [eop, if_neg (by omega), if_neg (by omega), if_neg (by omega), if_pos ho, if_pos ⟨by rw [hlen, hx]; rfl, by omega, by omega, by omega, by omega⟩, eh, hone m x hxm hm]
    rfl
theorem seqSz_append (T : Nat → PT) (a b : List Nat) : seqSz T (a ++ b) = seqSz T a + seqSz T b := by simp [seqSz]
theorem seqSz_congr {T U : Nat → PT} {a : List Nat} (h : ∀ k ∈ a, T k = U k) : seqSz T a = seqSz U a := by
  unfold seqSz
  congr 1
  exact List.map_congr_left fun k hk => by rw [h k hk]
theorem get_snoc {nds : List Nd} {d e : Nd} {k : Nat} (h : (nds ++ [d])[k]? = some e) : (k < nds.length ∧ nds[k]? = some e) ∨ (k = nds.length ∧ e = d) := by
  by_cases hk : k < nds.length
  · rw [List.getElem?_append_left hk] at h; exact .inl ⟨hk, h⟩
  · have := (List.getElem?_eq_some_iff.1 h).1
    simp at this
    have e1 : k = nds.length := by omega
    subst e1
    simp at h
    exact .inr ⟨rfl, h.symm⟩
theorem Wf.add {r : RS} {A : List Nat} {d : Nd} (h : Wf r (A ++ d.kids)) (hs : Shp r.nds d) (hn : (d.op = 8 ∨ d.op = 9) → 1 ≤ d.n ∧ d.n ≤ r.g) : Wf (addN d r).2 (A ++ [r.nds.length]) := by
  have hk : ∀ x ∈ d.kids, x < r.nds.length := fun x hx => h.lt x (by simp [hx])
  have hA : ∀ x ∈ A, x < r.nds.length := fun x hx => h.lt x (by simp [hx])
  have hrn := List.nodup_append.1 h.rn
  refine ⟨?_, ?_, ?_, ?_, ?_, ?_, ?_, h.cl, h.g, ?_, ?_⟩
  · intro k e he x hx
    rcases get_snoc he with ⟨h1, h2⟩ | ⟨h1, rfl⟩
    · exact h.kl k e h2 x hx
    · rw [h1]; exact hk x hx
  · intro k e he
    rcases get_snoc he with ⟨h1, h2⟩ | ⟨h1, rfl⟩
    · exact h.kn k e h2
    · exact hrn.2.1
  · intro k e he
    rcases get_snoc he with ⟨h1, h2⟩ | ⟨h1, rfl⟩
    · exact (h.sh k e h2).ext fun x hx => by have := h.kl k e h2 x hx; omega
    · exact hs.ext hk
  · intro k1 k2 d1 d2 x h1 h2 x1 x2
    rcases get_snoc h1 with ⟨a1, b1⟩ | ⟨a1, rfl⟩
    · rcases get_snoc h2 with ⟨a2, b2⟩ | ⟨a2, rfl⟩
      · exact h.own k1 k2 d1 d2 x b1 b2 x1 x2
      · exact absurd x1 (h.fr x (by simp [x2]) k1 d1 b1)
    · rcases get_snoc h2 with ⟨a2, b2⟩ | ⟨a2, rfl⟩
      · exact absurd x2 (h.fr x (by simp [x1]) k2 d2 b2)
      · omega
  · refine List.nodup_append.2 ⟨hrn.1, by simp, fun a ha b hb => ?_⟩
    simp only [List.mem_singleton] at hb
    have := hA a ha
    omega
  · intro x hx k e he hc
    rw [List.mem_append, List.mem_singleton] at hx
    rcases get_snoc he with ⟨h1, h2⟩ | ⟨h1, rfl⟩
    · rcases hx with hx | hx
      · exact h.fr x (by simp [hx]) k e h2 hc
      · have := h.kl k e h2 x hc; omega
    · rcases hx with hx | hx
      · exact hrn.2.2 x hx x hc rfl
      · have := hk x hc; omega
  · intro x hx
    rw [List.mem_append, List.mem_singleton] at hx
    show x < (r.nds ++ [d]).length
    rw [List.length_append]
    rcases hx with hx | hx
    · have := hA x hx; simp; omega
    · simp; omega
  · intro k e he ho
    rcases get_snoc he with ⟨h1, h2⟩ | ⟨h1, rfl⟩
    · exact h.ns k e h2 ho
    · exact hn ho
  · obtain ⟨T, hT, hz⟩ := h.tr
    obtain ⟨t, t1, t2, t3⟩ := tree_new h.g hT hk hs hn
    refine ⟨fun k => if k = r.nds.length then t else T k, fun k hkk => ?_, ?_⟩
    · show _ ∧ ∀ n, k < n → toT ((r.nds ++ [d]).map Nd.q) n (k : Int) = _
      by_cases e : k = r.nds.length
      · subst e
        simp only [if_pos rfl]
        exact ⟨t1, t3⟩
      · simp only [if_neg e]
        have hkk' : k < (r.nds ++ [d]).length := hkk
        rw [List.length_append] at hkk'
        simp at hkk'
        obtain ⟨q1, q2⟩ := hT k (by omega)
        refine ⟨q1, fun n hn => ?_⟩
        rw [List.map_append]
        exact toT_ext _ _ _ (q2 n hn)
    · rw [seqSz_append] at hz ⊢
      have e1 : seqSz (fun k => if k = r.nds.length then t else T k) A = seqSz T A := seqSz_congr fun k hkk => by rw [if_neg (by have := hA k hkk; omega)]
      rw [e1]
      have e2 : seqSz (fun k => if k = r.nds.length then t else T k) [r.nds.length] = t.size + 1 := by simp [seqSz]
      have e3 : (addN d r).2.nds.length = r.nds.length + 1 := by simp [addN]
      rw [e2, e3]
      omega
end Go.Proofs.YtpahpnajeliodaaGreatDoor
/- What is kept from piece to piece. -/
namespace Go.Proofs.YtpahpnajeliodaaGreatDoor
set_option linter.unusedVariables false
set_option linter.unusedSimpArgs false
structure Got (r r' : RS) (A : List Nat) (i : Nat) : Prop where
  wf : Wf r' (A ++ [i])
  g : r.g ≤ r'.g
  pre : ∃ e, r'.nds = r.nds ++ e
def PGot (r r' : RS) (A : List Nat) (i : Nat) : Prop := Got r r' A i ∧ Pcr r'.nds i
section
variable {s last : ByteArray} {r r' : RS} {t : Tok} {i n : Nat} {A ks : List Nat}
theorem Wf.k (h : Wf r A) (k : Nat) (md : ByteArray) (cs : Nat) : Wf { r with k := k, md := md, cs := cs } A := ⟨h.kl, h.kn, h.sh, h.own, h.rn, h.fr, h.lt, h.cl, h.g, h.ns, h.tr⟩
theorem Got.k {k : Nat} {md : ByteArray} {cs : Nat} (h : Got { r with k := k, md := md, cs := cs } r' A i) : Got r r' A i := ⟨h.wf, h.g, h.pre⟩
theorem Got.trans {r1 : RS} {A1 : List Nat} {j : Nat} (hg : r.g ≤ r1.g) (hp : ∃ e, r1.nds = r.nds ++ e) (h : Got r1 r' A i) : Got r r' A i := by
  obtain ⟨e1, h1⟩ := hp
  obtain ⟨e2, h2⟩ := h.pre
  exact ⟨h.wf, Nat.le_trans hg h.g, e1 ++ e2, by rw [h2, h1, List.append_assoc]⟩
theorem Pcr.new {nds : List Nd} {d : Nd} (h : d.op ≠ 5) : Pcr (nds ++ [d]) nds.length := by
  intro e he h5
  simp at he
  subst he
  exact absurd h5 h
theorem pg_leaf {d : Nd} (h : Wf r A) (hk : d.kids = []) (ho : leafB d.op = true) : PGot r (addN d r).2 A (addN d r).1 := by
  have h5 : d.op ≠ 5 := fun e => by rw [e] at ho; cases ho
  refine ⟨⟨Wf.add (d := d) (by rw [hk, List.append_nil]; exact h) (.inl ⟨ho, hk⟩) (fun q => ?_), Nat.le_refl _, [d], rfl⟩, Pcr.new h5⟩
  rcases q with q | q <;> (rw [q] at ho; cases ho)
theorem pg_of {x : Nat × RS} {d : Nd} (e : (.ok (addN d r) : Except (Nat × Nat) (Nat × RS)) = .ok (i, r')) (h : Wf r A) (hk : d.kids = []) (ho : leafB d.op = true) : PGot r r' A i := by
  injection e with e
  have := pg_leaf h hk ho
  rw [e] at this
  exact this
theorem join_got {op : Nat} (hop : op = 5 ∨ op = 6) (h : Wf r (A ++ ks)) : Got r (joinF op ks r).2 A (joinF op ks r).1 := by
  match ks, h with
  | [], h => exact (pg_leaf (d := { op := 1 }) (by rw [List.append_nil] at h; exact h) rfl rfl).1
  | [x], h => exact ⟨h, Nat.le_refl _, [], by simp [joinF]⟩
  | x :: y :: l, h => exact ⟨Wf.add (d := { op := op, kids := x :: y :: l }) h (.inr (.inl ⟨hop, by simp⟩)) (fun q => by simp only at q; omega), Nat.le_refl _, [_], rfl⟩
theorem wf_bytes (h : Wf r A) : ∀ l : List UInt8, Wf { r with nds := r.nds ++ bytesN l } (A ++ (List.range l.length).map (r.nds.length + ·)) := by
  intro l
  have key : ∀ n, n ≤ l.length → Wf { r with nds := r.nds ++ bytesN (l.take n) } (A ++ (List.range n).map (r.nds.length + ·)) := by
    intro n
    induction n with
    | zero => intro _; simp only [List.take_zero, bytesN, List.map_nil, List.append_nil, List.range_zero]; exact h
    | succ n ih =>
      intro hn
      have h1 := ih (by omega)
      have hl : (bytesN (l.take n)).length = n := by simp [bytesN]; omega
      have h2 := Wf.add (r := { r with nds := r.nds ++ bytesN (l.take n) }) (A := A ++ (List.range n).map (r.nds.length + ·)) (d := { op := 2, c := (l[n]'(by omega)).toNat }) (by simpa using h1) (.inl ⟨rfl, rfl⟩) (fun q => by simp at q)
      unfold addN at h2
      simp only [List.length_append, hl] at h2
      rw [List.range_succ, List.map_append, ← List.append_assoc]
      have e : bytesN (l.take (n + 1)) = bytesN (l.take n) ++ [{ op := 2, c := (l[n]'(by omega)).toNat }] := by
        rw [List.take_succ_eq_append_getElem (by omega)]; unfold bytesN; rw [List.map_append]; rfl
      rw [e, ← List.append_assoc]
      exact h2
  have := key l.length (Nat.le_refl _)
  rw [List.take_length] at this
  exact this
theorem again_got (h : Wf r A) : PGot r (againF last r).2 A (againF last r).1 := by
  unfold againF
  split
  · exact pg_leaf h rfl rfl
  · have hb := wf_bytes h last.data.toList
    have hl : last.data.toList.length = last.size := by rw [Array.length_toList]; rfl
    rw [hl] at hb
    have hj := join_got (op := 5) (.inl rfl) hb
    refine ⟨⟨hj.wf, hj.g, ?_⟩, ?_⟩
    · obtain ⟨e, he⟩ := hj.pre
      exact ⟨bytesN last.data.toList ++ e, by rw [he]; simp⟩
    · have hbl : (bytesN last.data.toList).length = last.size := by simp [bytesN]
      have hnode : ∀ j, j < last.size → ∀ e : List Nd, ∃ d, ((r.nds ++ bytesN last.data.toList) ++ e)[r.nds.length + j]? = some d ∧ d.op = 2 := fun j hj e => by
        refine ⟨{ op := 2, c := (last.data.toList[j]'(by rw [hl]; exact hj)).toNat }, ?_, rfl⟩
        rw [List.getElem?_append_left (by rw [List.length_append, hbl]; omega), List.getElem?_append_right (by omega), Nat.add_sub_cancel_left]
        unfold bytesN
        rw [List.getElem?_map, List.getElem?_eq_getElem (by rw [hl]; exact hj)]
        rfl
      unfold joinF
      split
      · exact Pcr.new (by decide)
      · rename_i x hx
        intro d hd h5
        have hx' : x ∈ (List.range last.size).map (r.nds.length + ·) := by rw [hx]; simp
        obtain ⟨j, hj, rfl⟩ := List.mem_map.1 hx'
        rw [List.mem_range] at hj
        obtain ⟨e, h1, h2⟩ := hnode j hj []
        rw [List.append_nil] at h1
        simp only at hd
        rw [h1] at hd
        injection hd with hd
        subst hd
        omega
      · intro d hd h5 x hx
        simp only [addN] at hd ⊢
        simp at hd
        subst hd
        simp only at hx
        obtain ⟨j, hj, rfl⟩ := List.mem_map.1 hx
        rw [List.mem_range] at hj
        exact hnode j hj _
end
end Go.Proofs.YtpahpnajeliodaaGreatDoor
