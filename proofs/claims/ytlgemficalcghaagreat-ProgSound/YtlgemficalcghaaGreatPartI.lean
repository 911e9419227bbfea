/- Texts that the proof of the law stands on: Gw13, Gm1, Gw14, Gw15, Gw16, Kq0, Kq1, Kq2, Eval0, Eval1. -/
import Derived.Test.YtlgemficalcghaaGreatPartH
import Derived.Test.YtlgemficalcghaaGreatPartF
/- The writer's branches. -/
namespace Go.Proofs.YtlgemficalcghaaGreat
open Go.ChangeShapes Go.WideShapes Go.ChangeAt Go.RowKit
set_option linter.unusedVariables false
set_option linter.unusedSimpArgs false
theorem mapT_get {f : Int → Option PT} {ks : List Int} {ts : List PT} (h : mapT f ks = some ts) : ts.length = ks.length ∧ ∀ (i : Nat) (a : Int), ks[i]? = some a → ∃ t, ts[i]? = some t ∧ f a = some t := by
  induction ks generalizing ts with
  | nil =>
    simp only [mapT, Option.some.injEq] at h
    subst h
    exact ⟨rfl, fun i a hi => by simp at hi⟩
  | cons b ks ih =>
    simp only [mapT] at h
    cases hb : f b with
    | none => rw [hb] at h; cases h
    | some t =>
      rw [hb, Option.bind_some] at h
      obtain ⟨us, hu, rfl⟩ := Option.map_eq_some_iff.1 h
      obtain ⟨l, q⟩ := ih hu
      refine ⟨by simp [l], fun i a hi => ?_⟩
      cases i with
      | zero => simp only [List.getElem?_cons_zero, Option.some.injEq] at hi; subst hi; exact ⟨t, rfl, hb⟩
      | succ i => simp only [List.getElem?_cons_succ] at hi; exact q i a hi
theorem gBrG_none {ts : List PT} {i M : Nat} {s : (List Ins × Nat) × List Nat} (h : gBrG (ts.take i) s = none) (hi : i ≤ M) : gBrG (ts.take M) s = none := by
  have : ts.take M = ts.take i ++ (ts.take M).drop i := by
    have := (List.take_append_drop i (ts.take M)).symm
    rw [List.take_take, Nat.min_eq_left hi] at this
    exact this
  rw [this, gBrG_append, h, Option.bind_none]
section
variable {w0 : World} {wb : Nat} {v cv cv1 lv : Value} {L : List Nq} {x : List Ins × Nat} {w w1 w2 : World} {n kc : Nat} {ka : Option Addr} {kids : List Int} {ts : List PT}
theorem Fpush.scl (h : Fpush w0 wb v L x cv lv w w2) {lz : Bool} {p : Nat} {b : Nat × Nat × Nat} (q : SClo w0 wb cv lz p b w) {B k : Nat} {xs : List Value} (hr : w.ownsRow B 1 1 lv k xs) : SClo w0 wb cv lz p b w2 :=
  ⟨q.at_.fr h.fr (row_othr hr q.at_ (by decide)), q.wr.fr h.fr (row_othr hr q.wr (by decide)), q.lz.fr h.fr (row_othr hr q.lz (by decide)), q.off⟩
/-- Ahead of each round of branches. -/
def BrI (w0 : World) (wb : Nat) (v : Value) (L : List Nq) (cv : Value) (w : World) (x : List Ins × Nat) (ts : List PT) (i : Nat) (v4 : Value) (wr : World) : Prop :=
  ∃ s cvc, gBrG (ts.take i) (x, []) = some s ∧ TJ s ∧ Wr w0 wb v L s.1 cvc wr ∧ Adw wb cv w cvc wr ∧ JRow w0 wb cvc v4 s.2 wr ∧ ∀ j, v4.ownBlock = some j → w.heap.size ≤ j
theorem br_get {t : PT} {x y z u : List Ins × Nat} (h1 : runI { op := 4 } x = some y) (h2 : runT t y = some z) (h3 : runI { op := 5 } z = some u) : u.1[x.1.length]? = some { op := 4 } := by
  obtain ⟨_, rfl⟩ := runI_some h1
  obtain rfl := runT_some h2
  obtain ⟨_, rfl⟩ := runI_some h3
  simp
set_option maxHeartbeats 4000000 in
set_option maxRecDepth 100000 in
theorem branches_w (hC : CodeOf w0 wb v L n) (hm : mapT (toT L n) kids = some ts) (hsz : ∀ t ∈ ts, t.size ≤ 1000000) (h1 : 1 ≤ kids.length) (h1b : kids.length ≤ 1000000) (h : Wr w0 wb v L x cv w) (hx : Okx x) (hks : Ks w0 (.slice ka kids.length kc) kids) :
    Calls Tryz.prog 47 #[.pointer (some ⟨wb, 0, none⟩), .slice ka kids.length kc] w (Laid w0 wb v L cv w (gBrF ts x)) := by
  obtain ⟨hlen, hget⟩ := mapT_get hm
  obtain ⟨M, hM⟩ : ∃ M, kids.length = M + 1 := ⟨kids.length - 1, by omega⟩
  obtain ⟨kaz, kc', ke, kl1, kl2, hzz⟩ := id hks
  injection ke with ke1 ke2 ke3
  subst ke3
  clear hzz ke1 ke2
  have HC : Hid (∀ (i : Nat) (a : Int), kids[i]? = some a → ∃ t, ts[i]? = some t ∧ ∀ (x : List Ins × Nat) (cv : Value) (w : World), Wr w0 wb v L x cv w → Okx x → Calls Tryz.prog 31 #[.pointer (some ⟨wb, 0, none⟩), .int .i64 a] w (Laid w0 wb v L cv w (runT t x))) := fun i a hi => by
    obtain ⟨t, q1, q2⟩ := hget i a hi
    exact ⟨t, q1, fun x cv w => hC a t x cv w q2 (hsz t (List.mem_of_getElem? q1))⟩
  have HI : Hid (BrI w0 wb v L cv w x ts 0 (.slice none 0 0) w) :=
    ⟨(x, []), cv, rfl, ⟨hx, List.nodup_nil, fun p hp => (by cases hp)⟩, h, Adw.refl _ _ _, ⟨[], rfl, World.ownsRow_nil _ _ _ _, fun j hj => (by cases hj), fun i p b hp => (by simp at hp)⟩, fun j hj => (by cases hj)⟩
  obtain ⟨X, hX⟩ : ∃ X, gBrF ts x = X := ⟨_, rfl⟩
  have HX : Hid (gBrF ts x = X ∧ ts.length = M + 1 ∧ kids.length = M + 1 ∧ Ks w0 (.slice ka kids.length kc) kids) := ⟨hX, by omega, hM, hks⟩
  have HP : Hid (gBrF ts x = (gBrG (ts.take M) (x, [])).bind fun s => (runT (ts.getLast?.getD .empty) s.1).map fun y => (putJ y.1.length s.2 y.1, y.2)) := by
    show _ = _
    unfold gBrF
    rw [List.dropLast_eq_take, show ts.length - 1 = M by omega]
  rw [hX, hM]
  rw [hM] at kl1
  unfold maxLen at kl2
  have hM60 : M ≤ 1000000 := by omega
  clear h hC hm hX hx hM hlen hget hks hsz h1 h1b
  go_enter Tryz.func47, Tryz.ntmps47
  go_wp2_with fail
  go_loopw [4, 16] (fun v4 v16 wr => ∃ i : Nat, i ≤ M ∧ v16 = .int .i64 i ∧ Hid (BrI w0 wb v L cv w x ts i v4 wr)) (fun _ v16 _ => M - (intOf v16).toNat)
  case atStart => exact ⟨0, Nat.zero_le _, rfl, HI⟩
  case round =>
    obtain ⟨i, hi, rfl, HT⟩ := hrel
    obtain ⟨s, cvc, hg, hti, hw, ha, hjr, hge⟩ := HT.out
    obtain ⟨bs, hb1, hb2, hb3, hb4⟩ := id hjr
    obtain ⟨la, lc, rfl, l1, l2⟩ := owns_form hb2
    obtain ⟨K, hK⟩ : ∃ K, s.2.length = K := ⟨_, rfl⟩
    have hKi : K = i := by have := gBrG_len hg; simp only [List.length_nil, List.length_take] at this; have := HX.out.2.1; omega
    obtain ⟨i9, hi9, z0, z1, z2⟩ := info_parts infoFunc
    have hil : i < kids.length := by have := HX.out.2.2.1; omega
    obtain ⟨kb, ko, a, hka, hai, kd⟩ := (HX.out.2.2.2.kp hw.kp).get hil
    obtain ⟨t, htq, hcd⟩ := HC.out i a hai
    subst hka
    have HAll : Hid (gBrG (ts.take i) (x, []) = some s ∧ TJ s ∧ Wr w0 wb v L s.1 cvc wr ∧ Adw wb cv w cvc wr ∧ JRow w0 wb cvc (.slice la K lc) s.2 wr ∧ (∀ j, (Value.slice la K lc).ownBlock = some j → w.heap.size ≤ j) ∧ s.2.length = K ∧ ts[i]? = some t) := ⟨hg, hti, hw, ha, hK ▸ hjr, hK ▸ hge, hK, htq⟩
    have HCd : Hid (∀ (x : List Ins × Nat) (cv : Value) (w : World), Wr w0 wb v L x cv w → Okx x → Calls Tryz.prog 31 #[.pointer (some ⟨wb, 0, none⟩), .int .i64 a] w (Laid w0 wb v L cv w (runT t x))) := hcd
    rw [hK]
    have hK60 : K ≤ 1000000 := by omega
    clear hg hti hw ha hjr hge hb1 hb2 hb3 hb4 l1 l2 hK bs htq hcd hil hai HT hKi
    by_cases hlt : i < M
    · have dl : decide ((i : Int) < (M : Int)) = true := decide_eq_true (by omega)
      have hnone : gBrS t s = none → X = none := fun q => by
        rw [← HX.out.1, HP.out]
        rw [gBrG_none (i := i + 1) (by rw [List.take_add_one, HAll.out.2.2.2.2.2.2.2]; simp only [Option.toList_some]; rw [gBrG_append, HAll.out.1, Option.bind_some]; simp only [gBrG, q, Option.bind_none]) (by omega)]; rfl
      have HNo : Hid (gBrS t s = none → X = none) := hnone
      clear hnone
      have HSp : Hid _ := split_any HAll.out.2.2.1 HAll.out.2.1.1.1 false
      cases hr1 : runI { op := 4 } s.1 with
      | none =>
        have hX : X = none := HNo.out (by simp only [gBrS, hr1, Option.bind_none])
        subst hX
        rw [hr1] at HSp
        go_wp2_with fail
        refine Calls.mono HSp.out ?_
        rintro e w3 ⟨rfl, f3⟩
        have HF : Hid (Fr (Wb wb cv) w w3) := HAll.out.2.2.2.1.fail f3
        unfold TooLong
        clear f3
        go_wp2_with fail
        exact ⟨rfl, rfl, HF.out⟩
      | some y1 =>
        rw [hr1] at HSp
        have HR1 : Hid (runI { op := 4 } s.1 = some y1) := hr1
        clear hr1
        go_wp2_with fail
        refine Calls.mono HSp.out ?_
        rintro e w1 ⟨b1, b2, b3, cv1, rfl, q1, q2, q3⟩
        have HQ : Hid (Wr w0 wb v L y1 cv1 w1 ∧ Adw wb cv w cv1 w1 ∧ JRow w0 wb cv1 (.slice la K lc) s.2 w1 ∧ SClo w0 wb cv1 false s.1.1.length (b1, b2, b3) w1 ∧ Okx y1) := ⟨q1, HAll.out.2.2.2.1.trans q2, HAll.out.2.2.2.2.1.adv q2, q3, runI_ok HR1.out (by have := HAll.out.2.1.1.2; omega)⟩
        clear q1 q2 q3 HSp kd
        go_wp2_with fail
        cases hr2 : runT t y1 with
        | none =>
          have hX : X = none := HNo.out (by simp only [gBrS, HR1.out, Option.bind_some, hr2, Option.bind_none])
          subst hX
          refine Calls.mono (HCd.out _ _ _ HQ.out.1 HQ.out.2.2.2.2) ?_
          rw [hr2]
          rintro e w3 ⟨rfl, f3⟩
          have HFa : Hid (Fr (Wb wb cv) w w3) := HQ.out.2.1.fail f3
          unfold TooLong
          clear f3
          go_wp2_with fail
          exact ⟨rfl, rfl, HFa.out⟩
        | some y2 =>
          refine Calls.mono (HCd.out _ _ _ HQ.out.1 HQ.out.2.2.2.2) ?_
          rw [hr2]
          rintro e w2 ⟨rfl, cv2, q1, q2⟩
          have HR2 : Hid (runT t y1 = some y2) := hr2
          have HQ2 : Hid (Wr w0 wb v L y2 cv2 w2 ∧ Adw wb cv w cv2 w2 ∧ JRow w0 wb cv2 (.slice la K lc) s.2 w2 ∧ SClo w0 wb cv2 false s.1.1.length (b1, b2, b3) w2 ∧ Okx y2) := ⟨q1, HQ.out.2.1.trans q2, HQ.out.2.2.1.adv q2, HQ.out.2.2.2.1.adv q2, runT_ok hr2 HQ.out.2.2.2.2⟩
          clear q1 q2 hr2
          have HJp : Hid _ := jump_any HQ2.out.1 HQ2.out.2.2.2.2.1
          go_wp2_with fail
          cases hr3 : runI { op := 5 } y2 with
          | none =>
            have hX : X = none := HNo.out (by simp only [gBrS, HR1.out, Option.bind_some, HR2.out, hr3, Option.map_none])
            subst hX
            rw [hr3] at HJp
            refine Calls.mono HJp.out ?_
            rintro e w3 ⟨rfl, f3⟩
            have HFa : Hid (Fr (Wb wb cv) w w3) := HQ2.out.2.1.fail f3
            unfold TooLong
            clear f3
            go_wp2_with fail
            exact ⟨rfl, rfl, HFa.out⟩
          | some y3 =>
            rw [hr3] at HJp
            refine Calls.mono HJp.out ?_
            rintro e w3 ⟨j1, j2, cv3, rfl, q1, q2, q3⟩
            have HR3 : Hid (runI { op := 5 } y2 = some y3) := hr3
            have HQ3 : Hid (Wr w0 wb v L y3 cv3 w3 ∧ Adw wb cv w cv3 w3 ∧ JRow w0 wb cv3 (.slice la K lc) s.2 w3 ∧ SClo w0 wb cv3 false s.1.1.length (b1, b2, b3) w3 ∧ JClo w0 wb cv3 y2.1.length (j1, j2) w3 ∧ Okx y3) := ⟨q1, HQ2.out.2.1.trans q2, HQ2.out.2.2.1.adv q2, HQ2.out.2.2.2.1.adv q2, q3, runI_ok hr3 (by have := HQ2.out.2.2.2.2.2; omega)⟩
            clear q1 q2 q3 hr3 HJp HQ HQ2
            obtain ⟨bs, hb1, hb2, hb3, hb4⟩ := HQ3.out.2.2.1
            rw [HAll.out.2.2.2.2.2.2.1] at hb2
            have HOW : Hid ((w3.alloc (.cells #[jclo (j1, j2)] 1)).ownsRow w0.heap.size 1 1 (.slice la K lc) K (bs.map jclo)) := row_kp hb2 (kp_alloc _ _)
            have HBW : Hid (w0.heap.size ≤ (w3.alloc (.cells #[jclo (j1, j2)] 1)).heap.size) := by
              have := HQ3.out.1.kp.size
              show w0.heap.size ≤ _
              rw [alloc_size]; omega
            have HG : Hid (∀ g cp w4, w4.ownsRow w0.heap.size 1 1 (.slice (some ⟨g, 0, none⟩) (K + 1) cp) (K + 1) (bs.map jclo ++ [jclo (j1, j2)]) → (w3.alloc (.cells #[jclo (j1, j2)] 1)).grownBy w4 (Value.slice la K lc).ownBlock → ((Value.slice la K lc).ownBlock = some g ∨ g = w3.heap.size + 1) →
                Hid (Wr w0 wb v L y3 cv3 w4 ∧ Adw wb cv w cv3 w4 ∧ JRow w0 wb cv3 (.slice (some ⟨g, 0, none⟩) (K + 1) cp) (s.2 ++ [y2.1.length]) w4 ∧ SClo w0 wb cv3 false s.1.1.length (b1, b2, b3) w4 ∧ ∀ j, (Value.slice (some ⟨g, 0, none⟩) (K + 1) cp).ownBlock = some j → w.heap.size ≤ j)) := by
              intro g cp w4 r1 r2 r3
              have hK := HAll.out.2.2.2.2.2.2.1
              have hp := HQ3.out.2.2.1.push HQ3.out.1 HQ3.out.2.2.2.2.1 (tmp := .cells #[jclo (j1, j2)] 1) (g := g) (cap := cp) (w2 := w4) (xs := bs.map jclo)
              rw [hK] at hp
              obtain ⟨p1, p2⟩ := hp hb2 r1 r2 r3
              refine ⟨p1.wr, ⟨HQ3.out.2.1.fr.trans' p1.fr fun k hk q => ?_, HQ3.out.2.1.own⟩, p2, p1.scl HQ3.out.2.2.2.1 hb2, fun j hj => ?_⟩
              · have := HAll.out.2.2.2.2.2.1 k q
                omega
              · simp only [Value.ownBlock, Option.some.injEq] at hj
                subst hj
                rcases r3 with e | e
                · exact HAll.out.2.2.2.2.2.1 g e
                · have := HQ3.out.2.1.fr.size; omega
            clear hb1 hb2 hb3 hb4
            unfold jclo at HOW HBW HG
            simp only at HOW HBW HG
            go_wp2_with (at_builtin; refine wpList_append_lies _ rfl (.tmp 25) (.tmp 28) 107 rfl w0.heap.size 1 i9 _ 1 8 Tryz.underlying107 hi9 z0 z1 z2 rfl (by decide) (.slice la K lc) K _ rfl HOW.out ⟨w3.heap.size, 0, none⟩ 1 1 [.func (.func 75) #[] #[.pointer (some ⟨j1, 0, none⟩), .pointer (some ⟨j2, 0, none⟩)]] rfl rfl (cell_one_new _ _ _) (by simp [Value.oneCell']) (by omega) (by unfold maxLen; omega) (by omega) HBW.out (w3.heap.size + 1) (alloc_size _ _) ?_; intro g cp w4 hown hgrow hat hlt'; have HF := HG.out g cp w4 hown hgrow hat; clear hown hgrow hat)
            have hsp := split1_f HF.out.1 HF.out.2.2.2.1 (br_get HR1.out HR2.out HR3.out)
            simp only at hsp
            have HSP : Hid _ := hsp
            clear hsp
            refine Calls.mono HSP.out ?_
            rintro e w5 ⟨rfl, q1, q2⟩
            have HT3 : Hid (BrI w0 wb v L cv w x ts (i + 1) (.slice (some ⟨g, 0, none⟩) (K + 1) cp) w5) := by
              have hst : gBrS t s = some ((y3.1.set s.1.1.length (splitI false s.1.1.length y3.1.length), y3.2), s.2 ++ [y2.1.length]) := by simp only [gBrS, HR1.out, Option.bind_some, HR2.out, HR3.out, Option.map_some]
              refine ⟨((y3.1.set s.1.1.length (splitI false s.1.1.length y3.1.length), y3.2), s.2 ++ [y2.1.length]), cv3, ?_, gBrS_TJ hst HAll.out.2.1, q1, HF.out.2.1.trans q2, HF.out.2.2.1.adv q2, HF.out.2.2.2.2⟩
              rw [List.take_add_one, HAll.out.2.2.2.2.2.2.2]
              simp only [Option.toList_some]
              rw [gBrG_append, HAll.out.1, Option.bind_some]
              simp only [gBrG, hst, Option.bind_some]
            clear q1 q2 HSP HF
            go_wp2_with fail
            go_roundw
            case rel => exact ⟨i + 1, by omega, by go_num, HT3⟩
            case measure =>
              simp only [intOf]
              omega
    · have hiM : i = M := by omega
      subst hiM
      have dl : decide ((i : Int) < (i : Int)) = false := by simp
      have HLast : Hid (ts.getLast?.getD .empty = t) := by
        show _ = _
        rw [List.getLast?_eq_getElem?, HX.out.2.1, Nat.add_sub_cancel, HAll.out.2.2.2.2.2.2.2]; rfl
      go_wp2_with fail
      cases hr1 : runT t s.1 with
      | none =>
        have hX : X = none := by rw [← HX.out.1, HP.out, HAll.out.1, Option.bind_some, HLast.out, hr1]; rfl
        subst hX
        refine Calls.mono (HCd.out _ _ _ HAll.out.2.2.1 HAll.out.2.1.1) ?_
        rw [hr1]
        rintro e w3 ⟨rfl, f3⟩
        have HFa : Hid (Fr (Wb wb cv) w w3) := HAll.out.2.2.2.1.fail f3
        unfold TooLong
        clear f3
        go_wp2_with fail
        exact ⟨rfl, rfl, HFa.out⟩
      | some y =>
        refine Calls.mono (HCd.out _ _ _ HAll.out.2.2.1 HAll.out.2.1.1) ?_
        rw [hr1]
        rintro e w1 ⟨rfl, cv1, q1, q2⟩
        have HX2 : Hid (X = some (putJ y.1.length s.2 y.1, y.2)) := by
          show _ = _
          rw [← HX.out.1, HP.out, HAll.out.1, Option.bind_some, HLast.out, hr1]; rfl
        have HCall : Hid (Calls Tryz.prog 63 #[.slice la K lc] w1 fun e w' => e = .returned (.tuple #[]) ∧ Wr w0 wb v L (putJ y.1.length s.2 y.1, y.2) cv1 w' ∧ Adw wb cv1 w1 cv1 w') := by
          refine callAll_j q1 (HAll.out.2.2.2.2.1.adv q2) HAll.out.2.1.2.1 fun p hp => ?_
          obtain rfl := runT_some hr1
          have hq := HAll.out.2.1.2.2 p hp
          have hlt := (List.getElem?_eq_some_iff.1 hq).1
          simp only
          rw [List.getElem?_append_left hlt]; exact hq
        have HA1 : Hid (Adw wb cv w cv1 w1) := HAll.out.2.2.2.1.trans q2
        clear q1 q2 hr1
        go_wp2_with fail
        refine Calls.mono HCall.out ?_
        rintro e w3 ⟨rfl, q1, q2⟩
        have HF : Hid (Wr w0 wb v L (putJ y.1.length s.2 y.1, y.2) cv1 w3 ∧ Adw wb cv w cv1 w3) := ⟨q1, HA1.out.trans q2⟩
        clear q1 q2 HCall
        go_wp2_with fail
        go_end0
        have hX := HX2.out
        subst hX
        exact ⟨rfl, _, HF.out⟩
end
end Go.Proofs.YtlgemficalcghaaGreat
/- What the writer's parts lay is the tree's code. -/
namespace Go.Proofs.YtlgemficalcghaaGreat
open Go.ChangeShapes Go.WideShapes Go.ChangeAt Go.RowKit
set_option linter.unusedVariables false
set_option linter.unusedSimpArgs false
/-- So much code, so many rounds more, if there is room. -/
def app (l : List Ins) (q : Nat) (x : List Ins × Nat) : Option (List Ins × Nat) := if x.1.length + l.length ≤ 2000 then some (x.1 ++ l, x.2 + q) else none
theorem runI_app (i : Ins) (x : List Ins × Nat) : runI i x = app [i] 0 x := by
  unfold runI app
  by_cases h : x.1.length < 2000
  · rw [if_pos h, if_pos (by simp; omega), Nat.add_zero]
  · rw [if_neg h, if_neg (by simp; omega)]
theorem runT_app (t : PT) (x : List Ins × Nat) : runT t x = app (t.code x.1.length x.2) t.rnd x := by
  unfold runT app
  rw [PT.code_len]
theorem app_bind (l l' : List Ins) (q q' : Nat) (x : List Ins × Nat) (f : List Ins × Nat → Option (List Ins × Nat)) (hf : f (x.1 ++ l, x.2 + q) = app l' q' (x.1 ++ l, x.2 + q)) : (app l q x).bind f = app (l ++ l') (q + q') x := by
  unfold app
  by_cases h : x.1.length + l.length ≤ 2000
  · rw [if_pos h, Option.bind_some, hf]
    unfold app
    by_cases h2 : x.1.length + (l ++ l').length ≤ 2000
    · rw [if_pos h2, if_pos (by simp at h2 ⊢; omega)]
      simp [Nat.add_assoc]
    · rw [if_neg h2, if_neg (by simp at h2 ⊢; omega)]
  · rw [if_neg h, Option.bind_none, if_neg (by simp; omega)]
theorem roundF_app (t : PT) (x : List Ins × Nat) : roundF t x = app (startI x.2 :: t.code (x.1.length + 1) (x.2 + 1) ++ [goneI x.2]) (t.rnd + 1) x := by
  unfold roundF
  have e1 : runI (startI x.2) (x.1, x.2 + 1) = (app [startI x.2] 1 x) := by
    rw [runI_app]; unfold app; simp
  rw [e1, app_bind [startI x.2] (t.code (x.1.length + 1) (x.2 + 1) ++ [goneI x.2]) 1 t.rnd x]
  · rw [Nat.add_comm 1 t.rnd]; rfl
  · rw [runT_app, app_bind _ [goneI x.2] _ 0]
    · simp
    · rw [runI_app]
theorem gGroupF_eq (n : Int) (t : PT) (x : List Ins × Nat) : gGroupF n t x = runT (.group n t) x := by
  unfold gGroupF
  rw [runT_app, runI_app, app_bind [saveI (2 * n)] (t.code (x.1.length + 1) x.2 ++ [saveI (2 * n + 1)]) 0 t.rnd x]
  · simp [PT.code, PT.rnd]
  · rw [runT_app, app_bind _ [saveI (2 * n + 1)] _ 0]
    · simp
    · rw [runI_app]
theorem set_mid (l r : List Ins) (i j : Ins) : (l ++ i :: r).set l.length j = l ++ j :: r := by simp
theorem loopF_app (lz : Bool) (t : PT) (x : List Ins × Nat) : loopF lz t x = app (splitI lz x.1.length (x.1.length + t.len + 4) :: startI x.2 :: t.code (x.1.length + 2) (x.2 + 1) ++ [goneI x.2, jumpI x.1.length]) (t.rnd + 1) x := by
  have e : ((runI { op := 4 } x).bind fun y => (roundF t y).bind fun z => runI (jumpI x.1.length) z) = app ({ op := 4 } :: startI x.2 :: t.code (x.1.length + 2) (x.2 + 1) ++ [goneI x.2, jumpI x.1.length]) (t.rnd + 1) x := by
    rw [runI_app, app_bind [{ op := 4 }] (startI x.2 :: t.code (x.1.length + 2) (x.2 + 1) ++ [goneI x.2, jumpI x.1.length]) 0 (t.rnd + 1) x]
    · simp
    · rw [roundF_app, app_bind _ [jumpI x.1.length] _ 0]
      · simp
      · rw [runI_app]
  have e2 : loopF lz t x = ((runI { op := 4 } x).bind fun y => (roundF t y).bind fun z => runI (jumpI x.1.length) z).map fun u => (u.1.set x.1.length (splitI lz x.1.length u.1.length), u.2) := by
    unfold loopF
    cases runI { op := 4 } x with
    | none => rfl
    | some y =>
      simp only [Option.bind_some]
      cases roundF t y with
      | none => rfl
      | some z => rfl
  rw [e2, e]
  unfold app
  by_cases h : x.1.length + ({ op := 4 } :: startI x.2 :: t.code (x.1.length + 2) (x.2 + 1) ++ [goneI x.2, jumpI x.1.length]).length ≤ 2000
  · rw [if_pos h, if_pos (by simpa using h)]
    simp [PT.code_len, Nat.add_assoc]
  · rw [if_neg h, if_neg (by simpa using h)]; rfl
theorem copiesC_snoc (f : Nat → Nat → List Ins) (l q n p r : Nat) : copiesC f l q (n + 1) p r = copiesC f l q n p r ++ f (p + n * l) (r + n * q) := by
  induction n generalizing p r with
  | zero => simp [copiesC]
  | succ n ih =>
    rw [copiesC, ih]
    simp only [copiesC, List.append_assoc]
    rw [show p + l + n * l = p + (n + 1) * l by rw [Nat.succ_mul]; omega, show r + q + n * q = r + (n + 1) * q by rw [Nat.succ_mul]; omega]
theorem iterT_app (t : PT) (n : Nat) (x : List Ins × Nat) (hx : x.1.length ≤ 2000) : iterT t n x = app (copiesC t.code t.len t.rnd n x.1.length x.2) (n * t.rnd) x := by
  induction n with
  | zero => simp [iterT, copiesC, app, hx]
  | succ n ih =>
    rw [iterT, ih, app_bind _ (t.code (x.1.length + n * t.len) (x.2 + n * t.rnd)) _ t.rnd]
    · rw [copiesC_snoc, Nat.succ_mul]
    · rw [runT_app]
      simp [copiesC_len _ _ _ t.code_len]
def places (l : Nat) : Nat → Nat → List Nat
  | 0, _ => []
  | n + 1, p => p :: places l n (p + l + 3)
theorem places_snoc (l n p : Nat) : places l (n + 1) p = places l n p ++ [p + n * (l + 3)] := by
  induction n generalizing p with
  | zero => simp [places]
  | succ n ih =>
    rw [places, ih]
    simp only [places, List.cons_append]
    rw [show p + l + 3 + n * (l + 3) = p + (n + 1) * (l + 3) by rw [Nat.succ_mul]; omega]
theorem triesC_snoc (f : Nat → Nat → List Ins) (l q : Nat) (s : Nat → Ins) (n p r : Nat) : triesC f l q s (n + 1) p r = triesC f l q s n p r ++ (s (p + n * (l + 3)) :: startI (r + n * (q + 1)) :: f (p + n * (l + 3) + 2) (r + n * (q + 1) + 1) ++ [goneI (r + n * (q + 1))]) := by
  induction n generalizing p r with
  | zero => simp [triesC]
  | succ n ih =>
    rw [triesC, ih]
    simp only [triesC, List.append_assoc, List.cons_append]
    rw [show p + l + 3 + n * (l + 3) = p + (n + 1) * (l + 3) by rw [Nat.succ_mul]; omega, show r + q + 1 + n * (q + 1) = r + (n + 1) * (q + 1) by rw [Nat.succ_mul]; omega]
theorem triesG_eq (t : PT) (n : Nat) (x : List Ins × Nat) (hx : x.1.length ≤ 2000) : triesG t n (x, []) = (app (triesC t.code t.len t.rnd (fun _ => { op := 4 }) n x.1.length x.2) (n * (t.rnd + 1)) x).map fun y => (y, places t.len n x.1.length) := by
  induction n with
  | zero => simp [triesG, triesC, app, hx, places]
  | succ n ih =>
    have hl := triesC_len t.code t.len t.rnd (fun _ => { op := 4 }) t.code_len n x.1.length x.2
    rw [triesG, ih]
    have key : ((app (triesC t.code t.len t.rnd (fun _ => { op := 4 }) n x.1.length x.2) (n * (t.rnd + 1)) x).bind fun y => (runI { op := 4 } y).bind (roundF t)) = app (triesC t.code t.len t.rnd (fun _ => { op := 4 }) (n + 1) x.1.length x.2) ((n + 1) * (t.rnd + 1)) x := by
      rw [app_bind _ ({ op := 4 } :: startI (x.2 + n * (t.rnd + 1)) :: t.code (x.1.length + n * (t.len + 3) + 2) (x.2 + n * (t.rnd + 1) + 1) ++ [goneI (x.2 + n * (t.rnd + 1))]) _ (t.rnd + 1)]
      · rw [triesC_snoc, Nat.succ_mul n (t.rnd + 1)]
      · rw [runI_app, app_bind _ (startI (x.2 + n * (t.rnd + 1)) :: t.code (x.1.length + n * (t.len + 3) + 2) (x.2 + n * (t.rnd + 1) + 1) ++ [goneI (x.2 + n * (t.rnd + 1))]) _ (t.rnd + 1)]
        · simp
        · rw [roundF_app]
          simp [hl, Nat.add_assoc]
    rw [← key]
    unfold app
    by_cases h : x.1.length + (triesC t.code t.len t.rnd (fun _ => { op := 4 }) n x.1.length x.2).length ≤ 2000
    · rw [if_pos h]
      simp only [Option.map_some, Option.bind_some, tryS]
      cases runI { op := 4 } (x.1 ++ triesC t.code t.len t.rnd (fun _ => { op := 4 }) n x.1.length x.2, x.2 + n * (t.rnd + 1)) with
      | none => rfl
      | some y =>
        simp only [Option.bind_some]
        cases roundF t y with
        | none => rfl
        | some z =>
          simp only [Option.map_some]
          rw [places_snoc]
          simp [hl]
    · rw [if_neg h]; rfl
theorem putS_tries (f : Nat → Nat → List Ins) (l q : Nat) (hf : ∀ p r, (f p r).length = l) (lz : Bool) (e n p r : Nat) (pre post : List Ins) (hp : pre.length = p) :
    putS lz e (places l n p) (pre ++ triesC f l q (fun _ => { op := 4 }) n p r ++ post) = pre ++ triesC f l q (fun a => splitI lz a e) n p r ++ post := by
  induction n generalizing p r pre with
  | zero => simp [places, putS, triesC]
  | succ n ih =>
    simp only [places, triesC]
    unfold putS
    rw [List.foldl_cons]
    have e1 : (pre ++ ({ op := 4 } :: startI r :: f (p + 2) (r + 1) ++ goneI r :: triesC f l q (fun _ => { op := 4 }) n (p + l + 3) (r + q + 1)) ++ post).set p (splitI lz p e) = (pre ++ (splitI lz p e :: startI r :: f (p + 2) (r + 1) ++ [goneI r])) ++ triesC f l q (fun _ => { op := 4 }) n (p + l + 3) (r + q + 1) ++ post := by
      subst hp
      simp
    rw [e1]
    have := ih (p + l + 3) (r + q + 1) (pre ++ (splitI lz p e :: startI r :: f (p + 2) (r + 1) ++ [goneI r])) (by simp [hf, hp]; omega)
    unfold putS at this
    rw [this]
    simp
theorem triesF_app (lz : Bool) (t : PT) (n : Nat) (x : List Ins × Nat) (hx : x.1.length ≤ 2000) : triesF lz t n x = app (triesC t.code t.len t.rnd (fun a => splitI lz a (x.1.length + n * (t.len + 3))) n x.1.length x.2) (n * (t.rnd + 1)) x := by
  unfold triesF
  rw [triesG_eq t n x hx]
  have hl := triesC_len t.code t.len t.rnd (fun _ => { op := 4 }) t.code_len n x.1.length x.2
  have hl2 := triesC_len t.code t.len t.rnd (fun a => splitI lz a (x.1.length + n * (t.len + 3))) t.code_len n x.1.length x.2
  unfold app
  by_cases h : x.1.length + n * (t.len + 3) ≤ 2000
  · rw [if_pos (by rw [hl]; exact h), if_pos (by rw [hl2]; exact h)]
    simp only [Option.map_some, List.length_append, hl]
    have := putS_tries t.code t.len t.rnd t.code_len lz (x.1.length + n * (t.len + 3)) n x.1.length x.2 x.1 [] rfl
    simp only [List.append_nil] at this
    rw [this]
  · rw [if_neg (by rw [hl]; exact h), if_neg (by rw [hl2]; exact h)]; rfl
theorem gManyF_eq (mn mx : Int) (lz : Bool) (t : PT) (x : List Ins × Nat) (hx : x.1.length ≤ 2000) (h0 : 0 ≤ mn) (h1 : mx < 0 ∨ mn ≤ mx) : gManyF mn mx lz t x = runT (.many mn.toNat (if mx < 0 then none else some mx.toNat) lz t) x := by
  unfold gManyF
  rw [iterT_app t _ x hx, runT_app]
  have hl := copiesC_len t.code t.len t.rnd t.code_len mn.toNat x.1.length x.2
  by_cases h : mx < 0
  · simp only [if_pos h]
    rw [app_bind _ (splitI lz (x.1.length + mn.toNat * t.len) (x.1.length + mn.toNat * t.len + t.len + 4) :: startI (x.2 + mn.toNat * t.rnd) :: t.code (x.1.length + mn.toNat * t.len + 2) (x.2 + mn.toNat * t.rnd + 1) ++ [goneI (x.2 + mn.toNat * t.rnd), jumpI (x.1.length + mn.toNat * t.len)]) _ (t.rnd + 1)]
    · simp [PT.code, PT.rnd]
    · rw [loopF_app]
      simp [hl]
  · simp only [if_neg h]
    have hsub : (mx - mn).toNat = mx.toNat - mn.toNat := by omega
    by_cases hfit : x.1.length + mn.toNat * t.len ≤ 2000
    · rw [app_bind _ (triesC t.code t.len t.rnd (fun a => splitI lz a (x.1.length + mn.toNat * t.len + (mx.toNat - mn.toNat) * (t.len + 3))) (mx.toNat - mn.toNat) (x.1.length + mn.toNat * t.len) (x.2 + mn.toNat * t.rnd)) _ ((mx.toNat - mn.toNat) * (t.rnd + 1))]
      · simp [PT.code, PT.rnd]
      · rw [triesF_app _ _ _ _ (by simp [hl]; exact hfit), hsub]
        simp [hl]
    · unfold app
      rw [if_neg (by rw [hl]; exact hfit), Option.bind_none, if_neg (by rw [PT.code_len]; simp only [PT.len]; omega)]
def brC (e : Nat) : List PT → Nat → Nat → List Ins
  | [], _, _ => []
  | t :: ts, p, r => splitI false p (p + t.len + 2) :: t.code (p + 1) r ++ jumpI e :: brC e ts (p + t.len + 2) (r + t.rnd)
def brL : List PT → Nat
  | [] => 0
  | t :: ts => t.len + 2 + brL ts
def brR : List PT → Nat
  | [] => 0
  | t :: ts => t.rnd + brR ts
def jpl : List PT → Nat → List Nat
  | [], _ => []
  | t :: ts, p => (p + t.len + 1) :: jpl ts (p + t.len + 2)
theorem brC_len (e : Nat) (ts : List PT) (p r : Nat) : (brC e ts p r).length = brL ts := by
  induction ts generalizing p r with
  | nil => rfl
  | cons t ts ih => simp only [brC, brL, List.length_append, List.length_cons, PT.code_len, ih]; omega
theorem gBrS_eq (t : PT) (s : (List Ins × Nat) × List Nat) : gBrS t s = (app (splitI false s.1.1.length (s.1.1.length + t.len + 2) :: t.code (s.1.1.length + 1) s.1.2 ++ [jumpI 0]) t.rnd s.1).map fun y => (y, s.2 ++ [s.1.1.length + t.len + 1]) := by
  unfold gBrS
  have e : ((runI { op := 4 } s.1).bind fun y => (runT t y).bind (runI { op := 5 })) = app ({ op := 4 } :: t.code (s.1.1.length + 1) s.1.2 ++ [jumpI 0]) t.rnd s.1 := by
    rw [runI_app, app_bind _ (t.code (s.1.1.length + 1) s.1.2 ++ [jumpI 0]) _ t.rnd]
    · simp
    · rw [runT_app, app_bind _ [jumpI 0] _ 0]
      · simp
      · rw [runI_app]; rfl
  have e2 : ((runI { op := 4 } s.1).bind fun y => (runT t y).bind fun z => (runI { op := 5 } z).map fun u => ((u.1.set s.1.1.length (splitI false s.1.1.length u.1.length), u.2), s.2 ++ [z.1.length])) =
      (((runI { op := 4 } s.1).bind fun y => (runT t y).bind (runI { op := 5 })).map fun u => ((u.1.set s.1.1.length (splitI false s.1.1.length u.1.length), u.2), s.2 ++ [u.1.length - 1])) := by
    cases runI { op := 4 } s.1 with
    | none => rfl
    | some y =>
      simp only [Option.bind_some]
      cases runT t y with
      | none => rfl
      | some z =>
        simp only [Option.bind_some]
        cases h : runI { op := 5 } z with
        | none => rfl
        | some u =>
          obtain ⟨_, rfl⟩ := runI_some h
          simp
  rw [e2, e]
  unfold app
  by_cases h : s.1.1.length + ({ op := 4 } :: t.code (s.1.1.length + 1) s.1.2 ++ [jumpI 0]).length ≤ 2000
  · rw [if_pos h, if_pos (by simpa using h)]
    simp [PT.code_len, Nat.add_assoc]
  · rw [if_neg h, if_neg (by simpa using h)]; rfl
theorem gBrG_eq (ts : List PT) (x : List Ins × Nat) (ps : List Nat) (hx : x.1.length ≤ 2000) : gBrG ts (x, ps) = (app (brC 0 ts x.1.length x.2) (brR ts) x).map fun y => (y, ps ++ jpl ts x.1.length) := by
  induction ts generalizing x ps with
  | nil => simp [gBrG, brC, brR, app, jpl, hx]
  | cons t ts ih =>
    simp only [gBrG]
    rw [gBrS_eq]
    simp only
    by_cases h : x.1.length + (t.len + 2) ≤ 2000
    · have e : app (splitI false x.1.length (x.1.length + t.len + 2) :: t.code (x.1.length + 1) x.2 ++ [jumpI 0]) t.rnd x = some (x.1 ++ (splitI false x.1.length (x.1.length + t.len + 2) :: t.code (x.1.length + 1) x.2 ++ [jumpI 0]), x.2 + t.rnd) := by
        unfold app
        rw [if_pos (by simp [PT.code_len]; omega)]
      rw [e]
      simp only [Option.map_some, Option.bind_some]
      rw [ih _ _ (by simp [PT.code_len]; omega)]
      have e3 : app (brC 0 (t :: ts) x.1.length x.2) (brR (t :: ts)) x = app (brC 0 ts (x.1 ++ (splitI false x.1.length (x.1.length + t.len + 2) :: t.code (x.1.length + 1) x.2 ++ [jumpI 0])).length (x.2 + t.rnd)) (brR ts) (x.1 ++ (splitI false x.1.length (x.1.length + t.len + 2) :: t.code (x.1.length + 1) x.2 ++ [jumpI 0]), x.2 + t.rnd) := by
        have := app_bind (splitI false x.1.length (x.1.length + t.len + 2) :: t.code (x.1.length + 1) x.2 ++ [jumpI 0]) (brC 0 ts (x.1.length + t.len + 2) (x.2 + t.rnd)) t.rnd (brR ts) x (app (brC 0 ts (x.1.length + t.len + 2) (x.2 + t.rnd)) (brR ts)) rfl
        rw [e, Option.bind_some] at this
        have e4 : (x.1 ++ (splitI false x.1.length (x.1.length + t.len + 2) :: t.code (x.1.length + 1) x.2 ++ [jumpI 0])).length = x.1.length + t.len + 2 := by simp [PT.code_len]; omega
        rw [e4, this]
        simp [brC, brR]
      rw [e3]
      have e4 : (x.1 ++ (splitI false x.1.length (x.1.length + t.len + 2) :: t.code (x.1.length + 1) x.2 ++ [jumpI 0])).length = x.1.length + t.len + 2 := by simp [PT.code_len]; omega
      rw [e4]
      simp [jpl]
    · unfold app
      rw [if_neg (by simp [PT.code_len]; omega), if_neg (by rw [brC_len]; simp only [brL]; omega)]; rfl
theorem putJ_br (e : Nat) (ts : List PT) (p r : Nat) (pre post : List Ins) (hp : pre.length = p) : putJ e (jpl ts p) (pre ++ brC 0 ts p r ++ post) = pre ++ brC e ts p r ++ post := by
  induction ts generalizing p r pre with
  | nil => simp [jpl, putJ, brC]
  | cons t ts ih =>
    simp only [jpl, brC]
    unfold putJ
    rw [List.foldl_cons]
    have hq : (pre ++ (splitI false p (p + t.len + 2) :: t.code (p + 1) r)).length = p + t.len + 1 := by simp [PT.code_len, hp]; omega
    have e1 : (pre ++ (splitI false p (p + t.len + 2) :: t.code (p + 1) r ++ jumpI 0 :: brC 0 ts (p + t.len + 2) (r + t.rnd)) ++ post).set (p + t.len + 1) (jumpI e) = (pre ++ (splitI false p (p + t.len + 2) :: t.code (p + 1) r ++ [jumpI e])) ++ brC 0 ts (p + t.len + 2) (r + t.rnd) ++ post := by
      rw [← hq]
      have := set_mid (pre ++ (splitI false p (p + t.len + 2) :: t.code (p + 1) r)) (brC 0 ts (p + t.len + 2) (r + t.rnd) ++ post) (jumpI 0) (jumpI e)
      rw [show pre ++ (splitI false p (p + t.len + 2) :: t.code (p + 1) r ++ jumpI 0 :: brC 0 ts (p + t.len + 2) (r + t.rnd)) ++ post = (pre ++ (splitI false p (p + t.len + 2) :: t.code (p + 1) r)) ++ jumpI 0 :: (brC 0 ts (p + t.len + 2) (r + t.rnd) ++ post) by simp, this]
      simp
    rw [e1]
    have := ih (p + t.len + 2) (r + t.rnd) (pre ++ (splitI false p (p + t.len + 2) :: t.code (p + 1) r ++ [jumpI e])) (by simp [PT.code_len, hp]; omega)
    unfold putJ at this
    rw [this]
    simp
theorem altOf_len (ts : List PT) (l : PT) : (altOf (ts ++ [l])).len = brL ts + l.len ∧ (altOf (ts ++ [l])).rnd = brR ts + l.rnd := by
  induction ts with
  | nil => simp [altOf, brL, brR]
  | cons t ts ih =>
    have e : altOf (t :: ts ++ [l]) = .alt t (altOf (ts ++ [l])) := by
      cases ts with
      | nil => rfl
      | cons u us => rfl
    rw [e]
    simp only [PT.len, PT.rnd, brL, brR, ih.1, ih.2]
    omega
theorem altOf_code (ts : List PT) (l : PT) (p r : Nat) : (altOf (ts ++ [l])).code p r = brC (p + brL ts + l.len) ts p r ++ l.code (p + brL ts) (r + brR ts) := by
  induction ts generalizing p r with
  | nil => simp [altOf, brC, brL, brR]
  | cons t ts ih =>
    have e : altOf (t :: ts ++ [l]) = .alt t (altOf (ts ++ [l])) := by
      cases ts with
      | nil => rfl
      | cons u us => rfl
    rw [e]
    simp only [PT.code, brC, ih, (altOf_len ts l).1, brL, brR]
    rw [show p + t.len + (brL ts + l.len) + 2 = p + (t.len + 2 + brL ts) + l.len by omega, show p + t.len + 2 + brL ts + l.len = p + (t.len + 2 + brL ts) + l.len by omega, show p + t.len + 2 + brL ts = p + (t.len + 2 + brL ts) by omega, show r + t.rnd + brR ts = r + (t.rnd + brR ts) by omega]
    simp
theorem gBrF_eq (ts : List PT) (hne : 1 ≤ ts.length) (x : List Ins × Nat) (hx : x.1.length ≤ 2000) : gBrF ts x = runT (altOf ts) x := by
  obtain ⟨us, l, rfl⟩ : ∃ us l, ts = us ++ [l] := ⟨ts.dropLast, ts.getLast (by intro e; rw [e] at hne; simp at hne), (List.dropLast_concat_getLast _).symm⟩
  unfold gBrF
  rw [List.dropLast_concat, List.getLast?_concat, gBrG_eq _ _ _ hx]
  simp only [Option.getD_some, List.nil_append]
  rw [runT_app, altOf_code, (altOf_len us l).2]
  unfold app
  by_cases h : x.1.length + brL us ≤ 2000
  · rw [if_pos (by rw [brC_len]; exact h)]
    simp only [Option.map_some, Option.bind_some]
    rw [runT_app]
    simp only [List.length_append, brC_len]
    unfold app
    by_cases h2 : x.1.length + (brL us + l.len) ≤ 2000
    · rw [if_pos (by simp [brC_len, PT.code_len]; omega), if_pos (by simp [brC_len, PT.code_len]; omega)]
      simp only [Option.map_some, List.length_append, brC_len, PT.code_len]
      rw [putJ_br _ _ _ _ _ _ rfl]
      simp [Nat.add_assoc]
    · rw [if_neg (by simp [brC_len, PT.code_len]; omega), if_neg (by simp [brC_len, PT.code_len]; omega)]; rfl
  · rw [if_neg (by rw [brC_len]; exact h), if_neg (by simp [brC_len, PT.code_len]; omega)]; rfl
end Go.Proofs.YtlgemficalcghaaGreat
/- The writer's node; codeOf of every tree. -/
namespace Go.Proofs.YtlgemficalcghaaGreat
open Go.ChangeShapes Go.WideShapes Go.ChangeAt Go.RowKit
set_option linter.unusedVariables false
set_option linter.unusedSimpArgs false
theorem toT_node {L : List Nq} {m : Nat} {a : Int} {t : PT} (h : toT L (m + 1) a = some t) (h5 : (nodeAt L a).op ≠ 5) :
    ((nodeAt L a).op = 1 ∧ t = .empty) ∨ ((nodeAt L a).op = 6 ∧ 1 ≤ (nodeAt L a).kids.length ∧ ∃ ts, mapT (toT L m) (nodeAt L a).kids = some ts ∧ t = altOf ts) ∨
    ((nodeAt L a).op = 7 ∧ (nodeAt L a).kids.length = 1 ∧ (0 ≤ (nodeAt L a).mn ∧ (nodeAt L a).mn ≤ 60 ∧ (nodeAt L a).mx ≤ 60 ∧ ((nodeAt L a).mx < 0 ∨ (nodeAt L a).mn ≤ (nodeAt L a).mx)) ∧ ∃ k, toT L m ((nodeAt L a).kids.headD 0) = some k ∧ t = .many (nodeAt L a).mn.toNat (if (nodeAt L a).mx < 0 then none else some (nodeAt L a).mx.toNat) (nodeAt L a).lz k) ∨
    ((nodeAt L a).op = 8 ∧ (nodeAt L a).kids.length = 1 ∧ (0 ≤ (nodeAt L a).n ∧ (nodeAt L a).n ≤ 9) ∧ ∃ k, toT L m ((nodeAt L a).kids.headD 0) = some k ∧ t = .group (nodeAt L a).n k) ∨
    (((nodeAt L a).op ≠ 1 ∧ (nodeAt L a).op ≠ 6 ∧ (nodeAt L a).op ≠ 7 ∧ (nodeAt L a).op ≠ 8) ∧ t = .leaf (leafI (nodeAt L a))) := by
  unfold toT at h
  split at h
  · simp only [if_neg h5] at h
    by_cases h1 : (nodeAt L a).op = 1
    · rw [if_pos h1] at h; cases h; exact .inl ⟨h1, rfl⟩
    rw [if_neg h1] at h
    by_cases h6 : (nodeAt L a).op = 6
    · rw [if_pos h6] at h
      split at h
      · rename_i hk
        obtain ⟨ts, q1, rfl⟩ := Option.map_eq_some_iff.1 h
        exact .inr (.inl ⟨h6, hk, ts, q1, rfl⟩)
      · cases h
    rw [if_neg h6] at h
    by_cases h7 : (nodeAt L a).op = 7
    · rw [if_pos h7] at h
      split at h
      · rename_i hk
        obtain ⟨k, q1, rfl⟩ := Option.map_eq_some_iff.1 h
        exact .inr (.inr (.inl ⟨h7, hk.1, hk.2, k, q1, rfl⟩))
      · cases h
    rw [if_neg h7] at h
    by_cases h8 : (nodeAt L a).op = 8
    · rw [if_pos h8] at h
      split at h
      · rename_i hk
        obtain ⟨k, q1, rfl⟩ := Option.map_eq_some_iff.1 h
        exact .inr (.inr (.inr (.inl ⟨h8, hk.1, hk.2, k, q1, rfl⟩)))
      · cases h
    rw [if_neg h8] at h
    cases h
    exact .inr (.inr (.inr (.inr ⟨⟨h1, h6, h7, h8⟩, rfl⟩)))
  · cases h
theorem size_altOf (ts : List PT) (t : PT) (ht : t ∈ ts) : t.size ≤ (altOf ts).size := by
  induction ts with
  | nil => cases ht
  | cons u us ih =>
    cases us with
    | nil => simp only [List.mem_singleton] at ht; subst ht; exact Nat.le_refl _
    | cons w ws =>
      simp only [altOf, PT.size]
      rcases List.mem_cons.1 ht with rfl | q
      · omega
      · have := ih q; omega
theorem len_altOf (ts : List PT) : ts.length ≤ (altOf ts).size := by
  induction ts with
  | nil => simp
  | cons u us ih =>
    cases us with
    | nil => simp only [List.length_cons, List.length_nil, altOf]; have := size_pos u; omega
    | cons w ws =>
      simp only [altOf, PT.size, List.length_cons] at ih ⊢
      have := size_pos u
      omega
theorem one_kid {w0 : World} {kv : Value} {ks : List Int} (h : Ks w0 kv ks) (h1 : ks.length = 1) : ∃ kb ko kc, kv = .slice (some ⟨kb, ko, none⟩) 1 kc ∧ (1 ≤ kc ∧ kc ≤ maxLen) ∧ w0.cell? ⟨kb, ko, none⟩ = some (.int .i64 (ks.headD 0)) := by
  obtain ⟨a, cap, rfl, q1, q2, q3⟩ := h
  match ks, h1 with
  | [k], _ =>
    obtain ⟨b, o, rfl, q⟩ := q3 0 k rfl
    exact ⟨b, o, cap, rfl, ⟨q1, q2⟩, q⟩
section
variable {w0 : World} {wb : Nat} {v : Value} {L : List Nq}
set_option maxHeartbeats 2000000 in
theorem node_empty {c : Nat} {set : S4} {mn mx : Int} {lz : Bool} {nn : Int} {x : List Ins × Nat} {cv : Value} {w : World} {ka : Option Addr} {kn kc : Nat} (h : Wr w0 wb v L x cv w) (hx : Okx x)  :
    Calls Tryz.prog 38 #[.pointer (some ⟨wb, 0, none⟩), .agg #[.int .u8 1, .int .u8 c, .int .u64 set.a, .int .u64 set.b, .int .u64 set.c, .int .u64 set.d, .int .i64 mn, .int .i64 mx, .bool lz, .int .i64 nn, .slice ka kn kc]] w (Laid w0 wb v L cv w (runT .empty x)) := by
  obtain ⟨bn, hbn⟩ : ∃ bn, w.heap.size = bn := ⟨_, rfl⟩
  have hB : (w.alloc (.cells #[.int .u8 1, .int .u8 c, .int .u64 set.a, .int .u64 set.b, .int .u64 set.c, .int .u64 set.d, .int .i64 mn, .int .i64 mx, .bool lz, .int .i64 nn, .slice ka kn kc] 91)).heap[bn]? = some (.cells #[.int .u8 1, .int .u8 c, .int .u64 set.a, .int .u64 set.b, .int .u64 set.c, .int .u64 set.d, .int .i64 mn, .int .i64 mx, .bool lz, .int .i64 nn, .slice ka kn kc] 91) := by rw [← hbn]; exact alloc_new w _
  have HW : Hid (Wr w0 wb v L x cv (w.alloc (.cells #[.int .u8 1, .int .u8 c, .int .u64 set.a, .int .u64 set.b, .int .u64 set.c, .int .u64 set.d, .int .i64 mn, .int .i64 mx, .bool lz, .int .i64 nn, .slice ka kn kc] 91)) ∧ Adw wb cv w cv (w.alloc (.cells #[.int .u8 1, .int .u8 c, .int .u64 set.a, .int .u64 set.b, .int .u64 set.c, .int .u64 set.d, .int .i64 mn, .int .i64 mx, .bool lz, .int .i64 nn, .slice ka kn kc] 91)) ∧ Okx x) := ⟨h.kpp (kp_alloc _ _), Adw.kp _ _ (kp_alloc _ _), hx⟩
  have n0 := cell_at hB 0
  have n1 := cell_at hB 1
  have n2 := cell_at hB 2
  have n3 := cell_at hB 3
  have n4 := cell_at hB 4
  have n5 := cell_at hB 5
  have n6 := cell_at hB 6
  have n7 := cell_at hB 7
  have n8 := cell_at hB 8
  have n9 := cell_at hB 9
  have n10 := cell_at hB 10
  simp only [List.getElem?_toArray, List.getElem?_cons_zero, List.getElem?_cons_succ] at n0 n1 n2 n3 n4 n5 n6 n7 n8 n9 n10
  obtain ⟨X, hX⟩ : ∃ X, runT .empty x = X := ⟨_, rfl⟩
  have HX : Hid (runT .empty x = X) := hX
  rw [hX]
  clear h hx hX hB
  go_enter Tryz.func38, Tryz.ntmps38
  go_upto_region 1 with fail
  clear hbn
  generalize (w.alloc (.cells #[.int .u8 1, .int .u8 c, .int .u64 set.a, .int .u64 set.b, .int .u64 set.c, .int .u64 set.d, .int .i64 mn, .int .i64 mx, .bool lz, .int .i64 nn, .slice ka kn kc] 91)) = wa at *
  go_wp2_with fail
  go_end0
  have := HX.out
  rw [runT_empty x HW.out.2.2.1] at this
  subst this
  exact ⟨rfl, _, HW.out.1, HW.out.2.1⟩
set_option maxHeartbeats 2000000 in
theorem node_group {c : Nat} {set : S4} {mn mx : Int} {lz : Bool} {nn : Int} {x : List Ins × Nat} {cv : Value} {w : World} {t : PT} {n kb ko kc : Nat} {a : Int} (h : Wr w0 wb v L x cv w) (hx : Okx x) (hC : CodeOf w0 wb v L n) (ht : toT L n a = some t) (hs : t.size ≤ 1000000) (hk : w0.cell? ⟨kb, ko, none⟩ = some (.int .i64 a)) (hkc : 1 ≤ kc ∧ kc ≤ maxLen) (hn : 0 ≤ nn ∧ nn ≤ 9) :
    Calls Tryz.prog 38 #[.pointer (some ⟨wb, 0, none⟩), .agg #[.int .u8 8, .int .u8 c, .int .u64 set.a, .int .u64 set.b, .int .u64 set.c, .int .u64 set.d, .int .i64 mn, .int .i64 mx, .bool lz, .int .i64 nn, .slice (some ⟨kb, ko, none⟩) 1 kc]] w (Laid w0 wb v L cv w (runT (.group nn t) x)) := by
  obtain ⟨bn, hbn⟩ : ∃ bn, w.heap.size = bn := ⟨_, rfl⟩
  have hB : (w.alloc (.cells #[.int .u8 8, .int .u8 c, .int .u64 set.a, .int .u64 set.b, .int .u64 set.c, .int .u64 set.d, .int .i64 mn, .int .i64 mx, .bool lz, .int .i64 nn, .slice (some ⟨kb, ko, none⟩) 1 kc] 91)).heap[bn]? = some (.cells #[.int .u8 8, .int .u8 c, .int .u64 set.a, .int .u64 set.b, .int .u64 set.c, .int .u64 set.d, .int .i64 mn, .int .i64 mx, .bool lz, .int .i64 nn, .slice (some ⟨kb, ko, none⟩) 1 kc] 91) := by rw [← hbn]; exact alloc_new w _
  have HW : Hid (Wr w0 wb v L x cv (w.alloc (.cells #[.int .u8 8, .int .u8 c, .int .u64 set.a, .int .u64 set.b, .int .u64 set.c, .int .u64 set.d, .int .i64 mn, .int .i64 mx, .bool lz, .int .i64 nn, .slice (some ⟨kb, ko, none⟩) 1 kc] 91)) ∧ Adw wb cv w cv (w.alloc (.cells #[.int .u8 8, .int .u8 c, .int .u64 set.a, .int .u64 set.b, .int .u64 set.c, .int .u64 set.d, .int .i64 mn, .int .i64 mx, .bool lz, .int .i64 nn, .slice (some ⟨kb, ko, none⟩) 1 kc] 91)) ∧ Okx x) := ⟨h.kpp (kp_alloc _ _), Adw.kp _ _ (kp_alloc _ _), hx⟩
  have n0 := cell_at hB 0
  have n1 := cell_at hB 1
  have n2 := cell_at hB 2
  have n3 := cell_at hB 3
  have n4 := cell_at hB 4
  have n5 := cell_at hB 5
  have n6 := cell_at hB 6
  have n7 := cell_at hB 7
  have n8 := cell_at hB 8
  have n9 := cell_at hB 9
  have n10 := cell_at hB 10
  simp only [List.getElem?_toArray, List.getElem?_cons_zero, List.getElem?_cons_succ] at n0 n1 n2 n3 n4 n5 n6 n7 n8 n9 n10
  have hF : gGroupF nn t x = runT (.group nn t) x := gGroupF_eq _ _ _
  have HCall : Hid (Calls Tryz.prog 49 #[.pointer (some ⟨wb, 0, none⟩), .agg #[.int .u8 8, .int .u8 c, .int .u64 set.a, .int .u64 set.b, .int .u64 set.c, .int .u64 set.d, .int .i64 mn, .int .i64 mx, .bool lz, .int .i64 nn, .slice (some ⟨kb, ko, none⟩) 1 kc]] (w.alloc (.cells #[.int .u8 8, .int .u8 c, .int .u64 set.a, .int .u64 set.b, .int .u64 set.c, .int .u64 set.d, .int .i64 mn, .int .i64 mx, .bool lz, .int .i64 nn, .slice (some ⟨kb, ko, none⟩) 1 kc] 91)) (Laid w0 wb v L cv (w.alloc (.cells #[.int .u8 8, .int .u8 c, .int .u64 set.a, .int .u64 set.b, .int .u64 set.c, .int .u64 set.d, .int .i64 mn, .int .i64 mx, .bool lz, .int .i64 nn, .slice (some ⟨kb, ko, none⟩) 1 kc] 91)) (runT (.group nn t) x))) := by
    rw [← hF]
    exact group_w (d := ⟨8, c, set, mn, mx, lz, nn, []⟩) hC ht hs HW.out.1 hx hk hkc hn
  obtain ⟨X, hX⟩ : ∃ X, runT (.group nn t) x = X := ⟨_, rfl⟩
  have HX : Hid (runT (.group nn t) x = X) := hX
  rw [hX]
  clear h hx hX hB hC ht hs hk hkc hn hF
  go_enter Tryz.func38, Tryz.ntmps38
  go_upto_region 1 with fail
  clear hbn
  generalize (w.alloc (.cells #[.int .u8 8, .int .u8 c, .int .u64 set.a, .int .u64 set.b, .int .u64 set.c, .int .u64 set.d, .int .i64 mn, .int .i64 mx, .bool lz, .int .i64 nn, .slice (some ⟨kb, ko, none⟩) 1 kc] 91)) = wa at *
  go_wp2_with fail
  refine Calls.mono HCall.out ?_
  rw [HX.out]
  intro e w3 q
  have HQ : Hid (Laid w0 wb v L cv w X e w3) := q.ahead HW.out.2.1
  clear q HCall
  cases X with
  | none =>
    obtain ⟨rfl, f3⟩ := HQ.out
    have HFa : Hid _ := f3
    unfold TooLong
    clear f3
    go_wp2_with fail
    exact ⟨rfl, rfl, HFa.out⟩
  | some x' =>
    obtain ⟨rfl, q3⟩ := HQ.out
    have HFa : Hid _ := q3
    clear q3
    go_wp2_with fail
    go_end0
    exact ⟨rfl, HFa.out⟩
set_option maxHeartbeats 2000000 in
theorem node_many {c : Nat} {set : S4} {mn mx : Int} {lz : Bool} {nn : Int} {x : List Ins × Nat} {cv : Value} {w : World} {t : PT} {n kb ko kc : Nat} {a : Int} (h : Wr w0 wb v L x cv w) (hx : Okx x) (hC : CodeOf w0 wb v L n) (ht : toT L n a = some t) (hs : t.size ≤ 1000000) (hk : w0.cell? ⟨kb, ko, none⟩ = some (.int .i64 a)) (hkc : 1 ≤ kc ∧ kc ≤ maxLen) (hn : 0 ≤ mn ∧ mn ≤ 60 ∧ mx ≤ 60 ∧ (mx < 0 ∨ mn ≤ mx)) :
    Calls Tryz.prog 38 #[.pointer (some ⟨wb, 0, none⟩), .agg #[.int .u8 7, .int .u8 c, .int .u64 set.a, .int .u64 set.b, .int .u64 set.c, .int .u64 set.d, .int .i64 mn, .int .i64 mx, .bool lz, .int .i64 nn, .slice (some ⟨kb, ko, none⟩) 1 kc]] w (Laid w0 wb v L cv w (runT (.many mn.toNat (if mx < 0 then none else some mx.toNat) lz t) x)) := by
  obtain ⟨bn, hbn⟩ : ∃ bn, w.heap.size = bn := ⟨_, rfl⟩
  have hB : (w.alloc (.cells #[.int .u8 7, .int .u8 c, .int .u64 set.a, .int .u64 set.b, .int .u64 set.c, .int .u64 set.d, .int .i64 mn, .int .i64 mx, .bool lz, .int .i64 nn, .slice (some ⟨kb, ko, none⟩) 1 kc] 91)).heap[bn]? = some (.cells #[.int .u8 7, .int .u8 c, .int .u64 set.a, .int .u64 set.b, .int .u64 set.c, .int .u64 set.d, .int .i64 mn, .int .i64 mx, .bool lz, .int .i64 nn, .slice (some ⟨kb, ko, none⟩) 1 kc] 91) := by rw [← hbn]; exact alloc_new w _
  have HW : Hid (Wr w0 wb v L x cv (w.alloc (.cells #[.int .u8 7, .int .u8 c, .int .u64 set.a, .int .u64 set.b, .int .u64 set.c, .int .u64 set.d, .int .i64 mn, .int .i64 mx, .bool lz, .int .i64 nn, .slice (some ⟨kb, ko, none⟩) 1 kc] 91)) ∧ Adw wb cv w cv (w.alloc (.cells #[.int .u8 7, .int .u8 c, .int .u64 set.a, .int .u64 set.b, .int .u64 set.c, .int .u64 set.d, .int .i64 mn, .int .i64 mx, .bool lz, .int .i64 nn, .slice (some ⟨kb, ko, none⟩) 1 kc] 91)) ∧ Okx x) := ⟨h.kpp (kp_alloc _ _), Adw.kp _ _ (kp_alloc _ _), hx⟩
  have n0 := cell_at hB 0
  have n1 := cell_at hB 1
  have n2 := cell_at hB 2
  have n3 := cell_at hB 3
  have n4 := cell_at hB 4
  have n5 := cell_at hB 5
  have n6 := cell_at hB 6
  have n7 := cell_at hB 7
  have n8 := cell_at hB 8
  have n9 := cell_at hB 9
  have n10 := cell_at hB 10
  simp only [List.getElem?_toArray, List.getElem?_cons_zero, List.getElem?_cons_succ] at n0 n1 n2 n3 n4 n5 n6 n7 n8 n9 n10
  have hF : gManyF mn mx lz t x = runT (.many mn.toNat (if mx < 0 then none else some mx.toNat) lz t) x := gManyF_eq _ _ _ _ _ hx.1 hn.1 hn.2.2.2
  have HCall : Hid (Calls Tryz.prog 48 #[.pointer (some ⟨wb, 0, none⟩), .agg #[.int .u8 7, .int .u8 c, .int .u64 set.a, .int .u64 set.b, .int .u64 set.c, .int .u64 set.d, .int .i64 mn, .int .i64 mx, .bool lz, .int .i64 nn, .slice (some ⟨kb, ko, none⟩) 1 kc]] (w.alloc (.cells #[.int .u8 7, .int .u8 c, .int .u64 set.a, .int .u64 set.b, .int .u64 set.c, .int .u64 set.d, .int .i64 mn, .int .i64 mx, .bool lz, .int .i64 nn, .slice (some ⟨kb, ko, none⟩) 1 kc] 91)) (Laid w0 wb v L cv (w.alloc (.cells #[.int .u8 7, .int .u8 c, .int .u64 set.a, .int .u64 set.b, .int .u64 set.c, .int .u64 set.d, .int .i64 mn, .int .i64 mx, .bool lz, .int .i64 nn, .slice (some ⟨kb, ko, none⟩) 1 kc] 91)) (runT (.many mn.toNat (if mx < 0 then none else some mx.toNat) lz t) x))) := by
    rw [← hF]
    exact many_w (d := ⟨7, c, set, mn, mx, lz, nn, []⟩) hC ht hs HW.out.1 hx hk hkc hn
  obtain ⟨X, hX⟩ : ∃ X, runT (.many mn.toNat (if mx < 0 then none else some mx.toNat) lz t) x = X := ⟨_, rfl⟩
  have HX : Hid (runT (.many mn.toNat (if mx < 0 then none else some mx.toNat) lz t) x = X) := hX
  rw [hX]
  clear h hx hX hB hC ht hs hk hkc hn hF
  go_enter Tryz.func38, Tryz.ntmps38
  go_upto_region 1 with fail
  clear hbn
  generalize (w.alloc (.cells #[.int .u8 7, .int .u8 c, .int .u64 set.a, .int .u64 set.b, .int .u64 set.c, .int .u64 set.d, .int .i64 mn, .int .i64 mx, .bool lz, .int .i64 nn, .slice (some ⟨kb, ko, none⟩) 1 kc] 91)) = wa at *
  go_wp2_with fail
  refine Calls.mono HCall.out ?_
  rw [HX.out]
  intro e w3 q
  have HQ : Hid (Laid w0 wb v L cv w X e w3) := q.ahead HW.out.2.1
  clear q HCall
  cases X with
  | none =>
    obtain ⟨rfl, f3⟩ := HQ.out
    have HFa : Hid _ := f3
    unfold TooLong
    clear f3
    go_wp2_with fail
    exact ⟨rfl, rfl, HFa.out⟩
  | some x' =>
    obtain ⟨rfl, q3⟩ := HQ.out
    have HFa : Hid _ := q3
    clear q3
    go_wp2_with fail
    go_end0
    exact ⟨rfl, HFa.out⟩
set_option maxHeartbeats 2000000 in
theorem node_alt {c : Nat} {set : S4} {mn mx : Int} {lz : Bool} {nn : Int} {x : List Ins × Nat} {cv : Value} {w : World} {ts : List PT} {n : Nat} {ka : Option Addr} {kn kc : Nat} {kids : List Int} (h : Wr w0 wb v L x cv w) (hx : Okx x) (hC : CodeOf w0 wb v L n) (hm : mapT (toT L n) kids = some ts) (hsz : ∀ t ∈ ts, t.size ≤ 1000000) (h1 : 1 ≤ kids.length) (h1b : kids.length ≤ 1000000) (hkn : kids.length = kn) (hks : Ks w0 (.slice ka kn kc) kids) :
    Calls Tryz.prog 38 #[.pointer (some ⟨wb, 0, none⟩), .agg #[.int .u8 6, .int .u8 c, .int .u64 set.a, .int .u64 set.b, .int .u64 set.c, .int .u64 set.d, .int .i64 mn, .int .i64 mx, .bool lz, .int .i64 nn, .slice ka kn kc]] w (Laid w0 wb v L cv w (runT (altOf ts) x)) := by
  obtain ⟨bn, hbn⟩ : ∃ bn, w.heap.size = bn := ⟨_, rfl⟩
  have hB : (w.alloc (.cells #[.int .u8 6, .int .u8 c, .int .u64 set.a, .int .u64 set.b, .int .u64 set.c, .int .u64 set.d, .int .i64 mn, .int .i64 mx, .bool lz, .int .i64 nn, .slice ka kn kc] 91)).heap[bn]? = some (.cells #[.int .u8 6, .int .u8 c, .int .u64 set.a, .int .u64 set.b, .int .u64 set.c, .int .u64 set.d, .int .i64 mn, .int .i64 mx, .bool lz, .int .i64 nn, .slice ka kn kc] 91) := by rw [← hbn]; exact alloc_new w _
  have HW : Hid (Wr w0 wb v L x cv (w.alloc (.cells #[.int .u8 6, .int .u8 c, .int .u64 set.a, .int .u64 set.b, .int .u64 set.c, .int .u64 set.d, .int .i64 mn, .int .i64 mx, .bool lz, .int .i64 nn, .slice ka kn kc] 91)) ∧ Adw wb cv w cv (w.alloc (.cells #[.int .u8 6, .int .u8 c, .int .u64 set.a, .int .u64 set.b, .int .u64 set.c, .int .u64 set.d, .int .i64 mn, .int .i64 mx, .bool lz, .int .i64 nn, .slice ka kn kc] 91)) ∧ Okx x) := ⟨h.kpp (kp_alloc _ _), Adw.kp _ _ (kp_alloc _ _), hx⟩
  have n0 := cell_at hB 0
  have n1 := cell_at hB 1
  have n2 := cell_at hB 2
  have n3 := cell_at hB 3
  have n4 := cell_at hB 4
  have n5 := cell_at hB 5
  have n6 := cell_at hB 6
  have n7 := cell_at hB 7
  have n8 := cell_at hB 8
  have n9 := cell_at hB 9
  have n10 := cell_at hB 10
  simp only [List.getElem?_toArray, List.getElem?_cons_zero, List.getElem?_cons_succ] at n0 n1 n2 n3 n4 n5 n6 n7 n8 n9 n10
  have hF : gBrF ts x = runT (altOf ts) x := gBrF_eq ts (by have := (mapT_get hm).1; omega) x hx.1
  have HCall : Hid (Calls Tryz.prog 47 #[.pointer (some ⟨wb, 0, none⟩), .slice ka kn kc] (w.alloc (.cells #[.int .u8 6, .int .u8 c, .int .u64 set.a, .int .u64 set.b, .int .u64 set.c, .int .u64 set.d, .int .i64 mn, .int .i64 mx, .bool lz, .int .i64 nn, .slice ka kn kc] 91)) (Laid w0 wb v L cv (w.alloc (.cells #[.int .u8 6, .int .u8 c, .int .u64 set.a, .int .u64 set.b, .int .u64 set.c, .int .u64 set.d, .int .i64 mn, .int .i64 mx, .bool lz, .int .i64 nn, .slice ka kn kc] 91)) (runT (altOf ts) x))) := by
    rw [← hF]
    have := branches_w (ka := ka) (kc := kc) hC hm hsz h1 h1b HW.out.1 hx (by rw [hkn]; exact hks)
    rw [hkn] at this
    exact this
  obtain ⟨X, hX⟩ : ∃ X, runT (altOf ts) x = X := ⟨_, rfl⟩
  have HX : Hid (runT (altOf ts) x = X) := hX
  rw [hX]
  clear h hx hX hB hC hm hsz h1 h1b hkn hks hF
  go_enter Tryz.func38, Tryz.ntmps38
  go_upto_region 1 with fail
  clear hbn
  generalize (w.alloc (.cells #[.int .u8 6, .int .u8 c, .int .u64 set.a, .int .u64 set.b, .int .u64 set.c, .int .u64 set.d, .int .i64 mn, .int .i64 mx, .bool lz, .int .i64 nn, .slice ka kn kc] 91)) = wa at *
  go_wp2_with fail
  refine Calls.mono HCall.out ?_
  rw [HX.out]
  intro e w3 q
  have HQ : Hid (Laid w0 wb v L cv w X e w3) := q.ahead HW.out.2.1
  clear q HCall
  cases X with
  | none =>
    obtain ⟨rfl, f3⟩ := HQ.out
    have HFa : Hid _ := f3
    unfold TooLong
    clear f3
    go_wp2_with fail
    exact ⟨rfl, rfl, HFa.out⟩
  | some x' =>
    obtain ⟨rfl, q3⟩ := HQ.out
    have HFa : Hid _ := q3
    clear q3
    go_wp2_with fail
    go_end0
    exact ⟨rfl, HFa.out⟩
set_option maxHeartbeats 2000000 in
theorem node_leaf {c : Nat} {set : S4} {mn mx : Int} {lz : Bool} {nn : Int} {x : List Ins × Nat} {cv : Value} {w : World} {op : Nat} {ka : Option Addr} {kn kc : Nat} (h : Wr w0 wb v L x cv w) (hx : Okx x) (hop : op ≠ 1 ∧ op ≠ 6 ∧ op ≠ 7 ∧ op ≠ 8) :
    Calls Tryz.prog 38 #[.pointer (some ⟨wb, 0, none⟩), .agg #[.int .u8 op, .int .u8 c, .int .u64 set.a, .int .u64 set.b, .int .u64 set.c, .int .u64 set.d, .int .i64 mn, .int .i64 mx, .bool lz, .int .i64 nn, .slice ka kn kc]] w (Laid w0 wb v L cv w (runT (.leaf (leafI ⟨op, c, set, mn, mx, lz, nn, []⟩)) x)) := by
  obtain ⟨bn, hbn⟩ : ∃ bn, w.heap.size = bn := ⟨_, rfl⟩
  have hB : (w.alloc (.cells #[.int .u8 op, .int .u8 c, .int .u64 set.a, .int .u64 set.b, .int .u64 set.c, .int .u64 set.d, .int .i64 mn, .int .i64 mx, .bool lz, .int .i64 nn, .slice ka kn kc] 91)).heap[bn]? = some (.cells #[.int .u8 op, .int .u8 c, .int .u64 set.a, .int .u64 set.b, .int .u64 set.c, .int .u64 set.d, .int .i64 mn, .int .i64 mx, .bool lz, .int .i64 nn, .slice ka kn kc] 91) := by rw [← hbn]; exact alloc_new w _
  have HW : Hid (Wr w0 wb v L x cv (w.alloc (.cells #[.int .u8 op, .int .u8 c, .int .u64 set.a, .int .u64 set.b, .int .u64 set.c, .int .u64 set.d, .int .i64 mn, .int .i64 mx, .bool lz, .int .i64 nn, .slice ka kn kc] 91)) ∧ Adw wb cv w cv (w.alloc (.cells #[.int .u8 op, .int .u8 c, .int .u64 set.a, .int .u64 set.b, .int .u64 set.c, .int .u64 set.d, .int .i64 mn, .int .i64 mx, .bool lz, .int .i64 nn, .slice ka kn kc] 91)) ∧ Okx x) := ⟨h.kpp (kp_alloc _ _), Adw.kp _ _ (kp_alloc _ _), hx⟩
  have n0 := cell_at hB 0
  have n1 := cell_at hB 1
  have n2 := cell_at hB 2
  have n3 := cell_at hB 3
  have n4 := cell_at hB 4
  have n5 := cell_at hB 5
  have n6 := cell_at hB 6
  have n7 := cell_at hB 7
  have n8 := cell_at hB 8
  have n9 := cell_at hB 9
  have n10 := cell_at hB 10
  simp only [List.getElem?_toArray, List.getElem?_cons_zero, List.getElem?_cons_succ] at n0 n1 n2 n3 n4 n5 n6 n7 n8 n9 n10
  have e1 : ((op : Int) == 1) = false := by simp; omega
  have e6 : ((op : Int) == 6) = false := by simp; omega
  have e7 : ((op : Int) == 7) = false := by simp; omega
  have e8 : ((op : Int) == 8) = false := by simp; omega
  have hF : runI (leafI ⟨op, c, set, mn, mx, lz, nn, []⟩) x = runT (.leaf (leafI ⟨op, c, set, mn, mx, lz, nn, []⟩)) x := by rw [runI_app, runT_app]; rfl
  have HLeaf : Hid (Calls Tryz.prog 50 #[.agg #[.int .u8 op, .int .u8 c, .int .u64 set.a, .int .u64 set.b, .int .u64 set.c, .int .u64 set.d, .int .i64 mn, .int .i64 mx, .bool lz, .int .i64 nn, .slice ka kn kc]] (w.alloc (.cells #[.int .u8 op, .int .u8 c, .int .u64 set.a, .int .u64 set.b, .int .u64 set.c, .int .u64 set.d, .int .i64 mn, .int .i64 mx, .bool lz, .int .i64 nn, .slice ka kn kc] 91)) fun e w' => e = .returned (leafI ⟨op, c, set, mn, mx, lz, nn, []⟩).val ∧ Kp (w.alloc (.cells #[.int .u8 op, .int .u8 c, .int .u64 set.a, .int .u64 set.b, .int .u64 set.c, .int .u64 set.d, .int .i64 mn, .int .i64 mx, .bool lz, .int .i64 nn, .slice ka kn kc] 91)) w') := leaf_any ⟨op, c, set, mn, mx, lz, nn, []⟩ ka kn kc _
  obtain ⟨X, hX⟩ : ∃ X, runT (.leaf (leafI ⟨op, c, set, mn, mx, lz, nn, []⟩)) x = X := ⟨_, rfl⟩
  have HX : Hid (runT (.leaf (leafI ⟨op, c, set, mn, mx, lz, nn, []⟩)) x = X) := hX
  rw [hX]
  clear h hx hX hB hop
  go_enter Tryz.func38, Tryz.ntmps38
  go_upto_region 1 with fail
  clear hbn
  generalize (w.alloc (.cells #[.int .u8 op, .int .u8 c, .int .u64 set.a, .int .u64 set.b, .int .u64 set.c, .int .u64 set.d, .int .i64 mn, .int .i64 mx, .bool lz, .int .i64 nn, .slice ka kn kc] 91)) = wa at *
  go_wp2_with fail
  refine Calls.mono HLeaf.out ?_
  rintro e w1 ⟨rfl, k1⟩
  obtain ⟨i, hi⟩ : ∃ i, leafI ⟨op, c, set, mn, mx, lz, nn, []⟩ = i := ⟨_, rfl⟩
  have HXi : Hid (runI i x = X) := by rw [← hi]; exact hF.trans HX.out
  rw [hi]
  have HL : Hid (Calls Tryz.prog 32 #[.pointer (some ⟨wb, 0, none⟩), i.val] w1 (LayP w0 wb v L cv w1 x.1.length X)) := by
    have := lay_any (HW.out.1.kpp k1) HW.out.2.2.1 i
    rw [HXi.out] at this
    exact this
  have HA : Hid (Adw wb cv w cv w1) := HW.out.2.1.trans (Adw.kp _ _ k1)
  clear k1 hi HLeaf hF
  unfold Ins.val at HL ⊢
  go_wp2_with fail
  refine Calls.mono HL.out ?_
  intro e w3 q
  cases X with
  | none =>
    obtain ⟨rfl, f3⟩ := q
    have HFa : Hid (Fr (Wb wb cv) w w3) := HA.out.fail f3
    unfold TooLong
    clear f3
    go_wp2_with fail
    exact ⟨rfl, rfl, HFa.out⟩
  | some x' =>
    obtain ⟨rfl, cv3, q1, q2⟩ := q
    have HFa : Hid (Wr w0 wb v L x' cv3 w3 ∧ Adw wb cv w cv3 w3) := ⟨q1, HA.out.trans q2⟩
    clear q1 q2
    go_wp2_with fail
    go_end0
    exact ⟨rfl, _, HFa.out⟩
theorem nodeC {m : Nat} (hC : ∀ k, k < m → CodeOf w0 wb v L k) : NodeC w0 wb v L m := by
  intro a t x cv kv w ht hs h5 h hks hx
  cases m with
  | zero => cases ht
  | succ m =>
    have hc := hC m (by omega)
    obtain ⟨d, hd⟩ : ∃ d, nodeAt L a = d := ⟨_, rfl⟩
    have hcs := toT_node ht h5
    rw [hd] at hcs hks ⊢
    obtain ⟨ka, kc, hkv, hl1, hl2, _⟩ := id hks
    rcases hcs with ⟨e, rfl⟩ | ⟨e, k1, ts, hm, rfl⟩ | ⟨e, k1, hb, k, hk, rfl⟩ | ⟨e, k1, hb, k, hk, rfl⟩ | ⟨e, rfl⟩
    · subst hkv
      obtain ⟨op, c, set, mn, mx, lz, nn, kids⟩ := d
      simp only at e
      subst e
      exact node_empty h hx
    · subst hkv
      have hlen := (mapT_get hm).1
      have := len_altOf ts
      have hts : ∀ t ∈ ts, t.size ≤ 1000000 := fun t q => Nat.le_trans (size_altOf ts t q) hs
      obtain ⟨op, c, set, mn, mx, lz, nn, kids⟩ := d
      simp only at e
      subst e
      exact node_alt h hx hc hm hts k1 (by omega) rfl hks
    · obtain ⟨kb, ko, kc', rfl, hkc, hkd⟩ := one_kid hks k1
      have hks' : k.size ≤ 1000000 := by simp only [PT.size] at hs; omega
      obtain ⟨op, c, set, mn, mx, lz, nn, kids⟩ := d
      simp only at e
      subst e
      exact node_many h hx hc hk hks' hkd hkc hb
    · obtain ⟨kb, ko, kc', rfl, hkc, hkd⟩ := one_kid hks k1
      have hks' : k.size ≤ 1000000 := by simp only [PT.size] at hs; omega
      obtain ⟨op, c, set, mn, mx, lz, nn, kids⟩ := d
      simp only at e
      subst e
      exact node_group h hx hc hk hks' hkd hkc hb
    · subst hkv
      obtain ⟨op, c, set, mn, mx, lz, nn, kids⟩ := d
      exact node_leaf h hx e
/-- codeOf lays the tree's code. -/
theorem codeOf_any (m : Nat) : CodeOf w0 wb v L m := by
  induction m using Nat.strongRecOn with
  | _ m ih => exact codeOf_of fun k hk => nodeC fun j hj => ih j (by omega)
end
end Go.Proofs.YtlgemficalcghaaGreat
/- The writer's write; Compile. -/
namespace Go.Proofs.YtlgemficalcghaaGreat
open Go.ChangeShapes Go.WideShapes Go.ChangeAt Go.RowKit
set_option linter.unusedVariables false
set_option linter.unusedSimpArgs false
/-- A pattern's program. -/
def progF (t : PT) : Option (List Ins × Nat) := (runT t ([], 0)).bind (runI { op := 14 })
set_option maxHeartbeats 2000000 in
set_option maxRecDepth 100000 in
theorem wcatch_idle (e : Addr) (w : World) :
    CallsD Tryz.prog 30 #[.pointer (some e)] .returning w fun e u' w' => e = .returned (.tuple #[]) ∧ u' = .returning ∧ w' = w := by
  refine callsD_of_wpS Tryz.func30 rfl fun c₀ cs hu => ?_
  apply wpS_seq
  apply wpS_region
  simp [wpOpsS, go_sem, recoverD, hu, Tryz.ntmps30, Exit.thenS]
  rw [show (#[.pointer (some e)] ++ (Array.replicate 5 undef).setIfInBounds 0 Value.nilIface : Array Value) = #[.pointer (some e), .nilIface, undef, undef, undef, undef] from rfl]
  refine wpS_of_wp ?_
  go_wp2_with fail
  cases c₀
  simp_all [bodyPostS, results, Tryz.results30]
theorem long_assert (w : World) : Sem.run Tryz.prog (Instr.typeAssert (Value.iface 77 (.agg #[])) 20 77 true) w = .ok (.tuple #[.agg #[], .bool true]) w := by kernel_rfl
set_option maxHeartbeats 2000000 in
set_option maxRecDepth 100000 in
theorem wcatch_long (be : Nat) (older : List PanicEntry) (w : World) {u : Value} (h : One be u 27 w) :
    CallsD Tryz.prog 30 #[.pointer (some ⟨be, 0, none⟩)] (.panicking ({ v := .iface 77 (.agg #[]), recovered := false } :: older)) w fun e u' w' =>
      e = .returned (.tuple #[]) ∧ u' = .panicking ({ v := .iface 77 (.agg #[]), recovered := true } :: older) ∧ w' = w.setCell ⟨be, 0, none⟩ (.int .u16 33) := by
  obtain ⟨c0, f0⟩ := h.cell
  clear h
  refine callsD_of_wpS Tryz.func30 rfl fun c₀ cs hu => ?_
  apply wpS_seq
  apply wpS_region
  simp [wpOpsS, go_sem, recoverD, hu, Tryz.ntmps30, Exit.thenS]
  rw [show (#[.pointer (some ⟨be, 0, none⟩)] ++ (Array.replicate 5 undef).setIfInBounds 0 (Value.iface 77 (.agg #[])) : Array Value) = #[.pointer (some ⟨be, 0, none⟩), Value.iface 77 (.agg #[]), undef, undef, undef, undef] from rfl]
  refine wpS_of_wp ?_
  have hTA := fun (w : World) => long_assert w
  go_wp2_with fail
  cases c₀
  simp_all [bodyPostS, results, Tryz.results30]
section
variable {w0 : World} {wb : Nat} {v cv : Value} {L : List Nq} {w w1 : World} {n : Nat}
theorem One.fr {b : Nat} {u : Value} {t : TypeId} {S : Nat → Prop} (h : One b u t w) (f : Fr S w w1) (hn : ¬ S b) : One b u t w1 := by unfold One at *; rw [f.block b (Array.getElem?_eq_some_iff.1 h).1 hn]; exact h
/-- What write comes to. -/
def WrP (w0 : World) (wb : Nat) (v : Value) (L : List Nq) (cv : Value) (w : World) (X : Option (List Ins × Nat)) (e : Ending) (w' : World) : Prop :=
  match X with
  | some x => e = .returned (.int .u16 0) ∧ ∃ cv', Wr w0 wb v L x cv' w' ∧ Adw wb cv w cv' w'
  | none => e = .returned (.int .u16 33) ∧ Fr (Wb wb cv) w w'
set_option maxHeartbeats 4000000 in
set_option maxRecDepth 100000 in
theorem write_any {root : Int} {t : PT} (ht : toT L n root = some t) (hs : t.size ≤ 1000000) (h : Wr w0 wb v L ([], 0) cv w) :
    Calls Tryz.prog 20 #[.pointer (some ⟨wb, 0, none⟩), .int .i64 root] w (WrP w0 wb v L cv w (progF t)) := by
  have hmf : ∀ (fn : Fn) (first cap : Array Value) (w : World), (Instr.makeFunc fn first cap).run Tryz.prog w = .ok (.func fn first cap) w := fun _ _ _ _ => rfl
  have k0 : Kp w (w.alloc (.cells #[.int .u16 0] 27)) := kp_alloc _ _
  have HO : Hid (One w.heap.size (.int .u16 0) 27 (w.alloc (.cells #[.int .u16 0] 27))) := alloc_new w _
  have HC : Hid (Calls Tryz.prog 31 #[.pointer (some ⟨wb, 0, none⟩), .int .i64 root] (w.alloc (.cells #[.int .u16 0] 27)) (Laid w0 wb v L cv (w.alloc (.cells #[.int .u16 0] 27)) (runT t ([], 0)))) := codeOf_any n root t ([], 0) cv _ ht hs (h.kpp k0) ⟨by simp, by simp⟩
  have HW : Hid (Wr w0 wb v L ([], 0) cv w ∧ Offw w0 wb cv w.heap.size ∧ Adw wb cv w cv (w.alloc (.cells #[.int .u16 0] 27))) := ⟨h, h.new (Nat.le_refl _), Adw.kp _ _ k0⟩
  have HZ : Hid (w.heap.size < (w.alloc (.cells #[.int .u16 0] 27)).heap.size) := by show _ < _; rw [alloc_size]; omega
  obtain ⟨X, hX⟩ : ∃ X, progF t = X := ⟨_, rfl⟩
  have HX : Hid (progF t = X) := hX
  rw [hX]
  clear h ht hX k0
  cases hr : runT t ([], 0) with
  | none =>
    have hX : X = none := by rw [← HX.out]; unfold progF; rw [hr]; rfl
    subst hX
    rw [hr] at HC
    clear hr
    go_enter_defers Tryz.func20, Tryz.ntmps20
    go_wp2_with fail
    refine Calls.mono HC.out ?_
    rintro e w1 ⟨rfl, q⟩
    have O1 : One w.heap.size (.int .u16 0) 27 w1 := HO.out.fr q HW.out.2.1.not
    unfold TooLong
    refine leaves_cons (f := 30) (args := #[.pointer (some ⟨w.heap.size, 0, none⟩)]) (by simp) (by simp [go_sem]) ?_
    refine (wcatch_long _ [] w1 O1).mono ?_
    rintro e u' w2 ⟨rfl, rfl, rfl⟩
    have y0 := (O1.set (.int .u16 33)).cell.1
    have HE : Hid (Fr (Wb wb cv) w (w1.setCell ⟨w.heap.size, 0, none⟩ (.int .u16 33))) := (HW.out.2.2.fail q).trans' (fr_set _ _ _ _) fun k hk z => by unfold On at z; omega
    clear O1 q
    simp [Leaves, settle, results, Tryz.results20, go_sem, y0]
    exact ⟨rfl, HE.out⟩
  | some y =>
    rw [hr] at HC
    have HR : Hid (runT t ([], 0) = some y) := hr
    clear hr
    go_enter_defers Tryz.func20, Tryz.ntmps20
    go_wp2_with fail
    refine Calls.mono HC.out ?_
    rintro e w1 ⟨rfl, cv1, q1, q2⟩
    have HQ : Hid (Wr w0 wb v L y cv1 w1 ∧ Adw wb cv w cv1 w1 ∧ One w.heap.size (.int .u16 0) 27 w1 ∧ Offw w0 wb cv1 w.heap.size) := ⟨q1, HW.out.2.2.trans q2, HO.out.fr q2.fr HW.out.2.1.not, HW.out.2.1.adv q2 HZ.out⟩
    have HL : Hid (Calls Tryz.prog 32 #[.pointer (some ⟨wb, 0, none⟩), .agg #[.int .u8 14, .int .u8 0, .int .u64 0, .int .u64 0, .int .u64 0, .int .u64 0, .int .i64 0, .int .i64 0]] w1 (LayP w0 wb v L cv1 w1 y.1.length (runI { op := 14 } y))) := lay_any q1 (runT_ge HR.out) { op := 14 }
    clear q1 q2
    go_wp2_with fail
    cases hr2 : runI { op := 14 } y with
    | none =>
      have hX : X = none := by rw [← HX.out]; unfold progF; rw [HR.out, Option.bind_some, hr2]
      subst hX
      rw [hr2] at HL
      refine Calls.mono HL.out ?_
      rintro e w2 ⟨rfl, q⟩
      have O1 : One w.heap.size (.int .u16 0) 27 w2 := HQ.out.2.2.1.fr q HQ.out.2.2.2.not
      have HFl : Hid (Fr (Wb wb cv) w w2) := HQ.out.2.1.fail q
      unfold TooLong
      clear q
      refine leaves_cons (f := 30) (args := #[.pointer (some ⟨w.heap.size, 0, none⟩)]) (by simp) (by simp [go_sem]) ?_
      refine (wcatch_long _ [] w2 O1).mono ?_
      rintro e u' w3 ⟨rfl, rfl, rfl⟩
      have y0 := (O1.set (.int .u16 33)).cell.1
      have HE : Hid (Fr (Wb wb cv) w (w2.setCell ⟨w.heap.size, 0, none⟩ (.int .u16 33))) := HFl.out.trans' (fr_set _ _ _ _) fun k hk z => by unfold On at z; omega
      clear O1
      simp [Leaves, settle, results, Tryz.results20, go_sem, y0]
      exact ⟨rfl, HE.out⟩
    | some x =>
      have hX : X = some x := by rw [← HX.out]; unfold progF; rw [HR.out, Option.bind_some, hr2]
      subst hX
      rw [hr2] at HL
      refine Calls.mono HL.out ?_
      rintro e w2 ⟨rfl, cv2, q1, q2⟩
      have O1 : One w.heap.size (.int .u16 0) 27 w2 := HQ.out.2.2.1.fr q2.fr HQ.out.2.2.2.not
      have HF : Hid (Wr w0 wb v L x cv2 w2 ∧ Adw wb cv w cv2 w2 ∧ Offw w0 wb cv2 w.heap.size ∧ One w.heap.size (.int .u16 0) 27 w2) := ⟨q1, HQ.out.2.1.trans q2, HQ.out.2.2.2.adv q2 (Array.getElem?_eq_some_iff.1 HQ.out.2.2.1).1, O1⟩
      obtain ⟨c4, f4⟩ := O1.cell
      clear q1 q2 O1 hr2
      go_wp2_with fail
      refine leaves_cons (f := 30) (args := #[.pointer (some ⟨w.heap.size, 0, none⟩)]) (by simp) (by simp [go_sem]) ?_
      refine (wcatch_idle _ _).mono ?_
      rintro e u' w3 ⟨rfl, rfl, rfl⟩
      have y0 := (HF.out.2.2.2.set (.int .u16 0)).cell.1
      have fz : Fr (On w.heap.size) w2 (w2.setCell ⟨w.heap.size, 0, none⟩ (.int .u16 0)) := fr_set _ _ _ _
      have HE : Hid (Wr w0 wb v L x cv2 (w2.setCell ⟨w.heap.size, 0, none⟩ (.int .u16 0)) ∧ Adw wb cv w cv2 (w2.setCell ⟨w.heap.size, 0, none⟩ (.int .u16 0))) := by
        refine ⟨HF.out.1.off fz fun j hj => ?_, HF.out.2.1.fr.trans' fz fun k hk z => ?_, HF.out.2.1.own⟩
        · unfold On at hj; subst hj; exact HF.out.2.2.1
        · unfold On at z; omega
      clear c4 f4 fz
      simp [Leaves, settle, results, Tryz.results20, go_sem, y0]
      exact ⟨rfl, _, HE.out⟩
def foldsB (cs : Nat) (f : Bool) : Bool := if cs = 0 then f else cs == 1
theorem folds_any (cs : Nat) (f : Bool) (w : World) : Calls Tryz.prog 21 #[.int .u8 cs, .bool f] w fun e w' => e = .returned (.bool (foldsB cs f)) ∧ w' = w := by
  unfold foldsB
  by_cases h : cs = 0
  · subst h
    go_enter Tryz.func21, Tryz.ntmps21
    go_wp2
    go_ret
    exact ⟨rfl, rfl⟩
  · have d0 : ((cs : Int) == 0) = false := by simp; omega
    have e : (cs == 1) = ((cs : Int) == 1) := by
      by_cases q : cs = 1
      · subst q; rfl
      · rw [beq_eq_false_iff_ne.2 q, beq_eq_false_iff_ne.2 (by omega)]
    rw [if_neg h, e]
    clear h e
    go_enter Tryz.func21, Tryz.ntmps21
    go_wp2
    go_ret
    exact ⟨rfl, rfl⟩
end
end Go.Proofs.YtlgemficalcghaaGreat
/- Compile. -/
namespace Go.Proofs.YtlgemficalcghaaGreat
open Go.ChangeShapes Go.WideShapes Go.ChangeAt Go.RowKit
set_option linter.unusedVariables false
set_option linter.unusedSimpArgs false
/-- What Compile comes to. -/
def CmpP (w : World) (X : Option (List Ins × Nat)) (f : Bool) (e : Ending) (w' : World) : Prop :=
  match X with
  | some x => ∃ cv, e = .returned (.tuple #[.agg #[cv, .int .i64 x.2, .bool f], .int .u16 0]) ∧ w'.ownsRow w.heap.size 39 8 cv x.1.length (flatI x.1) ∧ Kp w w'
  | none => e = .returned (.tuple #[.agg #[.slice none 0 0, .int .i64 0, .bool false], .int .u16 33]) ∧ Kp w w'
/-- An answer's box: a program. -/
def PgBox (b : Nat) (x y z : Value) (w : World) : Prop := w.heap[b]? = some (.cells #[x, y, z] 32 (0, 0))
section
variable {w w1 : World} {v : Value} {L : List Nq} {n : Nat}
theorem PgBox.cells {b : Nat} {x y z : Value} (h : PgBox b x y z w) : (w.cell? ⟨b, 0, none⟩ = some x ∧ w.cell? ⟨b, 1, none⟩ = some y ∧ w.cell? ⟨b, 2, none⟩ = some z) ∧ ∀ j, w.frozen? ⟨b, j, none⟩ = false := by
  unfold PgBox at h
  exact ⟨⟨by simp [World.cell?, h], by simp [World.cell?, h], by simp [World.cell?, h]⟩, fun j => by simp [World.frozen?, h]⟩
theorem PgBox.fr {b : Nat} {x y z : Value} {S : Nat → Prop} (h : PgBox b x y z w) (f : Fr S w w1) (hn : ¬ S b) : PgBox b x y z w1 := by unfold PgBox at *; rw [f.block b (Array.getElem?_eq_some_iff.1 h).1 hn]; exact h
theorem PgBox.put {b : Nat} {x y z : Value} (h : PgBox b x y z w) (x' y' z' : Value) : PgBox b x' y' z' (((w.setCell ⟨b, 0, none⟩ x').setCell ⟨b, 1, none⟩ y').setCell ⟨b, 2, none⟩ z') := by
  unfold PgBox at *
  have q0 := heap_setCell (off := 0) (v := x') h
  have q1 := heap_setCell (off := 1) (v := y') q0
  exact heap_setCell (off := 2) (v := z') q1
theorem fr_three (b : Nat) (x y z : Value) (w : World) : Fr (On b) w (((w.setCell ⟨b, 0, none⟩ x).setCell ⟨b, 1, none⟩ y).setCell ⟨b, 2, none⟩ z) :=
  ((fr_set b 0 x w).trans (fr_set b 1 y _)).trans (fr_set b 2 z _)
theorem PBox.fr {b : Nat} {v : Value} {i g : Int} {c : Nat} {S : Nat → Prop} (h : PBox b v i g c w) (f : Fr S w w1) (hn : ¬ S b) : PBox b v i g c w1 := by unfold PBox at *; rw [f.block b (Array.getElem?_eq_some_iff.1 h).1 hn]; exact h
theorem wr_start (hv : Pt w v L) (k : Kp w w1) : Wr w w1.heap.size v L ([], 0) (.slice none 0 0) (w1.alloc (.cells #[v, .slice none 0 0, .int .i64 0] 55)) :=
  ⟨kp_trans k (kp_alloc _ _), hv, k.size, alloc_new w1 _, World.ownsRow_nil _ _ _ _, fun e => by cases e⟩
/-- What the last statement reads. -/
def S7 (wb pb : Nat) (cv : Value) (r cs : Nat) (w : World) : Prop := w.cell? ⟨wb, 1, none⟩ = some cv ∧ w.cell? ⟨wb, 2, none⟩ = some (.int .i64 r) ∧ w.cell? ⟨pb, 3, none⟩ = some (.int .u8 cs)
set_option maxHeartbeats 4000000 in
set_option maxRecDepth 100000 in
theorem compile_ok {K : Nat} {root G : Int} {cs : Nat} {fold : Bool} {t : PT} (hv : Pt w v L) (hK : ∀ d ∈ L, d.kids.length ≤ K) (hM : K * L.length ≤ 10000000) (hL : L.length ≤ 10000000) (hsnd : soundF L root G = true) (ht : toT L n root = some t) (hs : t.size ≤ 1000000) :
    Calls Tryz.prog 10 #[.agg #[v, .int .i64 root, .int .i64 G, .int .u8 cs], .bool fold] w (CmpP w (progF t) (foldsB cs fold)) := by
  obtain ⟨va, vc, rfl, vl1, vl2, hzz⟩ := id hv
  clear hzz
  obtain ⟨N, hN⟩ : ∃ N, L.length = N := ⟨_, rfl⟩
  have k0 : Kp w ((w.alloc (.cells #[.slice va N vc, .int .i64 root, .int .i64 G, .int .u8 cs] 25)).alloc (.cells #[.slice none 0 0, .int .i64 0, .bool false] 32)) := kp_trans (kp_alloc _ _) (kp_alloc _ _)
  have HS : Hid (Calls Tryz.prog 19 #[.agg #[.slice va N vc, .int .i64 root, .int .i64 G, .int .u8 cs]] ((w.alloc (.cells #[.slice va N vc, .int .i64 root, .int .i64 G, .int .u8 cs] 25)).alloc (.cells #[.slice none 0 0, .int .i64 0, .bool false] 32)) fun e w' => e = .returned (.bool true) ∧ Kp w w' ∧ PBox w.heap.size (.slice va N vc) root G cs w' ∧ PgBox (w.heap.size + 1) (.slice none 0 0) (.int .i64 0) (.bool false) w') := by
    have hv' := hv.kp k0
    have := sound_any hv' root G cs hK hM hL
    rw [hsnd, hN] at this
    refine this.mono ?_
    rintro e w' ⟨rfl, q⟩
    refine ⟨rfl, kp_trans k0 q, ?_, ?_⟩
    · unfold PBox
      rw [q.block _ (by simp only [alloc_size]; omega), alloc_old _ _ _ (by simp only [alloc_size]; omega)]
      exact alloc_new w _
    · unfold PgBox
      rw [q.block _ (by simp only [alloc_size]; omega)]
      have := alloc_new (w.alloc (.cells #[.slice va N vc, .int .i64 root, .int .i64 G, .int .u8 cs] 25)) (.cells #[.slice none 0 0, .int .i64 0, .bool false] 32)
      rw [alloc_size] at this
      exact this
  have HV : Hid (Pt w (.slice va N vc) L) := by rw [hN] at hv; exact hv
  have HT : Hid (∀ wb cv w', Wr w wb (.slice va N vc) L ([], 0) cv w' → Calls Tryz.prog 20 #[.pointer (some ⟨wb, 0, none⟩), .int .i64 root] w' (WrP w wb (.slice va N vc) L cv w' (progF t))) := fun wb cv w' h => write_any ht hs h
  obtain ⟨X, hX⟩ : ∃ X, progF t = X := ⟨_, rfl⟩
  rw [hX] at HT ⊢
  rw [hN]
  clear hv hK hM hL hsnd ht hs vl1 vl2 hN k0 hX
  go_enter Tryz.func10, Tryz.ntmps10
  go_wp2_with fail
  refine Calls.mono HS.out ?_
  rintro e w1 ⟨rfl, k1, p1, p2⟩
  have HQ : Hid (Kp w w1 ∧ PBox w.heap.size (.slice va N vc) root G cs w1 ∧ PgBox (w.heap.size + 1) (.slice none 0 0) (.int .i64 0) (.bool false) w1) := ⟨k1, p1, p2⟩
  obtain ⟨b0, b1, b2, b3⟩ := p1.cells
  clear k1 p1 p2 HS
  have HR : Hid (Wr w w1.heap.size (.slice va N vc) L ([], 0) (.slice none 0 0) (w1.alloc (.cells #[.slice va N vc, .slice none 0 0, .int .i64 0] 55)) ∧ PBox w.heap.size (.slice va N vc) root G cs (w1.alloc (.cells #[.slice va N vc, .slice none 0 0, .int .i64 0] 55)) ∧ PgBox (w.heap.size + 1) (.slice none 0 0) (.int .i64 0) (.bool false) (w1.alloc (.cells #[.slice va N vc, .slice none 0 0, .int .i64 0] 55))) :=
    ⟨wr_start HV.out HQ.out.1, HQ.out.2.1.kp (kp_alloc _ _), HQ.out.2.2.fr (S := fun _ => False) (Fr.of_below (kp_alloc _ _)) (fun q => q)⟩
  have HZ : Hid (w.heap.size + 1 < w1.heap.size) := (Array.getElem?_eq_some_iff.1 HQ.out.2.2).1
  go_upto_region 4 with fail
  obtain ⟨wb, hwb⟩ : ∃ wb, w1.heap.size = wb := ⟨_, rfl⟩
  rw [hwb] at HR HZ ⊢
  clear hwb b0 b1 b2 b3
  generalize (w1.alloc (.cells #[.slice va N vc, .slice none 0 0, .int .i64 0] 55)) = wc at HR ⊢
  obtain ⟨b0, b1, b2, b3⟩ := HR.out.2.1.cells
  go_wp2_with fail
  refine Calls.mono (HT.out _ _ _ HR.out.1) ?_
  intro e w2 q
  cases X with
  | none =>
    obtain ⟨rfl, f2⟩ := q
    have HF : Hid (Kp w w2 ∧ PgBox (w.heap.size + 1) (.slice none 0 0) (.int .i64 0) (.bool false) w2) := ⟨HR.out.1.kpf f2, HR.out.2.2.fr f2 fun z => by
      have := HZ.out
      rcases z with z | z
      · omega
      · cases z⟩
    obtain ⟨⟨g0, g1, g2⟩, fz⟩ := HF.out.2.cells
    have f0 := fz 0
    have f1 := fz 1
    have f2' := fz 2
    clear f2 fz b0 b1 b2 b3
    go_wp2_with fail
    have hp := HF.out.2.put (.slice none 0 0) (.int .i64 0) (.bool false)
    obtain ⟨⟨e0, e1, e2⟩, _⟩ := hp.cells
    refine bodyPost_ret (v := .tuple #[.agg #[.slice none 0 0, .int .i64 0, .bool false], .int .u16 33]) (by simp [results, Tryz.results10, go_sem, e0, e1, e2]) rfl ⟨rfl, ?_⟩
    exact HF.out.1.trans ((fr_three _ _ _ _ _).below HF.out.1.size fun k hk z => by unfold On at z; omega)
  | some x =>
    obtain ⟨rfl, cv, q1, q2⟩ := q
    obtain ⟨ca, cc, rfl, _, _⟩ := owns_form q1.row
    obtain ⟨cx, r⟩ := x
    obtain ⟨M, hM⟩ : ∃ M, cx.length = M := ⟨_, rfl⟩
    simp only at q1 q2 ⊢
    rw [hM] at q1 q2
    have hof1 : ¬ Wb wb (.slice none 0 0) w.heap.size := fun z => by
      have := HZ.out
      rcases z with z | z
      · omega
      · cases z
    have hof2 : ¬ Wb wb (.slice none 0 0) (w.heap.size + 1) := fun z => by
      have := HZ.out
      rcases z with z | z
      · omega
      · cases z
    have HF : Hid (Wr w wb (.slice va N vc) L (cx, r) (.slice ca M cc) w2 ∧ PBox w.heap.size (.slice va N vc) root G cs w2 ∧ PgBox (w.heap.size + 1) (.slice none 0 0) (.int .i64 0) (.bool false) w2 ∧ cx.length = M) := ⟨q1, HR.out.2.1.fr q2.fr hof1, HR.out.2.2.fr q2.fr hof2, hM⟩
    have HOff : Hid ((Value.slice ca M cc).ownBlock ≠ some (w.heap.size + 1) ∧ wb ≠ w.heap.size + 1) := by
      refine ⟨fun z => ?_, by have := HZ.out; omega⟩
      rcases q1.row.2 with ⟨e, _⟩ | ⟨g, cap, cur, e, _, hg, _⟩
      · rw [e] at z; cases z
      · rw [e] at z
        simp only [Value.ownBlock, Option.some.injEq] at z
        subst z
        have := HF.out.2.2.1
        unfold PgBox at this
        rw [hg] at this
        simp at this
    clear q1 q2 hof1 hof2 hM b0 b1 b2 b3
    go_upto_region 7 with fail
    have hS0 : S7 wb w.heap.size (.slice ca M cc) r cs w2.drew := ⟨HF.out.1.c.1.2.1, HF.out.1.c.1.2.2, HF.out.2.1.cells.2.2.2⟩
    have rl1 : ∀ w', S7 wb w.heap.size (.slice ca M cc) r cs w' → w'.cell? ⟨wb, 1, none⟩ = some (.slice ca M cc) := fun _ h => h.1
    have rl2 : ∀ w', S7 wb w.heap.size (.slice ca M cc) r cs w' → w'.cell? ⟨wb, 2, none⟩ = some (.int .i64 r) := fun _ h => h.2.1
    have rl3 : ∀ w', S7 wb w.heap.size (.slice ca M cc) r cs w' → w'.cell? ⟨w.heap.size, 3, none⟩ = some (.int .u8 cs) := fun _ h => h.2.2
    refine wp_region_noPanic ?_
    refine wp_region_held_drew (S := S7 wb w.heap.size (.slice ca M cc) r cs) (by kernel_rfl) (hS0) (fun hHeld => ?_)
    refine takeAt 0 (some 22) ?_ rfl rfl (by kernel_rfl) (by kernel_rfl) (by kernel_rfl) (fun _ _ _ h => h) (Or.inl ⟨by rfl, ?_⟩) hHeld ?_
    rotate_left
    · intro w hSw
      go_simp <;> with_reducible rfl
    try simp only [Act.put, List.setIfInBounds_toArray, List.set_cons_zero, List.set_cons_succ]
    refine takeAt 1 (some 23) ?_ rfl rfl (by kernel_rfl) (by kernel_rfl) (by kernel_rfl) (fun _ _ _ h => h) (Or.inl ⟨by rfl, ?_⟩) hHeld ?_
    rotate_left
    · intro w hSw
      go_simp <;> with_reducible rfl
    try simp only [Act.put, List.setIfInBounds_toArray, List.set_cons_zero, List.set_cons_succ]
    refine takeAt 2 (some 24) ?_ rfl rfl (by kernel_rfl) (by kernel_rfl) (by kernel_rfl) (fun _ _ _ h => h) (Or.inl ⟨by rfl, ?_⟩) hHeld ?_
    rotate_left
    · intro w hSw
      go_simp <;> with_reducible rfl
    try simp only [Act.put, List.setIfInBounds_toArray, List.set_cons_zero, List.set_cons_succ]
    refine takeAt 3 (some 25) ?_ rfl rfl (by kernel_rfl) (by kernel_rfl) (by kernel_rfl) (fun _ _ _ h => h) (Or.inl ⟨by rfl, ?_⟩) hHeld ?_
    rotate_left
    · intro w hSw
      go_simp <;> with_reducible rfl
    try simp only [Act.put, List.setIfInBounds_toArray, List.set_cons_zero, List.set_cons_succ]
    refine takeAt 4 (some 26) ?_ rfl rfl (by kernel_rfl) (by kernel_rfl) (by kernel_rfl) (fun _ _ _ h => h) (Or.inl ⟨by rfl, ?_⟩) hHeld ?_
    rotate_left
    · intro w hSw
      go_simp <;> with_reducible rfl
    try simp only [Act.put, List.setIfInBounds_toArray, List.set_cons_zero, List.set_cons_succ]
    refine takeAt 5 (some 27) ?_ rfl rfl (by kernel_rfl) (by kernel_rfl) (by kernel_rfl) (fun _ _ _ h => h) (Or.inl ⟨by rfl, ?_⟩) hHeld ?_
    rotate_left
    · intro w hSw
      go_simp <;> with_reducible rfl
    try simp only [Act.put, List.setIfInBounds_toArray, List.set_cons_zero, List.set_cons_succ]
    refine takeAt 6 (some 28) ?_ rfl rfl (by kernel_rfl) (by kernel_rfl) (by kernel_rfl) (fun _ _ _ h => h) (Or.inl ⟨by rfl, ?_⟩) hHeld ?_
    rotate_left
    · intro w hSw
      go_simp <;> with_reducible rfl
    try simp only [Act.put, List.setIfInBounds_toArray, List.set_cons_zero, List.set_cons_succ]
    refine callAt 7 29 21 (vals := #[.int .u8 cs, .bool fold]) (by kernel_rfl) rfl rfl rfl rfl (by simp [Act.eval]) Tryz.func21 (by kernel_rfl) (by kernel_rfl) ?_
    refine Calls.mono (folds_any cs fold _) ?_
    rintro e wz ⟨rfl, rfl⟩
    refine ⟨_, rfl, hS0, fun hHeld => ?_⟩
    try simp only [Act.put, List.setIfInBounds_toArray, List.set_cons_zero, List.set_cons_succ]
    refine takeAt 8 (some 30) ?_ rfl rfl (by kernel_rfl) (by kernel_rfl) (by kernel_rfl) (fun _ _ _ h => h) (Or.inl ⟨by rfl, ?_⟩) hHeld ?_
    rotate_left
    · intro w hSw
      go_simp <;> with_reducible rfl
    try simp only [Act.put, List.setIfInBounds_toArray, List.set_cons_zero, List.set_cons_succ]
    have k2 : Kp w2 w2.drew := kp_drew _
    have HG : Hid (PgBox (w.heap.size + 1) (.slice none 0 0) (.int .i64 0) (.bool false) w2.drew ∧ Wr w wb (.slice va N vc) L (cx, r) (.slice ca M cc) w2.drew ∧ PBox w.heap.size (.slice va N vc) root G cs w2.drew) := ⟨HF.out.2.2.1, HF.out.1.kpp k2, HF.out.2.1⟩
    generalize w2.drew = x0 at HG hS0 hHeld ⊢
    obtain ⟨⟨g0, g1, g2⟩, fz⟩ := HG.out.1.cells
    have f0 := fz 0
    have f1 := fz 1
    have f2 := fz 2
    clear fz
    have hp := HG.out.1.put (.slice ca M cc) (.int .i64 r) (.bool (foldsB cs fold))
    have hfr := fr_three (w.heap.size + 1) (.slice ca M cc) (.int .i64 r) (.bool (foldsB cs fold)) x0
    have HE : Hid (PgBox (w.heap.size + 1) (.slice ca M cc) (.int .i64 r) (.bool (foldsB cs fold)) (((x0.setCell ⟨w.heap.size + 1, 0, none⟩ (.slice ca M cc)).setCell ⟨w.heap.size + 1, 1, none⟩ (.int .i64 r)).setCell ⟨w.heap.size + 1, 2, none⟩ (.bool (foldsB cs fold))) ∧ (((x0.setCell ⟨w.heap.size + 1, 0, none⟩ (.slice ca M cc)).setCell ⟨w.heap.size + 1, 1, none⟩ (.int .i64 r)).setCell ⟨w.heap.size + 1, 2, none⟩ (.bool (foldsB cs fold))).ownsRow w.heap.size 39 8 (.slice ca M cc) cx.length (flatI cx) ∧ Kp w (((x0.setCell ⟨w.heap.size + 1, 0, none⟩ (.slice ca M cc)).setCell ⟨w.heap.size + 1, 1, none⟩ (.int .i64 r)).setCell ⟨w.heap.size + 1, 2, none⟩ (.bool (foldsB cs fold)))) := by
      refine ⟨hp, row_fr HG.out.2.1.row hfr fun j hj z => ?_, HG.out.2.1.kp.trans (hfr.below HG.out.2.1.kp.size fun k hk z => ?_)⟩
      · unfold On at z; subst z; exact HOff.out.1 hj
      · unfold On at z; omega
    have HS9 : Hid (S7 wb w.heap.size (.slice ca M cc) r cs (((x0.setCell ⟨w.heap.size + 1, 0, none⟩ (.slice ca M cc)).setCell ⟨w.heap.size + 1, 1, none⟩ (.int .i64 r)).setCell ⟨w.heap.size + 1, 2, none⟩ (.bool (foldsB cs fold)))) := by
      have hq := hfr.block
      have w1 := HG.out.2.1.lt
      have w2 := (Array.getElem?_eq_some_iff.1 HG.out.2.2).1
      refine ⟨?_, ?_, ?_⟩
      · rw [World.cell?_of_block (hq wb w1 fun z => HOff.out.2 z)]; exact hS0.1
      · rw [World.cell?_of_block (hq wb w1 fun z => HOff.out.2 z)]; exact hS0.2.1
      · rw [World.cell?_of_block (hq w.heap.size w2 fun z => by unfold On at z; omega)]; exact hS0.2.2
    clear hp hfr
    refine wpAnyH_ready (rs := [9]) (by kernel_rfl) (by simp) ?_
    refine AllReadyH.cons rfl (fun K hK => ?_) AllReadyH.nil
    go_simp
    refine hK.out _ _ (HS9.out) (fun hHeld => ?_)
    clear hK K
    try simp only [Act.put, List.setIfInBounds_toArray, List.set_cons_zero, List.set_cons_succ]
    refine takeAt 10 (some 5) ?_ rfl rfl (by kernel_rfl) (by kernel_rfl) (by kernel_rfl) (fun _ _ _ h => h) (Or.inl ⟨by rfl, ?_⟩) hHeld ?_
    rotate_left
    · intro w hSw
      go_simp <;> with_reducible rfl
    try simp only [Act.put, List.setIfInBounds_toArray, List.set_cons_zero, List.set_cons_succ]
    refine wpAnyH_done (by kernel_rfl) ?_ _
    refine NoPanic.normal ?_
    go_wp2_with fail
    obtain ⟨⟨e0, e1, e2⟩, _⟩ := HE.out.1.cells
    refine bodyPost_ret (v := .tuple #[.agg #[.slice ca M cc, .int .i64 r, .bool (foldsB cs fold)], .int .u16 0]) (by simp [results, Tryz.results10, go_sem, e0, e1, e2]) rfl ?_
    exact ⟨_, rfl, HE.out.2⟩
end
end Go.Proofs.YtlgemficalcghaaGreat
/- Parse, told by what is seen; instructions held against one another. -/
namespace Go.Proofs.YtlgemficalcghaaGreat
open Go.ChangeShapes Go.WideShapes Go.ChangeAt Go.RowKit
set_option linter.unusedVariables false
set_option linter.unusedSimpArgs false
set_option maxRecDepth 100000
/-- What stands of the library's variables. -/
structure Gm (w : World) : Prop where
  big : 0 < w.heap.size
  max : ∃ m, w.cell? ⟨0, 0, none⟩ = some (.int .i64 m)
theorem Gm.kp {w w1 : World} (g : Gm w) (k : Kp w w1) : Gm w1 := ⟨Nat.lt_of_lt_of_le g.big k.size, by obtain ⟨m, hm⟩ := g.max; exact ⟨m, kp_cell k hm⟩⟩
/-- What is told of a pattern that was read. -/
def see (R : Except (Nat × Nat) (Nat × RS)) : Except (Nat × Nat) (Nat × Nat × Nat × List Nd) :=
  match R with
  | .ok (i, r) => .ok (i, r.g, r.cs, r.nds)
  | .error x => .error x
section
variable {w w1 : World}
theorem parse_ok (s last : ByteArray) (g : Gm w) {i gs cs : Nat} {nds : List Nd} (h : see (parF s last) = .ok (i, gs, cs, nds)) :
    Calls Tryz.prog 9 #[.string s, .string last] w fun e w' => ∃ va vc, e = .returned (.tuple #[.agg #[.slice va nds.length vc, .int .i64 i, .int .i64 gs, .int .u8 cs], .int .u16 0, .int .i64 0]) ∧ Pt w' (.slice va nds.length vc) (nds.map Nd.q) ∧ Kp w w' := by
  obtain ⟨m, hm⟩ := g.max
  have := parse_any s last g.big hm
  cases hR : parF s last with
  | error x => rw [hR] at h; cases h
  | ok x =>
    obtain ⟨j, r⟩ := x
    rw [hR] at h this
    simp only [see, Except.ok.injEq, Prod.mk.injEq] at h
    obtain ⟨rfl, rfl, rfl, rfl⟩ := h
    refine this.mono ?_
    rintro e w' ⟨v, rfl, q1, q2⟩
    obtain ⟨va, vc, e, _⟩ := id q1
    rw [List.length_map] at e
    subst e
    exact ⟨va, vc, rfl, q1, q2⟩
theorem parse_no (s last : ByteArray) (g : Gm w) {n p : Nat} (h : see (parF s last) = .error (n, p)) :
    Calls Tryz.prog 9 #[.string s, .string last] w fun e w' => e = .returned (.tuple #[.agg #[.slice none 0 0, .int .i64 0, .int .i64 0, .int .u8 0], .int .u16 n, .int .i64 p]) ∧ Kp w w' := by
  obtain ⟨m, hm⟩ := g.max
  have := parse_any s last g.big hm
  cases hR : parF s last with
  | error x =>
    rw [hR] at h this
    simp only [see, Except.error.injEq] at h
    subst h
    exact this
  | ok x => rw [hR] at h; cases h
end
def insB (a b : Ins) : Bool := (a.op : Int) == b.op && (a.c : Int) == b.c && ((a.set.a : Int) == b.set.a && (a.set.b : Int) == b.set.b && (a.set.c : Int) == b.set.c && (a.set.d : Int) == b.set.d) && a.x == b.x && a.y == b.y
theorem eq_setd (n : Nat) (a b c d a' b' c' d' : Int) (w : World) : (Op.equalIn (n + 2) 37 (.agg #[.int .u64 a, .int .u64 b, .int .u64 c, .int .u64 d]) (.agg #[.int .u64 a', .int .u64 b', .int .u64 c', .int .u64 d'])).run Tryz.prog w = .ok (a == a' && b == b' && c == c' && d == d') w := by
  have u3 := Tryz.underlying35
  have a3 := Tryz.isAgg35
  have z3 := Tryz.sizeOf35
  rw [Op.equalIn]
  simp only [Sem.run_bind, run_underlying Tryz.underlying37, Result.andThen_ok]
  simp only [Std.Legacy.Range.forIn_eq_forIn_range', Std.Legacy.Range.size, Nat.sub_zero, Nat.add_sub_cancel, Nat.div_one, List.range'_succ, List.range'_zero, List.forIn_cons, List.forIn_nil]
  go_simp
  by_cases h1 : a = a' <;> by_cases h2 : b = b' <;> by_cases h3 : c = c' <;> by_cases h4 : d = d' <;> simp [h1, h2, h3, h4]
theorem eq_inst (a b : Ins) (w : World) : (Op.equalIn 10000 39 (.agg #[.int .u8 a.op, .int .u8 a.c, .int .u64 a.set.a, .int .u64 a.set.b, .int .u64 a.set.c, .int .u64 a.set.d, .int .i64 a.x, .int .i64 a.y]) (.agg #[.int .u8 b.op, .int .u8 b.c, .int .u64 b.set.a, .int .u64 b.set.b, .int .u64 b.set.c, .int .u64 b.set.d, .int .i64 b.x, .int .i64 b.y])).run Tryz.prog w = .ok (insB a b) w := by
  rw [show (10000 : Nat) = 9999 + 1 from rfl, Op.equalIn]
  simp only [Sem.run_bind, run_underlying Tryz.underlying39, Result.andThen_ok]
  have hst : Tryz.prog.stoodInHeld 39 = false := by kernel_rfl
  have hpr : Sem.run Tryz.prog program w = .ok Tryz.prog w := rfl
  have u3 := Tryz.underlying3
  have a3 := Tryz.isAgg3
  have z3 := Tryz.sizeOf3
  have u5 := Tryz.underlying5
  have a5 := Tryz.isAgg5
  have z5 := Tryz.sizeOf5
  have u7 := Tryz.underlying37
  have a7 := Tryz.isAgg37
  have z7 := Tryz.sizeOf37
  have hq := eq_setd 9997
  rw [hpr]
  simp only [Result.andThen_ok, hst, Bool.false_eq_true, if_false, Sem.run_bind, List.forIn_toArray, List.forIn_cons, List.forIn_nil]
  go_simp
  clear hst hpr u3 a3 z3 u5 a5 z5 u7 a7 z7 hq
  unfold insB
  by_cases h1 : (a.op : Int) = b.op
  · by_cases h2 : (a.c : Int) = b.c
    · by_cases h7 : a.x = b.x
      · by_cases h8 : a.y = b.y
        · by_cases h3 : (a.set.a : Int) = b.set.a <;> by_cases h4 : (a.set.b : Int) = b.set.b <;> by_cases h5 : (a.set.c : Int) = b.set.c <;> by_cases h6 : (a.set.d : Int) = b.set.d <;> simp [h1, h2, h3, h4, h5, h6, h7, h8]
        · by_cases h3 : (a.set.a : Int) = b.set.a <;> by_cases h4 : (a.set.b : Int) = b.set.b <;> by_cases h5 : (a.set.c : Int) = b.set.c <;> by_cases h6 : (a.set.d : Int) = b.set.d <;> simp [h1, h2, h3, h4, h5, h6, h7, h8]
      · by_cases h3 : (a.set.a : Int) = b.set.a <;> by_cases h4 : (a.set.b : Int) = b.set.b <;> by_cases h5 : (a.set.c : Int) = b.set.c <;> by_cases h6 : (a.set.d : Int) = b.set.d <;> simp [h1, h2, h3, h4, h5, h6, h7]
    · simp [h1, h2]
  · simp [h1]
end Go.Proofs.YtlgemficalcghaaGreat
/- The law's known. -/
namespace Go.Proofs.YtlgemficalcghaaGreat
open Go.ChangeShapes Go.WideShapes Go.ChangeAt Go.RowKit
set_option linter.unusedVariables false
set_option linter.unusedSimpArgs false
set_option maxRecDepth 100000
def L1 : List Nd := [{ op := 2, c := 97 }, { op := 7, mn := 0, mx := -1, kids := [0] }]
theorem kn1 : see (parF ⟨#[97, 42]⟩ ⟨#[]⟩) = .ok (1, 0, 0, L1) := by kernel_rfl
theorem ks1 : soundF (L1.map Nd.q) 1 0 = true := by kernel_rfl
def T1 : PT := .many 0 none false (.leaf { op := 1, c := 97 })
theorem kt1 : toT (L1.map Nd.q) 3 1 = some T1 := by kernel_rfl
def C1 : List Ins := [{ op := 4, x := 1, y := 5 }, { op := 12 }, { op := 1, c := 97 }, { op := 13 }, { op := 5 }, { op := 14 }]
theorem kc1 : progF T1 = some (C1, 1) := by kernel_rfl
section
variable {w w1 : World}
/-- A program that was made: its code can be read. -/
def Cd (w : World) (cv : Value) (C : List Ins) : Prop := ∃ a cap, cv = .slice a C.length cap ∧ C.length ≤ cap ∧ cap ≤ maxLen ∧ ∀ i d, C[i]? = some d → ∃ b o, a = some ⟨b, o, none⟩ ∧ ∀ j u, d.cells[j]? = some u → w.cell? ⟨b, o + i * 8 + j, none⟩ = some u
theorem Cd.kp {cv : Value} {C : List Ins} (h : Cd w cv C) (k : Kp w w1) : Cd w1 cv C := by
  obtain ⟨a, cap, h1, h2, h3, h4⟩ := h
  refine ⟨a, cap, h1, h2, h3, fun i d hi => ?_⟩
  obtain ⟨b, o, e, q⟩ := h4 i d hi
  exact ⟨b, o, e, fun j u hj => kp_cell k (q j u hj)⟩
theorem row_cd {B : Nat} {cv : Value} {C : List Ins} (h : w.ownsRow B 39 8 cv C.length (flatI C)) : Cd w cv C := by
  obtain ⟨a, cap, e, h1, h2⟩ := owns_form h
  refine ⟨a, cap, e, h1, h2, fun i d hi => ?_⟩
  have hlt := (List.getElem?_eq_some_iff.1 hi).1
  rcases h.2 with ⟨_, q⟩ | ⟨g, cap', cur, e', hb, hg, q1, q2, q3, q4⟩
  · omega
  · rw [e'] at e
    injection e with e _ _
    refine ⟨g, 0, e.symm, fun j u hj => ?_⟩
    have hj8 : j < 8 := (List.getElem?_eq_some_iff.1 hj).1
    have := flatI_get hi j hj8
    rw [hj, ← q4, List.getElem?_take] at this
    rw [cell_at hg, Nat.zero_add]
    split at this
    · rw [Array.getElem?_toList] at this; exact this
    · cases this
/-- Compile of a pattern that was read, by what is seen of it. -/
def CmpC (w : World) (X : Option (List Ins × Nat)) (f : Bool) (e : Ending) (w' : World) : Prop :=
  match X with
  | some x => ∃ a cap, e = .returned (.tuple #[.agg #[.slice a x.1.length cap, .int .i64 x.2, .bool f], .int .u16 0]) ∧ Cd w' (.slice a x.1.length cap) x.1 ∧ Kp w w'
  | none => e = .returned (.tuple #[.agg #[.slice none 0 0, .int .i64 0, .bool false], .int .u16 33]) ∧ Kp w w'
theorem compile_c {n K : Nat} {v : Value} {L : List Nq} {root G : Int} {cs : Nat} {fold : Bool} {t : PT} (hv : Pt w v L) (hK : ∀ d ∈ L, d.kids.length ≤ K) (hM : K * L.length ≤ 10000000) (hL : L.length ≤ 10000000) (hsnd : soundF L root G = true) (ht : toT L n root = some t) (hs : t.size ≤ 1000000) :
    Calls Tryz.prog 10 #[.agg #[v, .int .i64 root, .int .i64 G, .int .u8 cs], .bool fold] w (CmpC w (progF t) (foldsB cs fold)) := by
  refine (compile_ok hv hK hM hL hsnd ht hs).mono ?_
  intro e w' q
  cases hX : progF t with
  | none => rw [hX] at q; exact q
  | some x =>
    rw [hX] at q
    obtain ⟨cv, rfl, q1, q2⟩ := q
    obtain ⟨a, cap, rfl, _, _⟩ := owns_form q1
    exact ⟨a, cap, rfl, row_cd q1, q2⟩
set_option maxHeartbeats 4000000 in
theorem qknown_any (g : Gm w) : Calls Tryz.prog 11 #[] w fun e w' => e = .returned (.bool true) ∧ Kp w w' := by
  have HG : Hid (Gm w) := g
  have heq : ∀ w : World, (Op.equalIn 10000 39 (.agg #[.int .u8 4, .int .u8 0, .int .u64 0, .int .u64 0, .int .u64 0, .int .u64 0, .int .i64 1, .int .i64 5]) (.agg #[.int .u8 4, .int .u8 0, .int .u64 0, .int .u64 0, .int .u64 0, .int .u64 0, .int .i64 1, .int .i64 5])).run Tryz.prog w = .ok true w := eq_inst ⟨4, 0, zeroS, 1, 5⟩ ⟨4, 0, zeroS, 1, 5⟩
  have heq2 : ∀ w : World, (Op.equalIn 10000 39 (.agg #[.int .u8 5, .int .u8 0, .int .u64 0, .int .u64 0, .int .u64 0, .int .u64 0, .int .i64 0, .int .i64 0]) (.agg #[.int .u8 5, .int .u8 0, .int .u64 0, .int .u64 0, .int .u64 0, .int .u64 0, .int .i64 0, .int .i64 0])).run Tryz.prog w = .ok true w := eq_inst ⟨5, 0, zeroS, 0, 0⟩ ⟨5, 0, zeroS, 0, 0⟩
  clear g
  go_enter Tryz.func11, Tryz.ntmps11
  go_wp2_with fail
  refine Calls.mono (parse_ok ⟨#[97, 42]⟩ ⟨#[]⟩ HG.out kn1) ?_
  rintro e w1 ⟨va1, vc1, rfl, q1, q2⟩
  have H1 : Hid (Pt w1 (.slice va1 2 vc1) (L1.map Nd.q) ∧ Kp w w1) := ⟨q1, q2⟩
  simp only [show L1.length = 2 from rfl]
  clear q1 q2
  go_wp2_with fail
  refine Calls.mono (compile_c (n := 3) (K := 1) (root := 1) (G := 0) (cs := 0) (fold := true) (H1.out.1.kp (kp_alloc _ _)) (by decide) (by decide) (by decide) ks1 kt1 (by decide)) ?_
  rw [kc1]
  rintro e w2 ⟨ca, cap, rfl, q1, q2⟩
  have H2 : Hid (Kp w w2) := kp_trans (kp_trans H1.out.2 (kp_alloc _ _)) q2
  simp only [show C1.length = 6 from rfl] at q1 ⊢
  have q1' := q1.kp (kp_alloc w2 (.cells #[.slice ca 6 cap, .int .i64 1, .bool true] 32))
  obtain ⟨a', cap', e', h1, h2, h3⟩ := q1'
  injection e' with e1 e2 e3
  subst e1 e3
  clear e2
  obtain ⟨b, o, rfl, hc0⟩ := h3 0 _ rfl
  obtain ⟨b', o', e4, hc4⟩ := h3 4 _ rfl
  injection e4 with e4
  injection e4 with e5 e6
  subst e5 e6
  obtain ⟨b', o', e4, hc5⟩ := h3 5 _ rfl
  injection e4 with e4
  injection e4 with e5 e6
  subst e5 e6
  have k00 : (w2.alloc (.cells #[.slice (some ⟨b, o, none⟩) 6 cap, .int .i64 1, .bool true] 32)).cell? ⟨b, o, none⟩ = some (.int .u8 4) := hc0 0 _ rfl
  have k01 : (w2.alloc (.cells #[.slice (some ⟨b, o, none⟩) 6 cap, .int .i64 1, .bool true] 32)).cell? ⟨b, o + 1, none⟩ = some (.int .u8 0) := hc0 1 _ rfl
  have k02 : (w2.alloc (.cells #[.slice (some ⟨b, o, none⟩) 6 cap, .int .i64 1, .bool true] 32)).cell? ⟨b, o + 2, none⟩ = some (.int .u64 0) := hc0 2 _ rfl
  have k03 : (w2.alloc (.cells #[.slice (some ⟨b, o, none⟩) 6 cap, .int .i64 1, .bool true] 32)).cell? ⟨b, o + 3, none⟩ = some (.int .u64 0) := hc0 3 _ rfl
  have k04 : (w2.alloc (.cells #[.slice (some ⟨b, o, none⟩) 6 cap, .int .i64 1, .bool true] 32)).cell? ⟨b, o + 4, none⟩ = some (.int .u64 0) := hc0 4 _ rfl
  have k05 : (w2.alloc (.cells #[.slice (some ⟨b, o, none⟩) 6 cap, .int .i64 1, .bool true] 32)).cell? ⟨b, o + 5, none⟩ = some (.int .u64 0) := hc0 5 _ rfl
  have k06 : (w2.alloc (.cells #[.slice (some ⟨b, o, none⟩) 6 cap, .int .i64 1, .bool true] 32)).cell? ⟨b, o + 6, none⟩ = some (.int .i64 1) := hc0 6 _ rfl
  have k07 : (w2.alloc (.cells #[.slice (some ⟨b, o, none⟩) 6 cap, .int .i64 1, .bool true] 32)).cell? ⟨b, o + 7, none⟩ = some (.int .i64 5) := hc0 7 _ rfl
  have k40 : (w2.alloc (.cells #[.slice (some ⟨b, o, none⟩) 6 cap, .int .i64 1, .bool true] 32)).cell? ⟨b, o + 32, none⟩ = some (.int .u8 5) := hc4 0 _ rfl
  have k41 : (w2.alloc (.cells #[.slice (some ⟨b, o, none⟩) 6 cap, .int .i64 1, .bool true] 32)).cell? ⟨b, o + 33, none⟩ = some (.int .u8 0) := hc4 1 _ rfl
  have k42 : (w2.alloc (.cells #[.slice (some ⟨b, o, none⟩) 6 cap, .int .i64 1, .bool true] 32)).cell? ⟨b, o + 34, none⟩ = some (.int .u64 0) := hc4 2 _ rfl
  have k43 : (w2.alloc (.cells #[.slice (some ⟨b, o, none⟩) 6 cap, .int .i64 1, .bool true] 32)).cell? ⟨b, o + 35, none⟩ = some (.int .u64 0) := hc4 3 _ rfl
  have k44 : (w2.alloc (.cells #[.slice (some ⟨b, o, none⟩) 6 cap, .int .i64 1, .bool true] 32)).cell? ⟨b, o + 36, none⟩ = some (.int .u64 0) := hc4 4 _ rfl
  have k45 : (w2.alloc (.cells #[.slice (some ⟨b, o, none⟩) 6 cap, .int .i64 1, .bool true] 32)).cell? ⟨b, o + 37, none⟩ = some (.int .u64 0) := hc4 5 _ rfl
  have k46 : (w2.alloc (.cells #[.slice (some ⟨b, o, none⟩) 6 cap, .int .i64 1, .bool true] 32)).cell? ⟨b, o + 38, none⟩ = some (.int .i64 0) := hc4 6 _ rfl
  have k47 : (w2.alloc (.cells #[.slice (some ⟨b, o, none⟩) 6 cap, .int .i64 1, .bool true] 32)).cell? ⟨b, o + 39, none⟩ = some (.int .i64 0) := hc4 7 _ rfl
  have k41x : (w2.alloc (.cells #[.slice (some ⟨b, o, none⟩) 6 cap, .int .i64 1, .bool true] 32)).cell? ⟨b, o + 32 + 1, none⟩ = some (.int .u8 0) := hc4 1 _ rfl
  have k42x : (w2.alloc (.cells #[.slice (some ⟨b, o, none⟩) 6 cap, .int .i64 1, .bool true] 32)).cell? ⟨b, o + 32 + 2, none⟩ = some (.int .u64 0) := hc4 2 _ rfl
  have k43x : (w2.alloc (.cells #[.slice (some ⟨b, o, none⟩) 6 cap, .int .i64 1, .bool true] 32)).cell? ⟨b, o + 32 + 3, none⟩ = some (.int .u64 0) := hc4 3 _ rfl
  have k44x : (w2.alloc (.cells #[.slice (some ⟨b, o, none⟩) 6 cap, .int .i64 1, .bool true] 32)).cell? ⟨b, o + 32 + 4, none⟩ = some (.int .u64 0) := hc4 4 _ rfl
  have k45x : (w2.alloc (.cells #[.slice (some ⟨b, o, none⟩) 6 cap, .int .i64 1, .bool true] 32)).cell? ⟨b, o + 32 + 5, none⟩ = some (.int .u64 0) := hc4 5 _ rfl
  have k46x : (w2.alloc (.cells #[.slice (some ⟨b, o, none⟩) 6 cap, .int .i64 1, .bool true] 32)).cell? ⟨b, o + 32 + 6, none⟩ = some (.int .i64 0) := hc4 6 _ rfl
  have k47x : (w2.alloc (.cells #[.slice (some ⟨b, o, none⟩) 6 cap, .int .i64 1, .bool true] 32)).cell? ⟨b, o + 32 + 7, none⟩ = some (.int .i64 0) := hc4 7 _ rfl
  have k50 : (w2.alloc (.cells #[.slice (some ⟨b, o, none⟩) 6 cap, .int .i64 1, .bool true] 32)).cell? ⟨b, o + 40, none⟩ = some (.int .u8 14) := hc5 0 _ rfl
  clear hc0 hc4 hc5 h3 q1 h1
  unfold maxLen at h2
  have hfb : foldsB 0 true = true := rfl
  rw [hfb]
  go_wp2_with fail
  go_ret
  exact ⟨rfl, kp_trans H2.out (kp_alloc _ _)⟩
end
end Go.Proofs.YtlgemficalcghaaGreat
/- Patterns that are read and compiled, by their texts. -/
namespace Go.Proofs.YtlgemficalcghaaGreat
open Go.ChangeShapes Go.WideShapes Go.ChangeAt Go.RowKit
set_option linter.unusedVariables false
set_option linter.unusedSimpArgs false
abbrev str (l : List UInt8) : Value := .string ⟨l.toArray⟩
theorem cat_run {x y z : List UInt8} (h : x ++ y = z) (hz : z.length ≤ 8000000) (W : World) : (Op.stringOp .add ⟨x.toArray⟩ ⟨y.toArray⟩).run Tryz.prog W = .ok (.string ⟨z.toArray⟩) W := by
  subst h
  rw [List.length_append] at hz
  exact run_string_add_lists W x y (by omega) (by omega)
instance : DecidableEq S4 := fun a b =>
  if h : a.a = b.a ∧ a.b = b.b ∧ a.c = b.c ∧ a.d = b.d then .isTrue (by cases a; cases b; simp_all) else .isFalse (fun e => h (by subst e; exact ⟨rfl, rfl, rfl, rfl⟩))
instance : DecidableEq Ins := fun a b =>
  if h : a.op = b.op ∧ a.c = b.c ∧ a.set = b.set ∧ a.x = b.x ∧ a.y = b.y then .isTrue (by cases a; cases b; simp_all) else .isFalse (fun e => h (by subst e; exact ⟨rfl, rfl, rfl, rfl, rfl⟩))
/-- What is seen of a text that is read: the root, groups, case, nodes, the tree. -/
structure Seen where
  i : Nat
  gs : Nat
  cs : Nat
  nds : List Nd
  t : PT
def resF (s : List UInt8) : Option Seen :=
  match see (parF ⟨s.toArray⟩ ⟨#[]⟩) with
  | .ok (i, gs, cs, nds) => (toT (nds.map Nd.q) 100 i).map fun t => ⟨i, gs, cs, nds, t⟩
  | .error _ => none
def okR (r : Seen) : Bool := soundF (r.nds.map Nd.q) r.i r.gs && decide (r.nds.length ≤ 400) && r.nds.all (fun d => decide (d.kids.length ≤ 400)) && decide (r.t.size ≤ 1000000)
section
variable {w w1 : World}
theorem seen_parse {s : List UInt8} {r : Seen} (h : resF s = some r) (g : Gm w) :
    Calls Tryz.prog 9 #[str s, .string ⟨#[]⟩] w fun e w' => ∃ va vc, e = .returned (.tuple #[.agg #[.slice va r.nds.length vc, .int .i64 r.i, .int .i64 r.gs, .int .u8 r.cs], .int .u16 0, .int .i64 0]) ∧ Pt w' (.slice va r.nds.length vc) (r.nds.map Nd.q) ∧ Kp w w' := by
  unfold resF at h
  cases hp : see (parF ⟨s.toArray⟩ ⟨#[]⟩) with
  | error x => rw [hp] at h; cases h
  | ok x =>
    obtain ⟨i, gs, cs, nds⟩ := x
    rw [hp] at h
    obtain ⟨t, _, rfl⟩ := Option.map_eq_some_iff.1 h
    exact parse_ok _ _ g hp
theorem seen_compile {s : List UInt8} {r : Seen} (h : resF s = some r) (ho : okR r = true) {v : Value} (hv : Pt w v (r.nds.map Nd.q)) (fold : Bool) :
    Calls Tryz.prog 10 #[.agg #[v, .int .i64 r.i, .int .i64 r.gs, .int .u8 r.cs], .bool fold] w (CmpC w (progF r.t) (foldsB r.cs fold)) := by
  unfold resF at h
  cases hp : see (parF ⟨s.toArray⟩ ⟨#[]⟩) with
  | error x => rw [hp] at h; cases h
  | ok x =>
    obtain ⟨i, gs, cs, nds⟩ := x
    rw [hp] at h
    obtain ⟨t, ht, rfl⟩ := Option.map_eq_some_iff.1 h
    simp only [okR, Bool.and_eq_true, decide_eq_true_eq, List.all_eq_true] at ho
    obtain ⟨⟨⟨h1, h2⟩, h3⟩, h4⟩ := ho
    have h2' : nds.length ≤ 400 := h2
    refine compile_c (K := 400) hv (fun d hd => ?_) (by rw [List.length_map]; show 400 * nds.length ≤ 10000000; omega) (by rw [List.length_map]; show nds.length ≤ 10000000; omega) h1 ht h4
    obtain ⟨d', hd', rfl⟩ := List.mem_map.1 hd
    have := h3 d' hd'
    simpa [Nd.q] using this
theorem progF_len {t : PT} {x : List Ins × Nat} (h : progF t = some x) : x.1.length = t.len + 1 ∧ x.2 = t.rnd := by
  unfold progF at h
  cases h1 : runT t ([], 0) with
  | none => rw [h1] at h; cases h
  | some y =>
    rw [h1, Option.bind_some] at h
    obtain ⟨_, rfl⟩ := runI_some h
    obtain rfl := runT_some h1
    simp [PT.code_len]
theorem progF_fits {t : PT} : (∃ x, progF t = some x) ↔ t.len + 1 ≤ 2000 := by
  unfold progF
  constructor
  · rintro ⟨x, h⟩
    cases h1 : runT t ([], 0) with
    | none => rw [h1] at h; cases h
    | some y =>
      rw [h1, Option.bind_some] at h
      obtain ⟨h2, rfl⟩ := runI_some h
      obtain rfl := runT_some h1
      simp [PT.code_len] at h2
      omega
  · intro h
    have e : runT t ([], 0) = some (t.code 0 0, t.rnd) := by
      unfold runT
      rw [if_pos (by simp; omega)]
      simp
    rw [e, Option.bind_some]
    unfold runI
    rw [if_pos (by simp [PT.code_len]; omega)]
    exact ⟨_, rfl⟩
/-- One instruction's cells. -/
theorem Cd.at_ {a : Option Addr} {cap : Nat} {C : List Ins} {n : Nat} (h : Cd w (.slice a n cap) C) {i : Nat} {d : Ins} (hi : C[i]? = some d) : ∃ b o, a = some ⟨b, o, none⟩ ∧ ∀ j u, d.cells[j]? = some u → w.cell? ⟨b, o + i * 8 + j, none⟩ = some u := by
  obtain ⟨a', cap', e, _, _, q⟩ := h
  injection e with e _ _
  obtain ⟨b, o, e1, e2⟩ := q i d hi
  exact ⟨b, o, by rw [e, e1], e2⟩
theorem Cd.len {a : Option Addr} {cap : Nat} {C : List Ins} {n : Nat} (h : Cd w (.slice a n cap) C) : n = C.length ∧ n ≤ cap ∧ cap ≤ maxLen := by
  obtain ⟨a', cap', e, h1, h2, _⟩ := h
  injection e with e1 e2 e3
  subst e2 e3
  exact ⟨rfl, h1, h2⟩
end
def sA : Nat → List UInt8
  | 0 => []
  | i + 1 => (if 0 < i then sA i ++ [92, 124] else sA i) ++ [(97 + i).toUInt8]
def altC (M : Nat) (C : List Ins) : Bool := decide (C.length = 3 * M - 1) && (List.range (M - 1)).all (fun i => decide (C[3 * i]? = some (splitI false (3 * i) (3 * i + 3))) && decide ((C[3 * i + 1]?).map (·.c) = some (97 + i)) && decide (C[3 * i + 2]? = some (jumpI (3 * M - 2)))) && decide ((C[3 * M - 3]?).map (·.c) = some (97 + (M - 1)))
def chAlt (M : Nat) : Bool :=
  match resF (sA M) with
  | some r => okR r && r.cs == 0 && (match progF r.t with | some x => x.2 == 0 && altC M x.1 | none => false)
  | none => false
theorem chAlt_all : ∀ M : Fin 20, chAlt (M.val + 1) = true := by decide +kernel
end Go.Proofs.YtlgemficalcghaaGreat
/- Bounds in braces: what is read of a byte and what stands in braces behind it. -/
namespace Go.Proofs.YtlgemficalcghaaGreat
open Go.ChangeShapes Go.WideShapes Go.ChangeAt Go.RowKit
set_option linter.unusedVariables false
set_option linter.unusedSimpArgs false
theorem byteAt_list (l : List UInt8) (k : Nat) : byteAt ⟨l.toArray⟩ k = ((l[k]?).map UInt8.toNat).getD 0 := rfl
theorem size_list (l : List UInt8) : (⟨l.toArray⟩ : ByteArray).size = l.length := by rw [Lib.size_eq]
section
variable (X : List UInt8)
theorem brace_next0 : nextF ⟨([97, 92, 123] ++ X).toArray⟩ ((⟨([97, 92, 123] ++ X).toArray⟩ : ByteArray).size + 1) 0 mdM 0 = .ok (⟨1, 97, 0⟩, 1, mdM, 0) := by
  rw [nextF]
  have ha : amo 97 mdM = false := by decide
  simp [tokOf, byteAt_list, size_list, ha]
theorem brace_next1 : nextF ⟨([97, 92, 123] ++ X).toArray⟩ ((⟨([97, 92, 123] ++ X).toArray⟩ : ByteArray).size + 1) 1 mdM 0 = .ok (⟨2, 123, 1⟩, 3, mdM, 0) := by
  rw [nextF]
  have ha : amo 123 mdM = false := by decide
  have hb : amo 123 mdV = true := by decide
  simp [tokOf, escTok, byteAt_list, size_list, ha, hb]
theorem next_end (s md : ByteArray) (cs : Nat) : nextF s (s.size + 1) s.size md cs = .ok (⟨0, 0, s.size⟩, s.size, md, cs) := by
  rw [nextF]
  simp [tokOf]
theorem brace_no (hX : X.length ≤ 200) (h : bndF ⟨([97, 92, 123] ++ X).toArray⟩ 3 = none) : see (parF ⟨([97, 92, 123] ++ X).toArray⟩ ⟨#[]⟩) = .error (32, 1) := by
  have hsz := size_list ([97, 92, 123] ++ X)
  have h0 := brace_next0 X
  have h1 := brace_next1 X
  generalize hs : (⟨([97, 92, 123] ++ X).toArray⟩ : ByteArray) = s at *
  obtain ⟨f, hf⟩ : ∃ f, s.size + 1 = f + 1 + 1 := ⟨s.size - 1, by rw [hsz]; simp⟩
  have hbr : ∀ P, (∀ r, P ⟨1, 97, 0⟩ true r = .ok (plF ⟨1, 97, 0⟩ r)) → brF P s (f + 1 + 1) rs0 [] = .error (32, 1) := fun P hP => by
    rw [brF]
    simp only [rs0, h0]
    rw [if_neg (by decide), if_neg (by decide)]
    simp only [List.isEmpty_nil, hP, plF, addN, List.length_nil, List.nil_append]
    rw [brF]
    simp only [h1]
    rw [if_neg (by decide), if_pos (by decide)]
    simp [manyF, opOf, repB, timesF, h]
  unfold parF patF
  rw [if_neg (by have e0 : (⟨#[]⟩ : ByteArray).size = 0 := rfl; rw [hsz, e0]; simp; omega), brsF, hf, brsL, hbr _ (fun r => by simp [pieceF])]
  rfl
theorem brace_ok (hX : X.length ≤ 200) {n : Nat} {mx : Int} {lz : Bool} (h : bndF ⟨([97, 92, 123] ++ X).toArray⟩ 3 = some (n, mx, lz, X.length + 3)) : see (parF ⟨([97, 92, 123] ++ X).toArray⟩ ⟨#[]⟩) = .ok (1, 0, 0, [{ op := 2, c := 97 }, { op := 7, mn := n, mx := mx, lz := lz, kids := [0] }]) := by
  have hsz := size_list ([97, 92, 123] ++ X)
  have h0 := brace_next0 X
  have h1 := brace_next1 X
  generalize hs : (⟨([97, 92, 123] ++ X).toArray⟩ : ByteArray) = s at *
  have hsz' : X.length + 3 = s.size := by rw [hsz]; simp
  rw [hsz'] at h
  have h2 := next_end s mdM 0
  obtain ⟨f, hf⟩ : ∃ f, s.size + 1 = f + 1 + 1 + 1 := ⟨s.size - 2, by rw [← hsz']; omega⟩
  have hbr : ∀ P, (∀ r, P ⟨1, 97, 0⟩ true r = .ok (plF ⟨1, 97, 0⟩ r)) → brF P s (f + 1 + 1 + 1) rs0 [] = .ok (1, ⟨0, 0, s.size⟩, { rs0 with k := s.size, nds := [{ op := 2, c := 97 }, { op := 7, mn := n, mx := mx, lz := lz, kids := [0] }] }) := fun P hP => by
    rw [brF]
    simp only [rs0, h0]
    rw [if_neg (by decide), if_neg (by decide)]
    simp only [List.isEmpty_nil, hP, plF, addN, List.length_nil, List.nil_append]
    rw [brF]
    simp only [h1]
    rw [if_neg (by decide), if_pos (by decide)]
    simp only [manyF, opOf, repB, timesF, h]
    simp
    rw [brF]
    simp only [h2]
    rw [if_pos (by rfl)]
    rfl
  unfold parF patF
  rw [if_neg (by have e0 : (⟨#[]⟩ : ByteArray).size = 0 := rfl; rw [hsz, e0]; simp; omega), brsF, hf, brsL, hbr _ (fun r => by simp [pieceF])]
  simp [joinF, see, rs0]
end
end Go.Proofs.YtlgemficalcghaaGreat
/- Numbers in braces. -/
namespace Go.Proofs.YtlgemficalcghaaGreat
open Go.ChangeShapes Go.WideShapes Go.ChangeAt Go.RowKit
set_option linter.unusedVariables false
set_option linter.unusedSimpArgs false
/-- A number at a text's head: it, and by how many digits. -/
def nL : List UInt8 → Nat → Nat → Option (Nat × Nat)
  | [], cnt, n => some (n, cnt)
  | b :: r, cnt, n => if digB b.toNat then (if 60 < 10 * n + (b.toNat - 48) ∨ 3 < cnt + 1 then none else nL r (cnt + 1) (10 * n + (b.toNat - 48))) else some (n, cnt)
theorem nL_app {c : UInt8} (hc : digB c.toNat = false) (r : List UInt8) : ∀ (x : List UInt8) (cnt n : Nat), nL (x ++ c :: r) cnt n = nL x cnt n := by
  intro x
  induction x with
  | nil => intro cnt n; simp [nL, hc]
  | cons b x ih =>
    intro cnt n
    rw [List.cons_append, nL, nL]
    split
    · split
      · rfl
      · exact ih _ _
    · rfl
theorem numG_list {s : ByteArray} {fr : Nat} : ∀ (f k n cnt : Nat), fr + cnt = k → s.size + 1 - k ≤ f → k ≤ s.size → numG s fr f k n = (nL (s.data.toList.drop k) cnt n).map (fun x => (x.1, fr + x.2)) := by
  intro f
  induction f with
  | zero => intro k n cnt _ h1 h2; omega
  | succ f ih =>
    intro k n cnt hc h1 h2
    have hsl : s.data.toList.length = s.size := (Lib.size_eq s).symm
    rw [numG]
    by_cases hk : k < s.size
    · rw [if_pos hk, List.drop_eq_getElem_cons (by rw [hsl]; exact hk), nL]
      have hb : byteAt s k = (s.data.toList[k]'(by rw [hsl]; exact hk)).toNat := by
        unfold byteAt; rw [List.getElem?_eq_getElem (by rw [hsl]; exact hk)]; rfl
      rw [← hb]
      split
      · rw [show k + 1 - fr = cnt + 1 by omega]
        split
        · rfl
        · exact ih (k + 1) _ (cnt + 1) (by omega) (by omega) (by omega)
      · simp [hc]
    · rw [if_neg hk, List.drop_eq_nil_of_le (by rw [hsl]; omega), nL]
      simp [hc]
theorem numF_list {l : List UInt8} {k : Nat} (hk : k ≤ l.length) : numF ⟨l.toArray⟩ k = (nL (l.drop k) 0 0).map (fun x => (x.1, k + x.2)) := by
  unfold numF
  exact numG_list _ k 0 0 (by omega) (by omega) (by rw [size_list]; exact hk)
def dR : Nat → Nat → List UInt8
  | 0, _ => []
  | f + 1, n => if n < 10 then [(48 + n).toUInt8] else dR f (n / 10) ++ dR f (n % 10)
def dG (n : Nat) : List UInt8 := dR 4 n
def dChk (n : Nat) : Bool := (match nL (dG n) 0 0 with | some (v, c) => decide (n ≤ 60) && v == n && c == (dG n).length | none => decide (60 < n)) && decide (1 ≤ (dG n).length ∧ (dG n).length ≤ 4) && (dG n).head? != some 45
theorem dChk_all : ∀ n : Fin 1200, dChk n.val = true := by decide +kernel
theorem dG_len {n : Nat} (h : n < 1200) : 1 ≤ (dG n).length ∧ (dG n).length ≤ 4 := by
  have := dChk_all ⟨n, h⟩
  simp only [dChk, Bool.and_eq_true, decide_eq_true_eq] at this
  exact this.1.2
theorem dG_head {n : Nat} (h : n < 1200) : (dG n).head? ≠ some 45 := by
  have := dChk_all ⟨n, h⟩
  simp only [dChk, Bool.and_eq_true, bne_iff_ne] at this
  exact this.2
theorem dG_num {n : Nat} (h : n < 1200) : nL (dG n) 0 0 = if n ≤ 60 then some (n, (dG n).length) else none := by
  have := dChk_all ⟨n, h⟩
  simp only [dChk, Bool.and_eq_true, decide_eq_true_eq] at this
  have h1 := this.1.1
  cases hq : nL (dG n) 0 0 with
  | none =>
    rw [hq] at h1
    simp only [decide_eq_true_eq] at h1
    rw [if_neg (by omega)]
  | some x =>
    obtain ⟨v, c⟩ := x
    rw [hq] at h1
    simp only [Bool.and_eq_true, decide_eq_true_eq, beq_iff_eq] at h1
    obtain ⟨⟨a, rfl⟩, rfl⟩ := h1
    rw [if_pos a]
/-- A number at a place, what is no digit behind it. -/
theorem num_at {l pre r : List UInt8} {c : UInt8} {n k : Nat} (hl : l = pre ++ (dG n ++ c :: r)) (hk : pre.length = k) (hn : n < 1200) (hc : digB c.toNat = false) : numF ⟨l.toArray⟩ k = if n ≤ 60 then some (n, k + (dG n).length) else none := by
  subst hl
  subst hk
  rw [numF_list (by simp), List.drop_left, nL_app hc, dG_num hn]
  split <;> rfl
theorem pfx_at {l pre r t : List UInt8} {k : Nat} (hl : l = pre ++ r) (hk : pre.length = k) : pfx ⟨l.toArray⟩ k ⟨t.toArray⟩ = Lib.hasPrefix r t := by
  subst hl
  subst hk
  show Lib.hasPrefix (List.drop pre.length (pre ++ r)) t = _
  rw [List.drop_left]
end Go.Proofs.YtlgemficalcghaaGreat
