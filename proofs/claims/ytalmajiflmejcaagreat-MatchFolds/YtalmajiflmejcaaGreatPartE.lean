/- Texts that the proof of the law stands on: Fj1, Fk1, RPt, Fk2, Fr0. -/
import Derived.Test.YtalmajiflmejcaaGreatPartD
/- The document's reader: branch. -/
namespace Go.Proofs.YtalmajiflmejcaaGreat
open Go.ChangeShapes Go.WideShapes Go.ChangeAt Go.RowKit
set_option linter.unusedVariables false
set_option linter.unusedSimpArgs false
section
variable {B rb : Nat} {s last : ByteArray} {r : FS} {vn : Qv} {w : World}
/-- What a loop over pieces counts down. -/
def leftAt (s : ByteArray) (rb : Nat) (w : World) : Nat := if errAt rb w = 0 then s.size + 1 - kAt rb w else 0
theorem left_eq {r' : FS} {vn' : Qv} {x : World} (h : Fq B rb s last r' vn' x) : leftAt s rb x = if r'.err = 0 then s.size + 1 - r'.k else 0 := by unfold leftAt; rw [h.errAt, h.kAt]
/-- Ahead of each round of branch. -/
structure Bi (B rb bb : Nat) (s last : ByteArray) (BRS : FS → Nat × FS) (wi : Bool) (n : Nat) (vn : Qv) (w : World) (RR : FS × Bs) (f : Nat) (r' : FS) (vn' : Qv) (kv' : Value) (b' : Bs) (x : World) : Prop where
  bw : Bw B rb bb s last vn w r' vn' kv' b' x
  eq : bchL s last BRS wi f r' b' = RR
  fu : r'.err ≠ 0 ∨ s.size < f + r'.k
  hb : Hb (s.size + 2 - f) b'
  fl : f ≤ s.size + 2
  g : 9 ≤ r'.g + n
theorem Bi.next {bb : Nat} {BRS : FS → Nat × FS} {wi : Bool} {n f : Nat} {RR : FS × Bs} {r' r2 : FS} {vn' vn2 : Qv} {kv' kv2 : Value} {b' b2 : Bs} {x y : World} (h : Bi B rb bb s last BRS wi n vn w RR (f + 1) r' vn' kv' b' x) (h0 : r'.err = 0 ∧ r'.k < s.size)
    (hw : Bw B rb bb s last vn w r2 vn2 kv2 b2 y) (he : bchL s last BRS wi f r2 b2 = RR) (hu : Up s r'.k r2) (hb : ∀ m, Hb m b' → Hb (m + 1) b2) (hg : r'.g ≤ r2.g) : Bi B rb bb s last BRS wi n vn w RR f r2 vn2 kv2 b2 y ∧ leftAt s rb y < if r'.err = 0 then s.size + 1 - r'.k else 0 := by
  have h1 := h.fu
  have h2 := h.fl
  have h3 := h.g
  refine ⟨⟨hw, he, ?_, ?_, by omega, by omega⟩, ?_⟩
  · rcases hu with q | q
    · exact .inl q
    · rcases h1 with z | z
      · exact absurd h0.1 z
      · exact .inr (by omega)
  · have := hb _ h.hb
    rw [show s.size + 2 - (f + 1) + 1 = s.size + 2 - f by omega] at this
    exact this
  · rw [left_eq hw.rr, if_pos h0.1]
    split
    · rename_i q
      rcases hu with z | z
      · exact absurd q z
      · omega
    · omega
def BI (B rb bb : Nat) (s last : ByteArray) (BRS : FS → Nat × FS) (wi : Bool) (n : Nat) (vn : Qv) (w : World) (RR : FS × Bs) (x : World) : Prop := ∃ f r' vn' kv' b', Bi B rb bb s last BRS wi n vn w RR f r' vn' kv' b' x
set_option maxHeartbeats 8000000 in
set_option maxRecDepth 100000 in
theorem branch_any {BRS : FS → Nat × FS} {n : Nat} (hM : Mono BRS) (hs : s.size ≤ 400) (hla : last.size ≤ 1000) (wi : Bool)
    (HBR : ∀ r vn x, Fq B rb s last r vn x → r.g ≤ 9 → 10 ≤ r.g + n → Calls Tryz.prog 78 #[.pointer (some ⟨rb, 0, none⟩), .bool true] x (FAdd B rb s last (BRS r) vn none x))
    (h : Fq B rb s last r vn w) (hg : 9 ≤ r.g + n) : Calls Tryz.prog 112 #[.pointer (some ⟨rb, 0, none⟩), .bool wi] w (FAdd B rb s last (bchF s last BRS wi r) vn none w) := by
  obtain ⟨R, hR⟩ : ∃ R, bchF s last BRS wi r = R := ⟨_, rfl⟩
  obtain ⟨RR, hRR⟩ : ∃ RR, bchL s last BRS wi (s.size + 2) r ⟨[], false⟩ = RR := ⟨_, rfl⟩
  have HR : Hid (R = rowF 5 RR.2.ks RR.1) := by
    show _ = _
    rw [← hR, ← hRR]; rfl
  rw [hR]
  have HS : Hid (Bi B rb w.heap.size s last BRS wi n vn w RR (s.size + 2) r vn (.slice none 0 0) ⟨[], false⟩ (w.alloc (.cells #[.slice none 0 0, .bool false] 221))) :=
    ⟨Bw.start h, hRR, .inr (by omega), ⟨Nat.zero_le _, fun q => (by cases q)⟩, Nat.le_refl _, hg⟩
  have HBR' : Hid (∀ r vn x, Fq B rb s last r vn x → r.g ≤ 9 → 10 ≤ r.g + n → Calls Tryz.prog 78 #[.pointer (some ⟨rb, 0, none⟩), .bool true] x (FAdd B rb s last (BRS r) vn none x)) := HBR
  have HMo : Hid (Mono BRS) := hM
  clear h hg hR hRR HBR hM
  go_enter Tryz.func112, Tryz.ntmps112
  go_wp2_with fail
  generalize (w.alloc (.cells #[.slice none 0 0, .bool false] 221)) = w0 at HS ⊢
  obtain ⟨bb, hbb⟩ : ∃ bb, w.heap.size = bb := ⟨_, rfl⟩
  rw [hbb] at HS ⊢
  clear hbb
  go_loopw [6] (fun _ wr => Hid (BI B rb bb s last BRS wi n vn w RR wr)) (fun _ wr => leftAt s rb wr)
  case atStart => exact ⟨_, _, _, _, _, HS.out⟩
  case round =>
    clear HS
    obtain ⟨f, r', vn', kv', b', hq⟩ := hrel
    have HQ : Hid (Bi B rb bb s last BRS wi n vn w RR f r' vn' kv' b' wr) := hq
    have HM0 : Hid (leftAt s rb wr = if r'.err = 0 then s.size + 1 - r'.k else 0) := left_eq hq.bw.rr
    have HLEN : Hid (b'.ks.length < 100000) := by have := hq.hb.1; show _ < _; omega
    have c17 := hq.bw.rr.c17
    have c0 := hq.bw.rr.c0
    have c1 := hq.bw.rr.c1
    clear hq
    obtain ⟨E, hE⟩ : ∃ E, r'.err = E := ⟨_, rfl⟩
    obtain ⟨K, hK⟩ : ∃ K, r'.k = K := ⟨_, rfl⟩
    obtain ⟨Z, hZ⟩ : ∃ Z, s.size = Z := ⟨_, rfl⟩
    rw [hE] at c17
    rw [hK] at c1
    have HEK : Hid (r'.err = E ∧ r'.k = K ∧ s.size = Z) := ⟨hE, hK, hZ⟩
    clear hE hK
    by_cases he : E = 0
    · subst he
      by_cases hk : K < Z
      · have dk : decide ((K : Int) < (Z : Int)) = true := decide_eq_true (by omega)
        have dn : decide (K < Z) = true := decide_eq_true hk
        go_wp2_with fail
        go_region
        change Exit.then _ _ _ _ wr.drew
        have H1 : Hid (Bw B rb bb s last vn w r' vn' kv' b' wr.drew) := HQ.out.bw.kp (kp_drew _)
        generalize wr.drew = wd at H1 ⊢
        clear c0 c1 c17 dk dn
        have c1 := H1.out.rr.c1
        rw [HEK.out.2.1] at c1
        obtain ⟨f', rfl⟩ : ∃ f', f = f' + 1 := ⟨f - 1, by have := HQ.out.fu; have := HEK.out; omega⟩
        have HK0 : Hid (r'.err = 0 ∧ r'.k < s.size) := ⟨HEK.out.1, by have := HEK.out; omega⟩
        obtain ⟨⟨t, ok⟩, ht⟩ : ∃ T, tkF s r'.md r'.cs r'.k = T := ⟨_, rfl⟩
        have hnx := tkF_next s r'.md r'.cs r'.k
        have hnd := tkF_nd s r'.md r'.cs r'.k
        have hE2 := HQ.out.eq
        unfold bchL at hE2
        rw [if_pos HK0.out, ht] at hE2
        rw [ht] at hnx hnd
        have HT : Hid (Calls Tryz.prog 113 #[.pointer (some ⟨rb, 0, none⟩), .int .i64 K] wd fun e w' => e = .returned (.tuple #[.agg t.cells.toArray, .bool ok]) ∧ Kp wd w') := by
          have := token_any (at_ := r'.k) H1.out.rr.c0 H1.out.rr.c2 H1.out.rr.c6 H1.out.rr.lt hs HK0.out.2
          rw [ht, HEK.out.2.1] at this
          exact this
        obtain ⟨sg, nd, non, tx, tm, tc⟩ := t
        simp only at hE2 hnx
        have HE2 : Hid _ := hE2
        have HNx : Hid (r'.k < tx ∧ tx ≤ s.size + 2 ∧ tx ≤ 900) := by have := HK0.out; exact ⟨hnx.1, by omega, by omega⟩
        have HNd : Hid (nd.kids = [] ∧ nd.n < 10) := hnd
        clear ht hE2 hnx hnd
        go_upto_region 5 with (first | (go_at_call 113; refine Calls.mono HT.out ?_; rintro e w4 ⟨rfl, k4⟩; have H4 : Hid (Bw B rb bb s last vn w r' vn' kv' b' (w4.alloc (.cells (tk0 0 0 0).cells.toArray 197)) ∧ Lc 197 w4.heap.size (tk0 0 0 0).cells (w4.alloc (.cells (tk0 0 0 0).cells.toArray 197)) ∧ (w4.heap.size ≠ rb ∧ w4.heap.size ≠ bb ∧ w.heap.size ≤ w4.heap.size ∧ vn'.ownBlock ≠ some w4.heap.size ∧ ¬ vn'.kb w4.heap.size ∧ kv'.ownBlock ≠ some w4.heap.size)) := ⟨(H1.out.kp k4).kp (kp_alloc _ _), Lc.new _ _ _, (H1.out.kp k4).fresh⟩; clear k4) | (refine wpList_store_box H4.out.2.1 0 (Tk.cells ⟨sg, nd, non, tx, tm, tc⟩) rfl 197 (.tmp 7) (.tmp 36) rfl rfl rfl (Nat.le_refl 16) sizeTk (oneTk _) rfl ?_; intro wy ly fy sy; have H3 : Hid (Bw B rb bb s last vn w r' vn' kv' b' wy ∧ Lc 197 w4.heap.size (Tk.cells ⟨sg, nd, non, tx, tm, tc⟩) wy ∧ (w4.heap.size ≠ rb ∧ w4.heap.size ≠ bb ∧ w.heap.size ≤ w4.heap.size ∧ vn'.ownBlock ≠ some w4.heap.size ∧ ¬ vn'.kb w4.heap.size ∧ kv'.ownBlock ≠ some w4.heap.size)) := ⟨H4.out.1.new fy H4.out.2.2, ly, H4.out.2.2⟩; clear ly fy sy))
        clear HT H4 c1
        obtain ⟨m, hm⟩ : ∃ m, w4.heap.size = m := ⟨_, rfl⟩
        rw [hm] at H3 ⊢
        clear hm
        have t0 : wy.cell? ⟨m, 0, none⟩ = some (.int .u8 sg) := H3.out.2.1.at rfl
        have t12 : wy.cell? ⟨m, 12, none⟩ = some (.bool non) := H3.out.2.1.at rfl
        cases ok with
        | false =>
          have hE2 := HE2.out
          rw [if_pos rfl, HEK.out.2.1] at hE2
          have HRq : Hid (RR = (wrongF 30 K r', b')) := hE2.symm
          clear hE2
          have HW : Hid _ := fwrong_any H3.out.1.rr 30 K
          go_wp2_with fail
          refine Calls.mono HW.out ?_
          rintro e w5 ⟨rfl, q1, q2⟩
          have H5 : Hid (Bw B rb bb s last vn w (wrongF 30 K r') vn' kv' b' w5) := H3.out.1.on q1 q2
          clear q1 q2 HW t0 t12
          have HRX : Hid (R = rowF 5 b'.ks (wrongF 30 K r')) := by
            show _ = _
            rw [HR.out, HRq.out]
          have HF : Hid _ := H5.out.fin HLEN.out
          have e0 := H5.out.br.cells.1
          obtain ⟨ka, kc, hkv, v1, v2⟩ := owns_form H5.out.br.row
          rw [hkv] at e0 HF
          clear v1 v2 hkv
          go_wp2_with fail
          refine Calls.mono HF.out ?_
          rintro e w9 ⟨rfl, vn9, q1, q2⟩
          have H10 : Hid (Fq B rb s last (rowF 5 b'.ks (wrongF 30 K r')).2 vn9 w9 ∧ AdvX none rb vn w vn9 w9) := ⟨q1, q2⟩
          clear q1 q2 HF
          go_wp2_with fail
          go_ret
          rw [HRX.out]
          exact ⟨rfl, vn9, H10.out⟩
        | true =>
          have hE2 := HE2.out
          rw [if_neg (by simp)] at hE2
          cases non with
          | true =>
            rw [if_pos rfl] at hE2
            have t13 : wy.cell? ⟨m, 13, none⟩ = some (.int .i64 tx) := H3.out.2.1.at rfl
            have t14 : wy.cell? ⟨m, 14, none⟩ = some (.int .u8 tm) := H3.out.2.1.at rfl
            have t15 : wy.cell? ⟨m, 15, none⟩ = some (.int .u8 tc) := H3.out.2.1.at rfl
            have c1 := H3.out.1.rr.c1
            have c2 := H3.out.1.rr.c2
            have c6 := H3.out.1.rr.c6
            have f1 := H3.out.1.rr.fz 1
            have f2 := H3.out.1.rr.fz 2
            have f6 := H3.out.1.rr.fz 6
            have hmr : m ≠ rb := H3.out.2.2.1
            have HX : Hid (BI B rb bb s last BRS wi n vn w RR (((wy.setCell ⟨rb, 2, none⟩ (.int .u8 tm)).setCell ⟨rb, 6, none⟩ (.int .u8 tc)).setCell ⟨rb, 1, none⟩ (.int .i64 tx)) ∧ leftAt s rb (((wy.setCell ⟨rb, 2, none⟩ (.int .u8 tm)).setCell ⟨rb, 6, none⟩ (.int .u8 tc)).setCell ⟨rb, 1, none⟩ (.int .i64 tx)) < leftAt s rb wr) := by
              have q := HNx.out
              have hw : Bw B rb bb s last vn w { r' with md := tm, cs := tc, k := tx } vn' kv' b' (((wy.setCell ⟨rb, 2, none⟩ (.int .u8 tm)).setCell ⟨rb, 6, none⟩ (.int .u8 tc)).setCell ⟨rb, 1, none⟩ (.int .i64 tx)) :=
                ((H3.out.1.on (H3.out.1.rr.setMd tm) (fr_set _ _ _ _)).on ((H3.out.1.rr.setMd tm).setCs tc) (fr_set _ _ _ _)).on (((H3.out.1.rr.setMd tm).setCs tc).setK tx) (fr_set _ _ _ _)
              obtain ⟨h1, h2⟩ := HQ.out.next HK0.out hw hE2 (.inr ⟨q.1, by show tx ≤ _; omega⟩) (fun m h => hb_more h) (Nat.le_refl _)
              rw [HM0.out]
              exact ⟨⟨_, _, _, _, _, h1⟩, h2⟩
            clear hE2
            go_wp2_with fail
            go_roundw
            case rel => exact HX.out.1
            case measure => exact HX.out.2
          | false =>
            rw [if_neg (by simp)] at hE2
            have HE3 : Hid _ := hE2
            clear hE2 HE2
            by_cases hbrk : sg = 124 ∨ (sg = 41 ∧ wi = true)
            · have hE2 := HE3.out
              rw [if_pos hbrk] at hE2
              have HRq : Hid (RR = (r', b')) := hE2.symm
              clear hE2 HE3
              have H5 : Hid (Bw B rb bb s last vn w r' vn' kv' b' wy) := H3.out.1
              rcases hbrk with rfl | ⟨rfl, rfl⟩
              · have HRX : Hid (R = rowF 5 b'.ks r') := by
                  show _ = _
                  rw [HR.out, HRq.out]
                have HF : Hid _ := H5.out.fin HLEN.out
                have e0 := H5.out.br.cells.1
                obtain ⟨ka, kc, hkv, v1, v2⟩ := owns_form H5.out.br.row
                rw [hkv] at e0 HF
                clear v1 v2 hkv
                go_wp2_with fail
                refine Calls.mono HF.out ?_
                rintro e w9 ⟨rfl, vn9, q1, q2⟩
                have H10 : Hid (Fq B rb s last (rowF 5 b'.ks r').2 vn9 w9 ∧ AdvX none rb vn w vn9 w9) := ⟨q1, q2⟩
                clear q1 q2 HF
                go_wp2_with fail
                go_ret
                rw [HRX.out]
                exact ⟨rfl, vn9, H10.out⟩
              · have HRX : Hid (R = rowF 5 b'.ks r') := by
                  show _ = _
                  rw [HR.out, HRq.out]
                have HF : Hid _ := H5.out.fin HLEN.out
                have e0 := H5.out.br.cells.1
                obtain ⟨ka, kc, hkv, v1, v2⟩ := owns_form H5.out.br.row
                rw [hkv] at e0 HF
                clear v1 v2 hkv
                go_wp2_with fail
                refine Calls.mono HF.out ?_
                rintro e w9 ⟨rfl, vn9, q1, q2⟩
                have H10 : Hid (Fq B rb s last (rowF 5 b'.ks r').2 vn9 w9 ∧ AdvX none rb vn w vn9 w9) := ⟨q1, q2⟩
                clear q1 q2 HF
                go_wp2_with fail
                go_ret
                rw [HRX.out]
                exact ⟨rfl, vn9, H10.out⟩
            have e124 : sg ≠ 124 := fun q => hbrk (.inl q)
            have i124 : ((sg : Int) == 124) = false := by simp; omega
            have hE2 := HE3.out
            rw [if_neg hbrk] at hE2
            clear HE3
            by_cases h41 : sg = 41
            · subst h41
              rw [if_pos rfl, HEK.out.2.1] at hE2
              have HRq : Hid (RR = (wrongF 31 K r', b')) := hE2.symm
              obtain rfl : wi = false := by
                cases wi with
                | false => rfl
                | true => exact absurd (.inr ⟨rfl, rfl⟩) hbrk
              clear hE2 hbrk
              have HW : Hid _ := fwrong_any H3.out.1.rr 31 K
              go_wp2_with fail
              refine Calls.mono HW.out ?_
              rintro e w5 ⟨rfl, q1, q2⟩
              have H5 : Hid (Bw B rb bb s last vn w (wrongF 31 K r') vn' kv' b' w5) := H3.out.1.on q1 q2
              clear q1 q2 HW t0 t12
              have HRX : Hid (R = rowF 5 b'.ks (wrongF 31 K r')) := by
                show _ = _
                rw [HR.out, HRq.out]
              have HF : Hid _ := H5.out.fin HLEN.out
              have e0 := H5.out.br.cells.1
              obtain ⟨ka, kc, hkv, v1, v2⟩ := owns_form H5.out.br.row
              rw [hkv] at e0 HF
              clear v1 v2 hkv
              go_wp2_with fail
              refine Calls.mono HF.out ?_
              rintro e w9 ⟨rfl, vn9, q1, q2⟩
              have H10 : Hid (Fq B rb s last (rowF 5 b'.ks (wrongF 31 K r')).2 vn9 w9 ∧ AdvX none rb vn w vn9 w9) := ⟨q1, q2⟩
              clear q1 q2 HF
              go_wp2_with fail
              go_ret
              rw [HRX.out]
              exact ⟨rfl, vn9, H10.out⟩
            have i41 : ((sg : Int) == 41) = false := by simp; omega
            rw [if_neg h41] at hE2
            by_cases hsg : sg = 0
            · subst hsg
              rw [if_neg (by simp)] at hE2
              obtain ⟨op, c, st, mn, mx, lz, nn, kids⟩ := nd
              obtain ⟨hk0, hn10⟩ := HNd.out
              simp only at hk0 hn10 hE2
              subst hk0
              have t1 : wy.cell? ⟨m, 1, none⟩ = some (.int .u8 op) := H3.out.2.1.at rfl
              have t10 : wy.cell? ⟨m, 10, none⟩ = some (.int .i64 nn) := H3.out.2.1.at rfl
              have cd := H3.out.1.rr.cd hn10
              obtain ⟨D, hD⟩ : ∃ D, r'.dn.getD nn false = D := ⟨_, rfl⟩
              rw [hD] at cd hE2
              have HE4 : Hid _ := hE2
              have H6 : Hid (Bw B rb bb s last vn w r' vn' kv' b' wy.drew ∧ Lc 197 m (Tk.cells ⟨0, ⟨op, c, st, mn, mx, lz, nn, []⟩, false, tx, tm, tc⟩) wy.drew ∧ (m ≠ rb ∧ m ≠ bb ∧ w.heap.size ≤ m ∧ vn'.ownBlock ≠ some m ∧ ¬ vn'.kb m ∧ kv'.ownBlock ≠ some m)) := ⟨H3.out.1.kp (kp_drew _), H3.out.2.1.kp (kp_drew _), H3.out.2.2⟩
              have HN10 : Hid (nn < 10) := hn10
              have n1 : (0 : Int) ≤ (nn : Int) ∧ (nn : Int) < 10 := by omega
              clear hE2 hD hn10 e124 h41
              by_cases h9 : op = 9
              · subst h9
                cases D with
                | false =>
                  have hE2 := HE4.out
                  rw [if_pos ⟨rfl, rfl⟩, HEK.out.2.1] at hE2
                  have HRq : Hid (RR = (wrongF 31 K r', b')) := hE2.symm
                  clear hE2 HE4
                  go_upto_region 16 with fail
                  go_region
                  change Exit.then _ _ _ _ wy.drew
                  generalize wy.drew = wz at H6 ⊢
                  clear t1 t10 cd
                  have HW : Hid _ := fwrong_any H6.out.1.rr 31 K
                  go_wp2_with fail
                  refine Calls.mono HW.out ?_
                  rintro e w5 ⟨rfl, q1, q2⟩
                  have H5 : Hid (Bw B rb bb s last vn w (wrongF 31 K r') vn' kv' b' w5) := H6.out.1.on q1 q2
                  clear q1 q2 HW
                  have HRX : Hid (R = rowF 5 b'.ks (wrongF 31 K r')) := by
                    show _ = _
                    rw [HR.out, HRq.out]
                  have HF : Hid _ := H5.out.fin HLEN.out
                  have e0 := H5.out.br.cells.1
                  obtain ⟨ka, kc, hkv, v1, v2⟩ := owns_form H5.out.br.row
                  rw [hkv] at e0 HF
                  clear v1 v2 hkv
                  go_wp2_with fail
                  refine Calls.mono HF.out ?_
                  rintro e w9 ⟨rfl, vn9, q1, q2⟩
                  have H10 : Hid (Fq B rb s last (rowF 5 b'.ks (wrongF 31 K r')).2 vn9 w9 ∧ AdvX none rb vn w vn9 w9) := ⟨q1, q2⟩
                  clear q1 q2 HF
                  go_wp2_with fail
                  go_ret
                  rw [HRX.out]
                  exact ⟨rfl, vn9, H10.out⟩
                | true =>
                  have hE2 := HE4.out
                  rw [if_neg (by simp)] at hE2
                  have HE5 : Hid _ := hE2
                  clear hE2 HE4
                  go_upto_region 16 with fail
                  go_region
                  change Exit.then _ _ _ _ wy.drew
                  generalize wy.drew = wz at H6 ⊢
                  clear t1 t10 cd
                  have t13 : wz.cell? ⟨m, 13, none⟩ = some (.int .i64 tx) := H6.out.2.1.at rfl
                  have c1 := H6.out.1.rr.c1
                  have f1 := H6.out.1.rr.fz 1
                  have H7 : Hid (Bw B rb bb s last vn w { r' with k := tx } vn' kv' b' (wz.setCell ⟨rb, 1, none⟩ (.int .i64 tx)) ∧ Lc 197 m (Tk.cells ⟨0, ⟨9, c, st, mn, mx, lz, nn, []⟩, false, tx, tm, tc⟩) (wz.setCell ⟨rb, 1, none⟩ (.int .i64 tx))) := ⟨H6.out.1.on (H6.out.1.rr.setK tx) (fr_set _ _ _ _), H6.out.2.1.other (Ne.symm H6.out.2.2.1)⟩
                  go_upto_region 19 with fail
                  generalize wz.setCell ⟨rb, 1, none⟩ (.int .i64 tx) = w7 at H7 ⊢
                  clear t13 c1 f1
                  have H8 : Hid (Bw B rb bb s last vn w { r' with k := tx } vn' kv' b' w7.drew) := H7.out.1.kp (kp_drew _)
                  have tt := fun j v => H7.out.2.at (j := j) (v := v)
                  have t1 := tt 1 _ rfl
                  have t2 := tt 2 _ rfl
                  have t3 := tt 3 _ rfl
                  have t4 := tt 4 _ rfl
                  have t5 := tt 5 _ rfl
                  have t6 := tt 6 _ rfl
                  have t7 := tt 7 _ rfl
                  have t8 := tt 8 _ rfl
                  have t9 := tt 9 _ rfl
                  have t10 := tt 10 _ rfl
                  have t11 := tt 11 _ rfl
                  clear tt
                  simp only at t1 t2 t3 t4 t5 t6 t7 t8 t9 t10 t11
                  have HN : Hid (Calls Tryz.prog 142 #[.pointer (some ⟨rb, 0, none⟩), .agg #[.int .u8 9, .int .u8 c, .int .u64 st.a, .int .u64 st.b, .int .u64 st.c, .int .u64 st.d, .int .i64 mn, .int .i64 mx, .bool lz, .int .i64 nn, .slice none 0 0]] w7.drew (FAdd B rb s last (nodeF ⟨9, c, st, mn, mx, lz, nn, []⟩ { r' with k := tx }) vn' none w7.drew)) := fleaf H8.out.rr ⟨9, c, st, mn, mx, lz, nn, []⟩ rfl
                  obtain ⟨⟨ni, r8⟩, hnr⟩ : ∃ X, nodeF ⟨9, c, st, mn, mx, lz, nn, []⟩ { r' with k := tx } = X := ⟨_, rfl⟩
                  have HNR : Hid (nodeF ⟨9, c, st, mn, mx, lz, nn, []⟩ { r' with k := tx } = (ni, r8)) := hnr
                  rw [hnr] at HN
                  clear hnr
                  have HLb : Hid (b'.ks.length < 50000) := by have := HQ.out.hb.1; show _ < _; omega
                  refine wp_region_noPanic ?_
                  refine wp_region_held_drew (S := Lc 197 m (Tk.cells ⟨0, ⟨9, c, st, mn, mx, lz, nn, []⟩, false, tx, tm, tc⟩)) (by kernel_rfl) (H7.out.2.kp (kp_drew _)) (fun hHeld => ?_)
                  refine takeAt 0 (some 112) ?_ rfl rfl (by kernel_rfl) (by kernel_rfl) (by kernel_rfl) (fun _ _ _ h => h) (Or.inl ⟨by rfl, ?_⟩) hHeld ?_
                  rotate_left
                  · intro w hSw
                    go_simp <;> with_reducible rfl
                  try simp only [Act.put, List.setIfInBounds_toArray, List.set_cons_zero, List.set_cons_succ]
                  refine takeAt 1 (some 113) ?_ rfl rfl (by kernel_rfl) (by kernel_rfl) (by kernel_rfl) (fun _ _ _ h => h) (Or.inl ⟨by rfl, ?_⟩) hHeld ?_
                  rotate_left
                  · intro w hSw
                    go_simp <;> with_reducible rfl
                  try simp only [Act.put, List.setIfInBounds_toArray, List.set_cons_zero, List.set_cons_succ]
                  refine takeAt 2 (some 114) ?_ rfl rfl (by kernel_rfl) (by kernel_rfl) (by kernel_rfl) (fun _ _ _ h => h) (Or.inl ⟨by rfl, ?_⟩) hHeld ?_
                  rotate_left
                  · intro w hSw
                    go_simp <;> with_reducible rfl
                  try simp only [Act.put, List.setIfInBounds_toArray, List.set_cons_zero, List.set_cons_succ]
                  refine takeAt 3 (some 115) ?_ rfl rfl (by kernel_rfl) (by kernel_rfl) (by kernel_rfl) (fun _ _ _ h => h) (Or.inl ⟨by rfl, ?_⟩) hHeld ?_
                  rotate_left
                  · intro w hSw
                    go_simp <;> with_reducible rfl
                  try simp only [Act.put, List.setIfInBounds_toArray, List.set_cons_zero, List.set_cons_succ]
                  refine takeAt 4 (some 116) (.agg #[.int .u8 9, .int .u8 c, .int .u64 st.a, .int .u64 st.b, .int .u64 st.c, .int .u64 st.d, .int .i64 mn, .int .i64 mx, .bool lz, .int .i64 nn, .slice none 0 0]) rfl rfl (by kernel_rfl) (by kernel_rfl) (by kernel_rfl) (fun _ _ _ h => h) (Or.inl ⟨by rfl, ?_⟩) hHeld ?_
                  · intro w hSw
                    have x1 : w.cell? ⟨m, 1, none⟩ = _ := hSw.at rfl
                    have x2 : w.cell? ⟨m, 2, none⟩ = _ := hSw.at rfl
                    have x3 : w.cell? ⟨m, 3, none⟩ = _ := hSw.at rfl
                    have x4 : w.cell? ⟨m, 4, none⟩ = _ := hSw.at rfl
                    have x5 : w.cell? ⟨m, 5, none⟩ = _ := hSw.at rfl
                    have x6 : w.cell? ⟨m, 6, none⟩ = _ := hSw.at rfl
                    have x7 : w.cell? ⟨m, 7, none⟩ = _ := hSw.at rfl
                    have x8 : w.cell? ⟨m, 8, none⟩ = _ := hSw.at rfl
                    have x9 : w.cell? ⟨m, 9, none⟩ = _ := hSw.at rfl
                    have x10 : w.cell? ⟨m, 10, none⟩ = _ := hSw.at rfl
                    have x11 : w.cell? ⟨m, 11, none⟩ = _ := hSw.at rfl
                    go_simp <;> with_reducible rfl
                  try simp only [Act.put, List.setIfInBounds_toArray, List.set_cons_zero, List.set_cons_succ]
                  refine takeAt 6 (some 118) ?_ rfl rfl (by kernel_rfl) (by kernel_rfl) (by kernel_rfl) (fun _ _ _ h => h) (Or.inl ⟨by rfl, ?_⟩) hHeld ?_
                  rotate_left
                  · intro w hSw
                    go_simp <;> with_reducible rfl
                  try simp only [Act.put, List.setIfInBounds_toArray, List.set_cons_zero, List.set_cons_succ]
                  refine takeAt 7 (some 119) ?_ rfl rfl (by kernel_rfl) (by kernel_rfl) (by kernel_rfl) (fun _ _ _ h => h) (Or.inl ⟨by rfl, ?_⟩) hHeld ?_
                  rotate_left
                  · intro w hSw
                    go_simp <;> with_reducible rfl
                  try simp only [Act.put, List.setIfInBounds_toArray, List.set_cons_zero, List.set_cons_succ]
                  refine takeAt 8 (some 120) (.int .u8 9) rfl rfl (by kernel_rfl) (by kernel_rfl) (by kernel_rfl) (fun _ _ _ h => h) (Or.inl ⟨by rfl, ?_⟩) hHeld ?_
                  · intro w hSw
                    have x1 : w.cell? ⟨m, 1, none⟩ = _ := hSw.at rfl
                    go_simp <;> with_reducible rfl
                  try simp only [Act.put, List.setIfInBounds_toArray, List.set_cons_zero, List.set_cons_succ]
                  refine takeAt 9 (some 121) ?_ rfl rfl (by kernel_rfl) (by kernel_rfl) (by kernel_rfl) (fun _ _ _ h => h) (Or.inl ⟨by rfl, ?_⟩) hHeld ?_
                  rotate_left
                  · intro w hSw
                    go_simp <;> with_reducible rfl
                  try simp only [Act.put, List.setIfInBounds_toArray, List.set_cons_zero, List.set_cons_succ]
                  refine callAt 5 117 142 (vals := #[.pointer (some ⟨rb, 0, none⟩), .agg #[.int .u8 9, .int .u8 c, .int .u64 st.a, .int .u64 st.b, .int .u64 st.c, .int .u64 st.d, .int .i64 mn, .int .i64 mx, .bool lz, .int .i64 nn, .slice none 0 0]]) (by kernel_rfl) rfl rfl rfl rfl (by simp [Act.eval]) Tryz.func142 (by kernel_rfl) (by kernel_rfl) ?_
                  refine Calls.mono HN.out ?_
                  rintro e w8 ⟨rfl, vn8, q1, q2⟩
                  have H9 : Hid (Bw B rb bb s last vn w r8 vn8 kv' b' w8) := H8.out.adv q1 q2
                  have hL8 := (H7.out.2.kp (kp_drew _)).fr q2.fr (fun z => z.elim H6.out.2.2.1 H6.out.2.2.2.2.2.1)
                  have HM9 : Hid (¬ ((m = rb ∨ vn8.ownBlock = some m) ∨ m = bb ∨ kv'.ownBlock = some m)) := by
                    rintro ((z | z) | z | z)
                    · exact H6.out.2.2.1 z
                    · rcases q2.own with e | e
                      · exact H6.out.2.2.2.2.2.1 (by rw [← e]; exact z)
                      · have h1 := e m z
                        have h2 := (H7.out.2.kp (kp_drew _)).lt
                        omega
                    · exact H6.out.2.2.2.1 z
                    · exact H6.out.2.2.2.2.2.2.2 z
                  clear q1 q2
                  refine ⟨_, rfl, hL8, fun hHeld => ?_⟩
                  try simp only [Act.put, List.setIfInBounds_toArray, List.set_cons_zero, List.set_cons_succ]
                  refine takeAt 10 (some 122) ?_ rfl rfl (by kernel_rfl) (by kernel_rfl) (by kernel_rfl) (fun _ _ _ h => h) (Or.inl ⟨by rfl, ?_⟩) hHeld ?_
                  rotate_left
                  · intro w hSw
                    go_simp <;> with_reducible rfl
                  try simp only [Act.put, List.setIfInBounds_toArray, List.set_cons_zero, List.set_cons_succ]
                  refine takeAt 11 (some 123) ?_ rfl rfl (by kernel_rfl) (by kernel_rfl) (by kernel_rfl) (fun _ _ _ h => h) (Or.inl ⟨by rfl, ?_⟩) hHeld ?_
                  rotate_left
                  · intro w hSw
                    go_simp <;> with_reducible rfl
                  try simp only [Act.put, List.setIfInBounds_toArray, List.set_cons_zero, List.set_cons_succ]
                  refine takeAt 12 (some 124) ?_ rfl rfl (by kernel_rfl) (by kernel_rfl) (by kernel_rfl) (fun _ _ _ h => h) (Or.inl ⟨by rfl, ?_⟩) hHeld ?_
                  rotate_left
                  · intro w hSw
                    go_simp <;> with_reducible rfl
                  try simp only [Act.put, List.setIfInBounds_toArray, List.set_cons_zero, List.set_cons_succ]
                  refine takeAt 13 (some 125) (.int .u8 9) rfl rfl (by kernel_rfl) (by kernel_rfl) (by kernel_rfl) (fun _ _ _ h => h) (Or.inl ⟨by rfl, ?_⟩) hHeld ?_
                  · intro w hSw
                    have x1 : w.cell? ⟨m, 1, none⟩ = _ := hSw.at rfl
                    go_simp <;> with_reducible rfl
                  try simp only [Act.put, List.setIfInBounds_toArray, List.set_cons_zero, List.set_cons_succ]
                  refine takeAt 14 (some 126) ?_ rfl rfl (by kernel_rfl) (by kernel_rfl) (by kernel_rfl) (fun _ _ _ h => h) (Or.inl ⟨by rfl, ?_⟩) hHeld ?_
                  rotate_left
                  · intro w hSw
                    go_simp <;> with_reducible rfl
                  try simp only [Act.put, List.setIfInBounds_toArray, List.set_cons_zero, List.set_cons_succ]
                  refine takeAt 15 (some 127) ?_ rfl rfl (by kernel_rfl) (by kernel_rfl) (by kernel_rfl) (fun _ _ _ h => h) (Or.inl ⟨by rfl, ?_⟩) hHeld ?_
                  rotate_left
                  · intro w hSw
                    go_simp <;> with_reducible rfl
                  try simp only [Act.put, List.setIfInBounds_toArray, List.set_cons_zero, List.set_cons_succ]
                  refine callAt 16 128 141 (vals := #[.pointer (some ⟨rb, 0, none⟩), .pointer (some ⟨bb, 0, none⟩), .int .i64 ni, .bool true]) (by kernel_rfl) rfl rfl rfl rfl (by simp [Act.eval]) Tryz.func141 (by kernel_rfl) (by kernel_rfl) ?_
                  refine Calls.mono (piece_any H9.out.rr H9.out.br HLb.out _ _) ?_
                  rintro e w9 ⟨rfl, vn9, kv9, q1, q2, q3⟩
                  have H10 : Hid (Bw B rb bb s last vn w r8 vn9 kv9 (pieceF b' ni true) w9) := H9.out.step q1 q2 q3
                  have hL9 := hL8.fr q3.fr HM9.out
                  clear q1 q2 q3
                  refine ⟨_, rfl, hL9, fun hHeld => ?_⟩
                  try simp only [Act.put, List.setIfInBounds_toArray, List.set_cons_zero, List.set_cons_succ]
                  refine wpAnyH_done (by kernel_rfl) ?_ _
                  refine NoPanic.normal ?_
                  have HX : Hid (BI B rb bb s last BRS wi n vn w RR w9 ∧ leftAt s rb w9 < leftAt s rb wr) := by
                    have q := HNx.out
                    have h5 := HE5.out
                    unfold putF at h5
                    rw [HNR.out] at h5
                    have hu : Up s r'.k r8 := .inr (by
                      have e := nodeF_k ⟨9, c, st, mn, mx, lz, nn, []⟩ { r' with k := tx }
                      rw [HNR.out] at e
                      simp only at e
                      omega)
                    have hgg : r'.g ≤ r8.g := by
                      have e := nodeF_g ⟨9, c, st, mn, mx, lz, nn, []⟩ { r' with k := tx }
                      rw [HNR.out] at e
                      exact Nat.le_of_eq e.symm
                    obtain ⟨h1, h2⟩ := HQ.out.next HK0.out H10.out (by  exact h5) hu (fun m h => pieceF_hb h) hgg
                    rw [HM0.out]
                    exact ⟨⟨_, _, _, _, _, h1⟩, h2⟩
                  go_wp2_with fail
                  go_roundw
                  case rel => exact HX.out.1
                  case measure => exact HX.out.2
              · have hE2 := HE4.out
                rw [if_neg (fun q => h9 q.1)] at hE2
                have HE5 : Hid _ := hE2
                have i9 : ((op : Int) == 9) = false := by simp; omega
                clear hE2 HE4 cd
                go_upto_region 16 with fail
                go_region
                change Exit.then _ _ _ _ wy.drew
                generalize wy.drew = wz at H6 ⊢
                clear t1 t10 i9
                by_cases h14 : op = 14
                · subst h14
                  have t13 : wz.cell? ⟨m, 13, none⟩ = some (.int .i64 tx) := H6.out.2.1.at rfl
                  have c1 := H6.out.1.rr.c1
                  have f1 := H6.out.1.rr.fz 1
                  have H7 : Hid (Bw B rb bb s last vn w { r' with k := tx } vn' kv' b' (wz.setCell ⟨rb, 1, none⟩ (.int .i64 tx)) ∧ Lc 197 m (Tk.cells ⟨0, ⟨14, c, st, mn, mx, lz, nn, []⟩, false, tx, tm, tc⟩) (wz.setCell ⟨rb, 1, none⟩ (.int .i64 tx))) := ⟨H6.out.1.on (H6.out.1.rr.setK tx) (fr_set _ _ _ _), H6.out.2.1.other (Ne.symm H6.out.2.2.1)⟩
                  go_upto_region 19 with fail
                  generalize wz.setCell ⟨rb, 1, none⟩ (.int .i64 tx) = w7 at H7 ⊢
                  clear t13 c1 f1
                  have H8 : Hid (Bw B rb bb s last vn w { r' with k := tx } vn' kv' b' w7.drew) := H7.out.1.kp (kp_drew _)
                  have tt := fun j v => H7.out.2.at (j := j) (v := v)
                  have t1 := tt 1 _ rfl
                  have t2 := tt 2 _ rfl
                  have t3 := tt 3 _ rfl
                  have t4 := tt 4 _ rfl
                  have t5 := tt 5 _ rfl
                  have t6 := tt 6 _ rfl
                  have t7 := tt 7 _ rfl
                  have t8 := tt 8 _ rfl
                  have t9 := tt 9 _ rfl
                  have t10 := tt 10 _ rfl
                  have t11 := tt 11 _ rfl
                  clear tt
                  simp only at t1 t2 t3 t4 t5 t6 t7 t8 t9 t10 t11
                  have HN : Hid (Calls Tryz.prog 142 #[.pointer (some ⟨rb, 0, none⟩), .agg #[.int .u8 14, .int .u8 c, .int .u64 st.a, .int .u64 st.b, .int .u64 st.c, .int .u64 st.d, .int .i64 mn, .int .i64 mx, .bool lz, .int .i64 nn, .slice none 0 0]] w7.drew (FAdd B rb s last (nodeF ⟨14, c, st, mn, mx, lz, nn, []⟩ { r' with k := tx }) vn' none w7.drew)) := fleaf H8.out.rr ⟨14, c, st, mn, mx, lz, nn, []⟩ rfl
                  obtain ⟨⟨ni, r8⟩, hnr⟩ : ∃ X, nodeF ⟨14, c, st, mn, mx, lz, nn, []⟩ { r' with k := tx } = X := ⟨_, rfl⟩
                  have HNR : Hid (nodeF ⟨14, c, st, mn, mx, lz, nn, []⟩ { r' with k := tx } = (ni, r8)) := hnr
                  rw [hnr] at HN
                  clear hnr
                  have HLb : Hid (b'.ks.length < 50000) := by have := HQ.out.hb.1; show _ < _; omega
                  refine wp_region_noPanic ?_
                  refine wp_region_held_drew (S := Lc 197 m (Tk.cells ⟨0, ⟨14, c, st, mn, mx, lz, nn, []⟩, false, tx, tm, tc⟩)) (by kernel_rfl) (H7.out.2.kp (kp_drew _)) (fun hHeld => ?_)
                  refine takeAt 0 (some 112) ?_ rfl rfl (by kernel_rfl) (by kernel_rfl) (by kernel_rfl) (fun _ _ _ h => h) (Or.inl ⟨by rfl, ?_⟩) hHeld ?_
                  rotate_left
                  · intro w hSw
                    go_simp <;> with_reducible rfl
                  try simp only [Act.put, List.setIfInBounds_toArray, List.set_cons_zero, List.set_cons_succ]
                  refine takeAt 1 (some 113) ?_ rfl rfl (by kernel_rfl) (by kernel_rfl) (by kernel_rfl) (fun _ _ _ h => h) (Or.inl ⟨by rfl, ?_⟩) hHeld ?_
                  rotate_left
                  · intro w hSw
                    go_simp <;> with_reducible rfl
                  try simp only [Act.put, List.setIfInBounds_toArray, List.set_cons_zero, List.set_cons_succ]
                  refine takeAt 2 (some 114) ?_ rfl rfl (by kernel_rfl) (by kernel_rfl) (by kernel_rfl) (fun _ _ _ h => h) (Or.inl ⟨by rfl, ?_⟩) hHeld ?_
                  rotate_left
                  · intro w hSw
                    go_simp <;> with_reducible rfl
                  try simp only [Act.put, List.setIfInBounds_toArray, List.set_cons_zero, List.set_cons_succ]
                  refine takeAt 3 (some 115) ?_ rfl rfl (by kernel_rfl) (by kernel_rfl) (by kernel_rfl) (fun _ _ _ h => h) (Or.inl ⟨by rfl, ?_⟩) hHeld ?_
                  rotate_left
                  · intro w hSw
                    go_simp <;> with_reducible rfl
                  try simp only [Act.put, List.setIfInBounds_toArray, List.set_cons_zero, List.set_cons_succ]
                  refine takeAt 4 (some 116) (.agg #[.int .u8 14, .int .u8 c, .int .u64 st.a, .int .u64 st.b, .int .u64 st.c, .int .u64 st.d, .int .i64 mn, .int .i64 mx, .bool lz, .int .i64 nn, .slice none 0 0]) rfl rfl (by kernel_rfl) (by kernel_rfl) (by kernel_rfl) (fun _ _ _ h => h) (Or.inl ⟨by rfl, ?_⟩) hHeld ?_
                  · intro w hSw
                    have x1 : w.cell? ⟨m, 1, none⟩ = _ := hSw.at rfl
                    have x2 : w.cell? ⟨m, 2, none⟩ = _ := hSw.at rfl
                    have x3 : w.cell? ⟨m, 3, none⟩ = _ := hSw.at rfl
                    have x4 : w.cell? ⟨m, 4, none⟩ = _ := hSw.at rfl
                    have x5 : w.cell? ⟨m, 5, none⟩ = _ := hSw.at rfl
                    have x6 : w.cell? ⟨m, 6, none⟩ = _ := hSw.at rfl
                    have x7 : w.cell? ⟨m, 7, none⟩ = _ := hSw.at rfl
                    have x8 : w.cell? ⟨m, 8, none⟩ = _ := hSw.at rfl
                    have x9 : w.cell? ⟨m, 9, none⟩ = _ := hSw.at rfl
                    have x10 : w.cell? ⟨m, 10, none⟩ = _ := hSw.at rfl
                    have x11 : w.cell? ⟨m, 11, none⟩ = _ := hSw.at rfl
                    go_simp <;> with_reducible rfl
                  try simp only [Act.put, List.setIfInBounds_toArray, List.set_cons_zero, List.set_cons_succ]
                  refine takeAt 6 (some 118) ?_ rfl rfl (by kernel_rfl) (by kernel_rfl) (by kernel_rfl) (fun _ _ _ h => h) (Or.inl ⟨by rfl, ?_⟩) hHeld ?_
                  rotate_left
                  · intro w hSw
                    go_simp <;> with_reducible rfl
                  try simp only [Act.put, List.setIfInBounds_toArray, List.set_cons_zero, List.set_cons_succ]
                  refine takeAt 7 (some 119) ?_ rfl rfl (by kernel_rfl) (by kernel_rfl) (by kernel_rfl) (fun _ _ _ h => h) (Or.inl ⟨by rfl, ?_⟩) hHeld ?_
                  rotate_left
                  · intro w hSw
                    go_simp <;> with_reducible rfl
                  try simp only [Act.put, List.setIfInBounds_toArray, List.set_cons_zero, List.set_cons_succ]
                  refine takeAt 8 (some 120) (.int .u8 14) rfl rfl (by kernel_rfl) (by kernel_rfl) (by kernel_rfl) (fun _ _ _ h => h) (Or.inl ⟨by rfl, ?_⟩) hHeld ?_
                  · intro w hSw
                    have x1 : w.cell? ⟨m, 1, none⟩ = _ := hSw.at rfl
                    go_simp <;> with_reducible rfl
                  try simp only [Act.put, List.setIfInBounds_toArray, List.set_cons_zero, List.set_cons_succ]
                  refine takeAt 9 (some 121) ?_ rfl rfl (by kernel_rfl) (by kernel_rfl) (by kernel_rfl) (fun _ _ _ h => h) (Or.inl ⟨by rfl, ?_⟩) hHeld ?_
                  rotate_left
                  · intro w hSw
                    go_simp <;> with_reducible rfl
                  try simp only [Act.put, List.setIfInBounds_toArray, List.set_cons_zero, List.set_cons_succ]
                  refine callAt 5 117 142 (vals := #[.pointer (some ⟨rb, 0, none⟩), .agg #[.int .u8 14, .int .u8 c, .int .u64 st.a, .int .u64 st.b, .int .u64 st.c, .int .u64 st.d, .int .i64 mn, .int .i64 mx, .bool lz, .int .i64 nn, .slice none 0 0]]) (by kernel_rfl) rfl rfl rfl rfl (by simp [Act.eval]) Tryz.func142 (by kernel_rfl) (by kernel_rfl) ?_
                  refine Calls.mono HN.out ?_
                  rintro e w8 ⟨rfl, vn8, q1, q2⟩
                  have H9 : Hid (Bw B rb bb s last vn w r8 vn8 kv' b' w8) := H8.out.adv q1 q2
                  have hL8 := (H7.out.2.kp (kp_drew _)).fr q2.fr (fun z => z.elim H6.out.2.2.1 H6.out.2.2.2.2.2.1)
                  have HM9 : Hid (¬ ((m = rb ∨ vn8.ownBlock = some m) ∨ m = bb ∨ kv'.ownBlock = some m)) := by
                    rintro ((z | z) | z | z)
                    · exact H6.out.2.2.1 z
                    · rcases q2.own with e | e
                      · exact H6.out.2.2.2.2.2.1 (by rw [← e]; exact z)
                      · have h1 := e m z
                        have h2 := (H7.out.2.kp (kp_drew _)).lt
                        omega
                    · exact H6.out.2.2.2.1 z
                    · exact H6.out.2.2.2.2.2.2.2 z
                  clear q1 q2
                  refine ⟨_, rfl, hL8, fun hHeld => ?_⟩
                  try simp only [Act.put, List.setIfInBounds_toArray, List.set_cons_zero, List.set_cons_succ]
                  refine takeAt 10 (some 122) ?_ rfl rfl (by kernel_rfl) (by kernel_rfl) (by kernel_rfl) (fun _ _ _ h => h) (Or.inl ⟨by rfl, ?_⟩) hHeld ?_
                  rotate_left
                  · intro w hSw
                    go_simp <;> with_reducible rfl
                  try simp only [Act.put, List.setIfInBounds_toArray, List.set_cons_zero, List.set_cons_succ]
                  refine takeAt 11 (some 123) undef rfl rfl (by kernel_rfl) (by kernel_rfl) (by kernel_rfl) (fun _ _ _ h => h) (Or.inr ⟨by rfl, rfl⟩) hHeld ?_
                  try simp only [Act.put, List.setIfInBounds_toArray, List.set_cons_zero, List.set_cons_succ]
                  refine takeAt 12 (some 124) undef rfl rfl (by kernel_rfl) (by kernel_rfl) (by kernel_rfl) (fun _ _ _ h => h) (Or.inr ⟨by rfl, rfl⟩) hHeld ?_
                  try simp only [Act.put, List.setIfInBounds_toArray, List.set_cons_zero, List.set_cons_succ]
                  refine takeAt 13 (some 125) undef rfl rfl (by kernel_rfl) (by kernel_rfl) (by kernel_rfl) (fun _ _ _ h => h) (Or.inr ⟨by rfl, rfl⟩) hHeld ?_
                  try simp only [Act.put, List.setIfInBounds_toArray, List.set_cons_zero, List.set_cons_succ]
                  refine takeAt 14 (some 126) undef rfl rfl (by kernel_rfl) (by kernel_rfl) (by kernel_rfl) (fun _ _ _ h => h) (Or.inr ⟨by rfl, rfl⟩) hHeld ?_
                  try simp only [Act.put, List.setIfInBounds_toArray, List.set_cons_zero, List.set_cons_succ]
                  refine takeAt 15 (some 127) ?_ rfl rfl (by kernel_rfl) (by kernel_rfl) (by kernel_rfl) (fun _ _ _ h => h) (Or.inl ⟨by rfl, ?_⟩) hHeld ?_
                  rotate_left
                  · intro w hSw
                    go_simp <;> with_reducible rfl
                  try simp only [Act.put, List.setIfInBounds_toArray, List.set_cons_zero, List.set_cons_succ]
                  refine callAt 16 128 141 (vals := #[.pointer (some ⟨rb, 0, none⟩), .pointer (some ⟨bb, 0, none⟩), .int .i64 ni, .bool false]) (by kernel_rfl) rfl rfl rfl rfl (by simp [Act.eval]) Tryz.func141 (by kernel_rfl) (by kernel_rfl) ?_
                  refine Calls.mono (piece_any H9.out.rr H9.out.br HLb.out _ _) ?_
                  rintro e w9 ⟨rfl, vn9, kv9, q1, q2, q3⟩
                  have H10 : Hid (Bw B rb bb s last vn w r8 vn9 kv9 (pieceF b' ni false) w9) := H9.out.step q1 q2 q3
                  have hL9 := hL8.fr q3.fr HM9.out
                  clear q1 q2 q3
                  refine ⟨_, rfl, hL9, fun hHeld => ?_⟩
                  try simp only [Act.put, List.setIfInBounds_toArray, List.set_cons_zero, List.set_cons_succ]
                  refine wpAnyH_done (by kernel_rfl) ?_ _
                  refine NoPanic.normal ?_
                  have HX : Hid (BI B rb bb s last BRS wi n vn w RR w9 ∧ leftAt s rb w9 < leftAt s rb wr) := by
                    have q := HNx.out
                    have h5 := HE5.out
                    unfold putF at h5
                    rw [HNR.out] at h5
                    have hu : Up s r'.k r8 := .inr (by
                      have e := nodeF_k ⟨14, c, st, mn, mx, lz, nn, []⟩ { r' with k := tx }
                      rw [HNR.out] at e
                      simp only at e
                      omega)
                    have hgg : r'.g ≤ r8.g := by
                      have e := nodeF_g ⟨14, c, st, mn, mx, lz, nn, []⟩ { r' with k := tx }
                      rw [HNR.out] at e
                      exact Nat.le_of_eq e.symm
                    obtain ⟨h1, h2⟩ := HQ.out.next HK0.out H10.out (by  exact h5) hu (fun m h => pieceF_hb h) hgg
                    rw [HM0.out]
                    exact ⟨⟨_, _, _, _, _, h1⟩, h2⟩
                  go_wp2_with fail
                  go_roundw
                  case rel => exact HX.out.1
                  case measure => exact HX.out.2
                have i14 : ((op : Int) != 14) = true := by simp; omega
                by_cases h15 : op = 15
                · subst h15
                  have t13 : wz.cell? ⟨m, 13, none⟩ = some (.int .i64 tx) := H6.out.2.1.at rfl
                  have c1 := H6.out.1.rr.c1
                  have f1 := H6.out.1.rr.fz 1
                  have H7 : Hid (Bw B rb bb s last vn w { r' with k := tx } vn' kv' b' (wz.setCell ⟨rb, 1, none⟩ (.int .i64 tx)) ∧ Lc 197 m (Tk.cells ⟨0, ⟨15, c, st, mn, mx, lz, nn, []⟩, false, tx, tm, tc⟩) (wz.setCell ⟨rb, 1, none⟩ (.int .i64 tx))) := ⟨H6.out.1.on (H6.out.1.rr.setK tx) (fr_set _ _ _ _), H6.out.2.1.other (Ne.symm H6.out.2.2.1)⟩
                  go_upto_region 19 with fail
                  generalize wz.setCell ⟨rb, 1, none⟩ (.int .i64 tx) = w7 at H7 ⊢
                  clear t13 c1 f1
                  have H8 : Hid (Bw B rb bb s last vn w { r' with k := tx } vn' kv' b' w7.drew) := H7.out.1.kp (kp_drew _)
                  have tt := fun j v => H7.out.2.at (j := j) (v := v)
                  have t1 := tt 1 _ rfl
                  have t2 := tt 2 _ rfl
                  have t3 := tt 3 _ rfl
                  have t4 := tt 4 _ rfl
                  have t5 := tt 5 _ rfl
                  have t6 := tt 6 _ rfl
                  have t7 := tt 7 _ rfl
                  have t8 := tt 8 _ rfl
                  have t9 := tt 9 _ rfl
                  have t10 := tt 10 _ rfl
                  have t11 := tt 11 _ rfl
                  clear tt
                  simp only at t1 t2 t3 t4 t5 t6 t7 t8 t9 t10 t11
                  have HN : Hid (Calls Tryz.prog 142 #[.pointer (some ⟨rb, 0, none⟩), .agg #[.int .u8 15, .int .u8 c, .int .u64 st.a, .int .u64 st.b, .int .u64 st.c, .int .u64 st.d, .int .i64 mn, .int .i64 mx, .bool lz, .int .i64 nn, .slice none 0 0]] w7.drew (FAdd B rb s last (nodeF ⟨15, c, st, mn, mx, lz, nn, []⟩ { r' with k := tx }) vn' none w7.drew)) := fleaf H8.out.rr ⟨15, c, st, mn, mx, lz, nn, []⟩ rfl
                  obtain ⟨⟨ni, r8⟩, hnr⟩ : ∃ X, nodeF ⟨15, c, st, mn, mx, lz, nn, []⟩ { r' with k := tx } = X := ⟨_, rfl⟩
                  have HNR : Hid (nodeF ⟨15, c, st, mn, mx, lz, nn, []⟩ { r' with k := tx } = (ni, r8)) := hnr
                  rw [hnr] at HN
                  clear hnr
                  have HLb : Hid (b'.ks.length < 50000) := by have := HQ.out.hb.1; show _ < _; omega
                  refine wp_region_noPanic ?_
                  refine wp_region_held_drew (S := Lc 197 m (Tk.cells ⟨0, ⟨15, c, st, mn, mx, lz, nn, []⟩, false, tx, tm, tc⟩)) (by kernel_rfl) (H7.out.2.kp (kp_drew _)) (fun hHeld => ?_)
                  refine takeAt 0 (some 112) ?_ rfl rfl (by kernel_rfl) (by kernel_rfl) (by kernel_rfl) (fun _ _ _ h => h) (Or.inl ⟨by rfl, ?_⟩) hHeld ?_
                  rotate_left
                  · intro w hSw
                    go_simp <;> with_reducible rfl
                  try simp only [Act.put, List.setIfInBounds_toArray, List.set_cons_zero, List.set_cons_succ]
                  refine takeAt 1 (some 113) ?_ rfl rfl (by kernel_rfl) (by kernel_rfl) (by kernel_rfl) (fun _ _ _ h => h) (Or.inl ⟨by rfl, ?_⟩) hHeld ?_
                  rotate_left
                  · intro w hSw
                    go_simp <;> with_reducible rfl
                  try simp only [Act.put, List.setIfInBounds_toArray, List.set_cons_zero, List.set_cons_succ]
                  refine takeAt 2 (some 114) ?_ rfl rfl (by kernel_rfl) (by kernel_rfl) (by kernel_rfl) (fun _ _ _ h => h) (Or.inl ⟨by rfl, ?_⟩) hHeld ?_
                  rotate_left
                  · intro w hSw
                    go_simp <;> with_reducible rfl
                  try simp only [Act.put, List.setIfInBounds_toArray, List.set_cons_zero, List.set_cons_succ]
                  refine takeAt 3 (some 115) ?_ rfl rfl (by kernel_rfl) (by kernel_rfl) (by kernel_rfl) (fun _ _ _ h => h) (Or.inl ⟨by rfl, ?_⟩) hHeld ?_
                  rotate_left
                  · intro w hSw
                    go_simp <;> with_reducible rfl
                  try simp only [Act.put, List.setIfInBounds_toArray, List.set_cons_zero, List.set_cons_succ]
                  refine takeAt 4 (some 116) (.agg #[.int .u8 15, .int .u8 c, .int .u64 st.a, .int .u64 st.b, .int .u64 st.c, .int .u64 st.d, .int .i64 mn, .int .i64 mx, .bool lz, .int .i64 nn, .slice none 0 0]) rfl rfl (by kernel_rfl) (by kernel_rfl) (by kernel_rfl) (fun _ _ _ h => h) (Or.inl ⟨by rfl, ?_⟩) hHeld ?_
                  · intro w hSw
                    have x1 : w.cell? ⟨m, 1, none⟩ = _ := hSw.at rfl
                    have x2 : w.cell? ⟨m, 2, none⟩ = _ := hSw.at rfl
                    have x3 : w.cell? ⟨m, 3, none⟩ = _ := hSw.at rfl
                    have x4 : w.cell? ⟨m, 4, none⟩ = _ := hSw.at rfl
                    have x5 : w.cell? ⟨m, 5, none⟩ = _ := hSw.at rfl
                    have x6 : w.cell? ⟨m, 6, none⟩ = _ := hSw.at rfl
                    have x7 : w.cell? ⟨m, 7, none⟩ = _ := hSw.at rfl
                    have x8 : w.cell? ⟨m, 8, none⟩ = _ := hSw.at rfl
                    have x9 : w.cell? ⟨m, 9, none⟩ = _ := hSw.at rfl
                    have x10 : w.cell? ⟨m, 10, none⟩ = _ := hSw.at rfl
                    have x11 : w.cell? ⟨m, 11, none⟩ = _ := hSw.at rfl
                    go_simp <;> with_reducible rfl
                  try simp only [Act.put, List.setIfInBounds_toArray, List.set_cons_zero, List.set_cons_succ]
                  refine takeAt 6 (some 118) ?_ rfl rfl (by kernel_rfl) (by kernel_rfl) (by kernel_rfl) (fun _ _ _ h => h) (Or.inl ⟨by rfl, ?_⟩) hHeld ?_
                  rotate_left
                  · intro w hSw
                    go_simp <;> with_reducible rfl
                  try simp only [Act.put, List.setIfInBounds_toArray, List.set_cons_zero, List.set_cons_succ]
                  refine takeAt 7 (some 119) ?_ rfl rfl (by kernel_rfl) (by kernel_rfl) (by kernel_rfl) (fun _ _ _ h => h) (Or.inl ⟨by rfl, ?_⟩) hHeld ?_
                  rotate_left
                  · intro w hSw
                    go_simp <;> with_reducible rfl
                  try simp only [Act.put, List.setIfInBounds_toArray, List.set_cons_zero, List.set_cons_succ]
                  refine takeAt 8 (some 120) (.int .u8 15) rfl rfl (by kernel_rfl) (by kernel_rfl) (by kernel_rfl) (fun _ _ _ h => h) (Or.inl ⟨by rfl, ?_⟩) hHeld ?_
                  · intro w hSw
                    have x1 : w.cell? ⟨m, 1, none⟩ = _ := hSw.at rfl
                    go_simp <;> with_reducible rfl
                  try simp only [Act.put, List.setIfInBounds_toArray, List.set_cons_zero, List.set_cons_succ]
                  refine takeAt 9 (some 121) ?_ rfl rfl (by kernel_rfl) (by kernel_rfl) (by kernel_rfl) (fun _ _ _ h => h) (Or.inl ⟨by rfl, ?_⟩) hHeld ?_
                  rotate_left
                  · intro w hSw
                    go_simp <;> with_reducible rfl
                  try simp only [Act.put, List.setIfInBounds_toArray, List.set_cons_zero, List.set_cons_succ]
                  refine callAt 5 117 142 (vals := #[.pointer (some ⟨rb, 0, none⟩), .agg #[.int .u8 15, .int .u8 c, .int .u64 st.a, .int .u64 st.b, .int .u64 st.c, .int .u64 st.d, .int .i64 mn, .int .i64 mx, .bool lz, .int .i64 nn, .slice none 0 0]]) (by kernel_rfl) rfl rfl rfl rfl (by simp [Act.eval]) Tryz.func142 (by kernel_rfl) (by kernel_rfl) ?_
                  refine Calls.mono HN.out ?_
                  rintro e w8 ⟨rfl, vn8, q1, q2⟩
                  have H9 : Hid (Bw B rb bb s last vn w r8 vn8 kv' b' w8) := H8.out.adv q1 q2
                  have hL8 := (H7.out.2.kp (kp_drew _)).fr q2.fr (fun z => z.elim H6.out.2.2.1 H6.out.2.2.2.2.2.1)
                  have HM9 : Hid (¬ ((m = rb ∨ vn8.ownBlock = some m) ∨ m = bb ∨ kv'.ownBlock = some m)) := by
                    rintro ((z | z) | z | z)
                    · exact H6.out.2.2.1 z
                    · rcases q2.own with e | e
                      · exact H6.out.2.2.2.2.2.1 (by rw [← e]; exact z)
                      · have h1 := e m z
                        have h2 := (H7.out.2.kp (kp_drew _)).lt
                        omega
                    · exact H6.out.2.2.2.1 z
                    · exact H6.out.2.2.2.2.2.2.2 z
                  clear q1 q2
                  refine ⟨_, rfl, hL8, fun hHeld => ?_⟩
                  try simp only [Act.put, List.setIfInBounds_toArray, List.set_cons_zero, List.set_cons_succ]
                  refine takeAt 10 (some 122) ?_ rfl rfl (by kernel_rfl) (by kernel_rfl) (by kernel_rfl) (fun _ _ _ h => h) (Or.inl ⟨by rfl, ?_⟩) hHeld ?_
                  rotate_left
                  · intro w hSw
                    go_simp <;> with_reducible rfl
                  try simp only [Act.put, List.setIfInBounds_toArray, List.set_cons_zero, List.set_cons_succ]
                  refine takeAt 11 (some 123) ?_ rfl rfl (by kernel_rfl) (by kernel_rfl) (by kernel_rfl) (fun _ _ _ h => h) (Or.inl ⟨by rfl, ?_⟩) hHeld ?_
                  rotate_left
                  · intro w hSw
                    go_simp <;> with_reducible rfl
                  try simp only [Act.put, List.setIfInBounds_toArray, List.set_cons_zero, List.set_cons_succ]
                  refine takeAt 12 (some 124) ?_ rfl rfl (by kernel_rfl) (by kernel_rfl) (by kernel_rfl) (fun _ _ _ h => h) (Or.inl ⟨by rfl, ?_⟩) hHeld ?_
                  rotate_left
                  · intro w hSw
                    go_simp <;> with_reducible rfl
                  try simp only [Act.put, List.setIfInBounds_toArray, List.set_cons_zero, List.set_cons_succ]
                  refine takeAt 13 (some 125) (.int .u8 15) rfl rfl (by kernel_rfl) (by kernel_rfl) (by kernel_rfl) (fun _ _ _ h => h) (Or.inl ⟨by rfl, ?_⟩) hHeld ?_
                  · intro w hSw
                    have x1 : w.cell? ⟨m, 1, none⟩ = _ := hSw.at rfl
                    go_simp <;> with_reducible rfl
                  try simp only [Act.put, List.setIfInBounds_toArray, List.set_cons_zero, List.set_cons_succ]
                  refine takeAt 14 (some 126) ?_ rfl rfl (by kernel_rfl) (by kernel_rfl) (by kernel_rfl) (fun _ _ _ h => h) (Or.inl ⟨by rfl, ?_⟩) hHeld ?_
                  rotate_left
                  · intro w hSw
                    go_simp <;> with_reducible rfl
                  try simp only [Act.put, List.setIfInBounds_toArray, List.set_cons_zero, List.set_cons_succ]
                  refine takeAt 15 (some 127) ?_ rfl rfl (by kernel_rfl) (by kernel_rfl) (by kernel_rfl) (fun _ _ _ h => h) (Or.inl ⟨by rfl, ?_⟩) hHeld ?_
                  rotate_left
                  · intro w hSw
                    go_simp <;> with_reducible rfl
                  try simp only [Act.put, List.setIfInBounds_toArray, List.set_cons_zero, List.set_cons_succ]
                  refine callAt 16 128 141 (vals := #[.pointer (some ⟨rb, 0, none⟩), .pointer (some ⟨bb, 0, none⟩), .int .i64 ni, .bool false]) (by kernel_rfl) rfl rfl rfl rfl (by simp [Act.eval]) Tryz.func141 (by kernel_rfl) (by kernel_rfl) ?_
                  refine Calls.mono (piece_any H9.out.rr H9.out.br HLb.out _ _) ?_
                  rintro e w9 ⟨rfl, vn9, kv9, q1, q2, q3⟩
                  have H10 : Hid (Bw B rb bb s last vn w r8 vn9 kv9 (pieceF b' ni false) w9) := H9.out.step q1 q2 q3
                  have hL9 := hL8.fr q3.fr HM9.out
                  clear q1 q2 q3
                  refine ⟨_, rfl, hL9, fun hHeld => ?_⟩
                  try simp only [Act.put, List.setIfInBounds_toArray, List.set_cons_zero, List.set_cons_succ]
                  refine wpAnyH_done (by kernel_rfl) ?_ _
                  refine NoPanic.normal ?_
                  have HX : Hid (BI B rb bb s last BRS wi n vn w RR w9 ∧ leftAt s rb w9 < leftAt s rb wr) := by
                    have q := HNx.out
                    have h5 := HE5.out
                    unfold putF at h5
                    rw [HNR.out] at h5
                    have hu : Up s r'.k r8 := .inr (by
                      have e := nodeF_k ⟨15, c, st, mn, mx, lz, nn, []⟩ { r' with k := tx }
                      rw [HNR.out] at e
                      simp only at e
                      omega)
                    have hgg : r'.g ≤ r8.g := by
                      have e := nodeF_g ⟨15, c, st, mn, mx, lz, nn, []⟩ { r' with k := tx }
                      rw [HNR.out] at e
                      exact Nat.le_of_eq e.symm
                    obtain ⟨h1, h2⟩ := HQ.out.next HK0.out H10.out (by  exact h5) hu (fun m h => pieceF_hb h) hgg
                    rw [HM0.out]
                    exact ⟨⟨_, _, _, _, _, h1⟩, h2⟩
                  go_wp2_with fail
                  go_roundw
                  case rel => exact HX.out.1
                  case measure => exact HX.out.2
                have i15 : ((op : Int) != 15) = true := by simp; omega
                have HB1 : Hid ((op != 14 && op != 15) = true) := by show _ = _; rw [Bool.and_eq_true]; exact ⟨by simpa using h14, by simpa using h15⟩
                have t13 : wz.cell? ⟨m, 13, none⟩ = some (.int .i64 tx) := H6.out.2.1.at rfl
                have c1 := H6.out.1.rr.c1
                have f1 := H6.out.1.rr.fz 1
                have H7 : Hid (Bw B rb bb s last vn w { r' with k := tx } vn' kv' b' (wz.setCell ⟨rb, 1, none⟩ (.int .i64 tx)) ∧ Lc 197 m (Tk.cells ⟨0, ⟨op, c, st, mn, mx, lz, nn, []⟩, false, tx, tm, tc⟩) (wz.setCell ⟨rb, 1, none⟩ (.int .i64 tx))) := ⟨H6.out.1.on (H6.out.1.rr.setK tx) (fr_set _ _ _ _), H6.out.2.1.other (Ne.symm H6.out.2.2.1)⟩
                go_upto_region 19 with fail
                generalize wz.setCell ⟨rb, 1, none⟩ (.int .i64 tx) = w7 at H7 ⊢
                clear t13 c1 f1
                have H8 : Hid (Bw B rb bb s last vn w { r' with k := tx } vn' kv' b' w7.drew) := H7.out.1.kp (kp_drew _)
                have tt := fun j v => H7.out.2.at (j := j) (v := v)
                have t1 := tt 1 _ rfl
                have t2 := tt 2 _ rfl
                have t3 := tt 3 _ rfl
                have t4 := tt 4 _ rfl
                have t5 := tt 5 _ rfl
                have t6 := tt 6 _ rfl
                have t7 := tt 7 _ rfl
                have t8 := tt 8 _ rfl
                have t9 := tt 9 _ rfl
                have t10 := tt 10 _ rfl
                have t11 := tt 11 _ rfl
                clear tt
                simp only at t1 t2 t3 t4 t5 t6 t7 t8 t9 t10 t11
                have HN : Hid (Calls Tryz.prog 142 #[.pointer (some ⟨rb, 0, none⟩), .agg #[.int .u8 op, .int .u8 c, .int .u64 st.a, .int .u64 st.b, .int .u64 st.c, .int .u64 st.d, .int .i64 mn, .int .i64 mx, .bool lz, .int .i64 nn, .slice none 0 0]] w7.drew (FAdd B rb s last (nodeF ⟨op, c, st, mn, mx, lz, nn, []⟩ { r' with k := tx }) vn' none w7.drew)) := fleaf H8.out.rr ⟨op, c, st, mn, mx, lz, nn, []⟩ rfl
                obtain ⟨⟨ni, r8⟩, hnr⟩ : ∃ X, nodeF ⟨op, c, st, mn, mx, lz, nn, []⟩ { r' with k := tx } = X := ⟨_, rfl⟩
                have HNR : Hid (nodeF ⟨op, c, st, mn, mx, lz, nn, []⟩ { r' with k := tx } = (ni, r8)) := hnr
                rw [hnr] at HN
                clear hnr
                have HLb : Hid (b'.ks.length < 50000) := by have := HQ.out.hb.1; show _ < _; omega
                refine wp_region_noPanic ?_
                refine wp_region_held_drew (S := Lc 197 m (Tk.cells ⟨0, ⟨op, c, st, mn, mx, lz, nn, []⟩, false, tx, tm, tc⟩)) (by kernel_rfl) (H7.out.2.kp (kp_drew _)) (fun hHeld => ?_)
                refine takeAt 0 (some 112) ?_ rfl rfl (by kernel_rfl) (by kernel_rfl) (by kernel_rfl) (fun _ _ _ h => h) (Or.inl ⟨by rfl, ?_⟩) hHeld ?_
                rotate_left
                · intro w hSw
                  go_simp <;> with_reducible rfl
                try simp only [Act.put, List.setIfInBounds_toArray, List.set_cons_zero, List.set_cons_succ]
                refine takeAt 1 (some 113) ?_ rfl rfl (by kernel_rfl) (by kernel_rfl) (by kernel_rfl) (fun _ _ _ h => h) (Or.inl ⟨by rfl, ?_⟩) hHeld ?_
                rotate_left
                · intro w hSw
                  go_simp <;> with_reducible rfl
                try simp only [Act.put, List.setIfInBounds_toArray, List.set_cons_zero, List.set_cons_succ]
                refine takeAt 2 (some 114) ?_ rfl rfl (by kernel_rfl) (by kernel_rfl) (by kernel_rfl) (fun _ _ _ h => h) (Or.inl ⟨by rfl, ?_⟩) hHeld ?_
                rotate_left
                · intro w hSw
                  go_simp <;> with_reducible rfl
                try simp only [Act.put, List.setIfInBounds_toArray, List.set_cons_zero, List.set_cons_succ]
                refine takeAt 3 (some 115) ?_ rfl rfl (by kernel_rfl) (by kernel_rfl) (by kernel_rfl) (fun _ _ _ h => h) (Or.inl ⟨by rfl, ?_⟩) hHeld ?_
                rotate_left
                · intro w hSw
                  go_simp <;> with_reducible rfl
                try simp only [Act.put, List.setIfInBounds_toArray, List.set_cons_zero, List.set_cons_succ]
                refine takeAt 4 (some 116) (.agg #[.int .u8 op, .int .u8 c, .int .u64 st.a, .int .u64 st.b, .int .u64 st.c, .int .u64 st.d, .int .i64 mn, .int .i64 mx, .bool lz, .int .i64 nn, .slice none 0 0]) rfl rfl (by kernel_rfl) (by kernel_rfl) (by kernel_rfl) (fun _ _ _ h => h) (Or.inl ⟨by rfl, ?_⟩) hHeld ?_
                · intro w hSw
                  have x1 : w.cell? ⟨m, 1, none⟩ = _ := hSw.at rfl
                  have x2 : w.cell? ⟨m, 2, none⟩ = _ := hSw.at rfl
                  have x3 : w.cell? ⟨m, 3, none⟩ = _ := hSw.at rfl
                  have x4 : w.cell? ⟨m, 4, none⟩ = _ := hSw.at rfl
                  have x5 : w.cell? ⟨m, 5, none⟩ = _ := hSw.at rfl
                  have x6 : w.cell? ⟨m, 6, none⟩ = _ := hSw.at rfl
                  have x7 : w.cell? ⟨m, 7, none⟩ = _ := hSw.at rfl
                  have x8 : w.cell? ⟨m, 8, none⟩ = _ := hSw.at rfl
                  have x9 : w.cell? ⟨m, 9, none⟩ = _ := hSw.at rfl
                  have x10 : w.cell? ⟨m, 10, none⟩ = _ := hSw.at rfl
                  have x11 : w.cell? ⟨m, 11, none⟩ = _ := hSw.at rfl
                  go_simp <;> with_reducible rfl
                try simp only [Act.put, List.setIfInBounds_toArray, List.set_cons_zero, List.set_cons_succ]
                refine takeAt 6 (some 118) ?_ rfl rfl (by kernel_rfl) (by kernel_rfl) (by kernel_rfl) (fun _ _ _ h => h) (Or.inl ⟨by rfl, ?_⟩) hHeld ?_
                rotate_left
                · intro w hSw
                  go_simp <;> with_reducible rfl
                try simp only [Act.put, List.setIfInBounds_toArray, List.set_cons_zero, List.set_cons_succ]
                refine takeAt 7 (some 119) ?_ rfl rfl (by kernel_rfl) (by kernel_rfl) (by kernel_rfl) (fun _ _ _ h => h) (Or.inl ⟨by rfl, ?_⟩) hHeld ?_
                rotate_left
                · intro w hSw
                  go_simp <;> with_reducible rfl
                try simp only [Act.put, List.setIfInBounds_toArray, List.set_cons_zero, List.set_cons_succ]
                refine takeAt 8 (some 120) (.int .u8 op) rfl rfl (by kernel_rfl) (by kernel_rfl) (by kernel_rfl) (fun _ _ _ h => h) (Or.inl ⟨by rfl, ?_⟩) hHeld ?_
                · intro w hSw
                  have x1 : w.cell? ⟨m, 1, none⟩ = _ := hSw.at rfl
                  go_simp <;> with_reducible rfl
                try simp only [Act.put, List.setIfInBounds_toArray, List.set_cons_zero, List.set_cons_succ]
                refine takeAt 9 (some 121) ?_ rfl rfl (by kernel_rfl) (by kernel_rfl) (by kernel_rfl) (fun _ _ _ h => h) (Or.inl ⟨by rfl, ?_⟩) hHeld ?_
                rotate_left
                · intro w hSw
                  go_simp <;> with_reducible rfl
                try simp only [Act.put, List.setIfInBounds_toArray, List.set_cons_zero, List.set_cons_succ]
                refine callAt 5 117 142 (vals := #[.pointer (some ⟨rb, 0, none⟩), .agg #[.int .u8 op, .int .u8 c, .int .u64 st.a, .int .u64 st.b, .int .u64 st.c, .int .u64 st.d, .int .i64 mn, .int .i64 mx, .bool lz, .int .i64 nn, .slice none 0 0]]) (by kernel_rfl) rfl rfl rfl rfl (by simp [Act.eval]) Tryz.func142 (by kernel_rfl) (by kernel_rfl) ?_
                refine Calls.mono HN.out ?_
                rintro e w8 ⟨rfl, vn8, q1, q2⟩
                have H9 : Hid (Bw B rb bb s last vn w r8 vn8 kv' b' w8) := H8.out.adv q1 q2
                have hL8 := (H7.out.2.kp (kp_drew _)).fr q2.fr (fun z => z.elim H6.out.2.2.1 H6.out.2.2.2.2.2.1)
                have HM9 : Hid (¬ ((m = rb ∨ vn8.ownBlock = some m) ∨ m = bb ∨ kv'.ownBlock = some m)) := by
                  rintro ((z | z) | z | z)
                  · exact H6.out.2.2.1 z
                  · rcases q2.own with e | e
                    · exact H6.out.2.2.2.2.2.1 (by rw [← e]; exact z)
                    · have h1 := e m z
                      have h2 := (H7.out.2.kp (kp_drew _)).lt
                      omega
                  · exact H6.out.2.2.2.1 z
                  · exact H6.out.2.2.2.2.2.2.2 z
                clear q1 q2
                refine ⟨_, rfl, hL8, fun hHeld => ?_⟩
                try simp only [Act.put, List.setIfInBounds_toArray, List.set_cons_zero, List.set_cons_succ]
                refine takeAt 10 (some 122) ?_ rfl rfl (by kernel_rfl) (by kernel_rfl) (by kernel_rfl) (fun _ _ _ h => h) (Or.inl ⟨by rfl, ?_⟩) hHeld ?_
                rotate_left
                · intro w hSw
                  go_simp <;> with_reducible rfl
                try simp only [Act.put, List.setIfInBounds_toArray, List.set_cons_zero, List.set_cons_succ]
                refine takeAt 11 (some 123) ?_ rfl rfl (by kernel_rfl) (by kernel_rfl) (by kernel_rfl) (fun _ _ _ h => h) (Or.inl ⟨by rfl, ?_⟩) hHeld ?_
                rotate_left
                · intro w hSw
                  go_simp <;> with_reducible rfl
                try simp only [Act.put, List.setIfInBounds_toArray, List.set_cons_zero, List.set_cons_succ]
                refine takeAt 12 (some 124) ?_ rfl rfl (by kernel_rfl) (by kernel_rfl) (by kernel_rfl) (fun _ _ _ h => h) (Or.inl ⟨by rfl, ?_⟩) hHeld ?_
                rotate_left
                · intro w hSw
                  go_simp <;> with_reducible rfl
                try simp only [Act.put, List.setIfInBounds_toArray, List.set_cons_zero, List.set_cons_succ]
                refine takeAt 13 (some 125) (.int .u8 op) rfl rfl (by kernel_rfl) (by kernel_rfl) (by kernel_rfl) (fun _ _ _ h => h) (Or.inl ⟨by rfl, ?_⟩) hHeld ?_
                · intro w hSw
                  have x1 : w.cell? ⟨m, 1, none⟩ = _ := hSw.at rfl
                  go_simp <;> with_reducible rfl
                try simp only [Act.put, List.setIfInBounds_toArray, List.set_cons_zero, List.set_cons_succ]
                refine takeAt 14 (some 126) ?_ rfl rfl (by kernel_rfl) (by kernel_rfl) (by kernel_rfl) (fun _ _ _ h => h) (Or.inl ⟨by rfl, ?_⟩) hHeld ?_
                rotate_left
                · intro w hSw
                  go_simp <;> with_reducible rfl
                try simp only [Act.put, List.setIfInBounds_toArray, List.set_cons_zero, List.set_cons_succ]
                refine takeAt 15 (some 127) ?_ rfl rfl (by kernel_rfl) (by kernel_rfl) (by kernel_rfl) (fun _ _ _ h => h) (Or.inl ⟨by rfl, ?_⟩) hHeld ?_
                rotate_left
                · intro w hSw
                  go_simp <;> with_reducible rfl
                try simp only [Act.put, List.setIfInBounds_toArray, List.set_cons_zero, List.set_cons_succ]
                refine callAt 16 128 141 (vals := #[.pointer (some ⟨rb, 0, none⟩), .pointer (some ⟨bb, 0, none⟩), .int .i64 ni, .bool true]) (by kernel_rfl) rfl rfl rfl rfl (by simp [Act.eval]) Tryz.func141 (by kernel_rfl) (by kernel_rfl) ?_
                refine Calls.mono (piece_any H9.out.rr H9.out.br HLb.out _ _) ?_
                rintro e w9 ⟨rfl, vn9, kv9, q1, q2, q3⟩
                have H10 : Hid (Bw B rb bb s last vn w r8 vn9 kv9 (pieceF b' ni true) w9) := H9.out.step q1 q2 q3
                have hL9 := hL8.fr q3.fr HM9.out
                clear q1 q2 q3
                refine ⟨_, rfl, hL9, fun hHeld => ?_⟩
                try simp only [Act.put, List.setIfInBounds_toArray, List.set_cons_zero, List.set_cons_succ]
                refine wpAnyH_done (by kernel_rfl) ?_ _
                refine NoPanic.normal ?_
                have HX : Hid (BI B rb bb s last BRS wi n vn w RR w9 ∧ leftAt s rb w9 < leftAt s rb wr) := by
                  have q := HNx.out
                  have h5 := HE5.out
                  unfold putF at h5
                  rw [HNR.out] at h5
                  have hu : Up s r'.k r8 := .inr (by
                    have e := nodeF_k ⟨op, c, st, mn, mx, lz, nn, []⟩ { r' with k := tx }
                    rw [HNR.out] at e
                    simp only at e
                    omega)
                  have hgg : r'.g ≤ r8.g := by
                    have e := nodeF_g ⟨op, c, st, mn, mx, lz, nn, []⟩ { r' with k := tx }
                    rw [HNR.out] at e
                    exact Nat.le_of_eq e.symm
                  obtain ⟨h1, h2⟩ := HQ.out.next HK0.out H10.out (by rw [HB1.out] at h5; exact h5) hu (fun m h => pieceF_hb h) hgg
                  rw [HM0.out]
                  exact ⟨⟨_, _, _, _, _, h1⟩, h2⟩
                go_wp2_with fail
                go_roundw
                case rel => exact HX.out.1
                case measure => exact HX.out.2
            · rw [if_pos hsg] at hE2
              have i0 : ((sg : Int) != 0) = true := by simp; omega
              have t13 : wy.cell? ⟨m, 13, none⟩ = some (.int .i64 tx) := H3.out.2.1.at rfl
              have HSg : Hid _ := sign_any (BRS := BRS) H3.out.1.rr H3.out.1.br hs hla (by have := HQ.out.hb.1; omega) HQ.out.hb.2 sg K tx HNx.out.2.2 (by have := HNx.out; omega) (by have := HK0.out; have := HEK.out; omega)
                (fun q vn x hx => HBR'.out _ vn x hx (by show r'.g + 1 ≤ 9; omega) (by have := HQ.out.g; show 10 ≤ r'.g + 1 + n; omega))
              rw [HEK.out.2.1] at hE2
              have HE4 : Hid _ := hE2
              clear hE2 hsg h41 e124 hbrk
              go_wp2_with fail
              refine Calls.mono HSg.out ?_
              rintro e w5 ⟨rfl, vn5, kv5, q1, q2, q3⟩
              have HX : Hid (BI B rb bb s last BRS wi n vn w RR w5 ∧ leftAt s rb w5 < leftAt s rb wr) := by
                have q := HNx.out
                have ha := sgnF_all (s := s) (last := last) HMo.out sg K tx r'.k r' b' ⟨q.1, by omega⟩
                obtain ⟨h1, h2⟩ := HQ.out.next HK0.out (H3.out.1.step q1 q2 q3) HE4.out ha.1 ha.2.1 ha.2.2
                rw [HM0.out]
                exact ⟨⟨_, _, _, _, _, h1⟩, h2⟩
              clear q1 q2 q3 HSg t0 t12 t13
              go_wp2_with fail
              go_roundw
              case rel => exact HX.out.1
              case measure => exact HX.out.2
      · have dk : decide ((K : Int) < (Z : Int)) = false := decide_eq_false (by omega)
        have dn : decide (K < Z) = false := decide_eq_false hk
        have hRq : RR = (r', b') := by
          rw [← HQ.out.eq]
          cases f with
          | zero => rfl
          | succ f => unfold bchL; rw [if_neg (fun q => by have := HEK.out; omega)]
        have HRq : Hid (RR = (r', b')) := hRq
        clear hRq
        go_wp2_with fail
        go_region
        change Exit.then _ _ _ _ wr.drew
        have H5 : Hid (Bw B rb bb s last vn w r' vn' kv' b' wr.drew) := HQ.out.bw.kp (kp_drew _)
        generalize wr.drew = wd at H5 ⊢
        clear c0 c1 c17 dk dn
        have HRX : Hid (R = rowF 5 b'.ks r') := by
          show _ = _
          rw [HR.out, HRq.out]
        have HF : Hid _ := H5.out.fin HLEN.out
        have e0 := H5.out.br.cells.1
        obtain ⟨ka, kc, hkv, v1, v2⟩ := owns_form H5.out.br.row
        rw [hkv] at e0 HF
        clear v1 v2 hkv
        go_wp2_with fail
        refine Calls.mono HF.out ?_
        rintro e w9 ⟨rfl, vn9, q1, q2⟩
        have H10 : Hid (Fq B rb s last (rowF 5 b'.ks r').2 vn9 w9 ∧ AdvX none rb vn w vn9 w9) := ⟨q1, q2⟩
        clear q1 q2 HF
        go_wp2_with fail
        go_ret
        rw [HRX.out]
        exact ⟨rfl, vn9, H10.out⟩
    · have hRq : RR = (r', b') := by
        rw [← HQ.out.eq]
        exact err_stays (by rw [HEK.out.1]; exact he)
      have HRq : Hid (RR = (r', b')) := hRq
      have eE : ((E : Int) == 0) = false := by simp; omega
      clear hRq
      go_wp2_with fail
      go_region
      change Exit.then _ _ _ _ wr.drew
      have H5 : Hid (Bw B rb bb s last vn w r' vn' kv' b' wr.drew) := HQ.out.bw.kp (kp_drew _)
      generalize wr.drew = wd at H5 ⊢
      clear c0 c1 c17 eE
      have HRX : Hid (R = rowF 5 b'.ks r') := by
        show _ = _
        rw [HR.out, HRq.out]
      have HF : Hid _ := H5.out.fin HLEN.out
      have e0 := H5.out.br.cells.1
      obtain ⟨ka, kc, hkv, v1, v2⟩ := owns_form H5.out.br.row
      rw [hkv] at e0 HF
      clear v1 v2 hkv
      go_wp2_with fail
      refine Calls.mono HF.out ?_
      rintro e w9 ⟨rfl, vn9, q1, q2⟩
      have H10 : Hid (Fq B rb s last (rowF 5 b'.ks r').2 vn9 w9 ∧ AdvX none rb vn w vn9 w9) := ⟨q1, q2⟩
      clear q1 q2 HF
      go_wp2_with fail
      go_ret
      rw [HRX.out]
      exact ⟨rfl, vn9, H10.out⟩
end
end Go.Proofs.YtalmajiflmejcaaGreat
/- The document's reader: branches. -/
namespace Go.Proofs.YtalmajiflmejcaaGreat
open Go.ChangeShapes Go.WideShapes Go.ChangeAt Go.RowKit
set_option linter.unusedVariables false
set_option linter.unusedSimpArgs false
section
variable {B rb : Nat} {s last : ByteArray} {r : FS} {vn : Qv} {w : World}
theorem Lw.one {r1 : FS} {vn1 : Qv} {x : World} {p : Nat} (h : Fq B rb s last r1 vn1 x) (a : Adv rb vn w vn1 x) : Lw B rb s last vn w r1 vn1 (.slice (some ⟨x.heap.size, 0, none⟩) 1 1) [p] (x.alloc (.cells #[.int .i64 p] 3)) := by
  obtain ⟨q1, q2⟩ := kid_new (p := p) h
  refine ⟨h.kp (kp_alloc _ _), q1, fun j hj => ⟨q2 j hj, fun z => ?_⟩, a.trans (Adv.kp vn1 rb (kp_alloc _ _)), fun j hj => ?_⟩
  · simp only [Value.ownBlock, Option.some.injEq] at hj
    have := h.kbl j z; omega
  · simp only [Value.ownBlock, Option.some.injEq] at hj
    have := a.fr.size; omega
/-- Ahead of each round of branches. -/
structure Ki (B rb : Nat) (s last : ByteArray) (BRS : FS → Nat × FS) (wi : Bool) (n : Nat) (vn : Qv) (w : World) (RR : FS × List Nat) (f : Nat) (r' : FS) (vn' : Qv) (v : Value) (ks : List Nat) (x : World) : Prop where
  lw : Lw B rb s last vn w r' vn' v ks x
  eq : bssL s last BRS wi f r' ks = RR
  fu : r'.err ≠ 0 ∨ s.size < f + r'.k
  ln : ks.length ≤ s.size + 3 - f
  fl : f ≤ s.size + 2
  g : 9 ≤ r'.g + n
def KI (B rb : Nat) (s last : ByteArray) (BRS : FS → Nat × FS) (wi : Bool) (n : Nat) (vn : Qv) (w : World) (RR : FS × List Nat) (v : Value) (x : World) : Prop := ∃ f r' vn' ks, Ki B rb s last BRS wi n vn w RR f r' vn' v ks x
set_option maxHeartbeats 8000000 in
set_option maxRecDepth 100000 in
theorem branches_of {BRS : FS → Nat × FS} {n : Nat} (hM : Mono BRS) (hs : s.size ≤ 400) (wi : Bool)
    (HBC : ∀ r vn x, Fq B rb s last r vn x → 9 ≤ r.g + n → Calls Tryz.prog 112 #[.pointer (some ⟨rb, 0, none⟩), .bool wi] x (FAdd B rb s last (bchF s last BRS wi r) vn none x))
    (h : Fq B rb s last r vn w) (hg : 9 ≤ r.g + n) : Calls Tryz.prog 78 #[.pointer (some ⟨rb, 0, none⟩), .bool wi] w (FAdd B rb s last (bssF s last BRS wi r) vn none w) := by
  obtain ⟨R, hR⟩ : ∃ R, bssF s last BRS wi r = R := ⟨_, rfl⟩
  obtain ⟨⟨i0, r1⟩, h1⟩ : ∃ X, bchF s last BRS wi r = X := ⟨_, rfl⟩
  obtain ⟨RR, hRR⟩ : ∃ RR, bssL s last BRS wi (s.size + 2) r1 [i0] = RR := ⟨_, rfl⟩
  have HR : Hid (R = rowF 6 RR.2 RR.1) := by
    show _ = _
    rw [← hR, ← hRR]; unfold bssF; rw [h1]
  rw [hR]
  have HB0 : Hid (Calls Tryz.prog 112 #[.pointer (some ⟨rb, 0, none⟩), .bool wi] w (FAdd B rb s last (i0, r1) vn none w)) := by rw [← h1]; exact HBC r vn w h hg
  have HB : Hid (∀ r vn x, Fq B rb s last r vn x → 9 ≤ r.g + n → Calls Tryz.prog 112 #[.pointer (some ⟨rb, 0, none⟩), .bool wi] x (FAdd B rb s last (bchF s last BRS wi r) vn none x)) := HBC
  have HMo : Hid (Mono BRS) := hM
  have HS0 : Hid (bssL s last BRS wi (s.size + 2) r1 [i0] = RR ∧ 9 ≤ r1.g + n) := ⟨hRR, by
    have := (bchF_mono (s := s) (last := last) hM wi r).1
    rw [h1] at this
    simp only at this
    omega⟩
  obtain ⟨i9, hi9, z0, z1, z2⟩ := info_parts infoInt
  clear h hg hR h1 hRR HBC hM
  go_enter Tryz.func78, Tryz.ntmps78
  go_wp2_with fail
  refine Calls.mono HB0.out ?_
  rintro e w1 ⟨rfl, vn1, q1, q2⟩
  have HS : Hid (Ki B rb s last BRS wi n vn w RR (s.size + 2) r1 vn1 (.slice (some ⟨w1.heap.size, 0, none⟩) 1 1) [i0] (w1.alloc (.cells #[.int .i64 i0] 3))) :=
    ⟨Lw.one q1 q2, HS0.out.1, .inr (by omega), by show 1 ≤ _; omega, Nat.le_refl _, HS0.out.2⟩
  clear q1 q2 HB0 HS0
  go_wp2_with fail
  go_loopw [5] (fun v5 wr => Hid (KI B rb s last BRS wi n vn w RR v5 wr)) (fun _ wr => leftAt s rb wr)
  case atStart => exact ⟨_, _, _, _, HS.out⟩
  case round =>
    clear HS
    rename_i v5
    obtain ⟨f, r', vn', ks, hq⟩ := hrel
    obtain ⟨va, vc, hv, v1, v2⟩ := owns_form hq.lw.row
    subst hv
    obtain ⟨L, hL⟩ : ∃ L, ks.length = L := ⟨_, rfl⟩
    rw [hL] at hq v1 ⊢
    have HQ : Hid (Ki B rb s last BRS wi n vn w RR f r' vn' (.slice va L vc) ks wr) := hq
    have HL : Hid (ks.length = L) := hL
    have HM0 : Hid (leftAt s rb wr = if r'.err = 0 then s.size + 1 - r'.k else 0) := left_eq hq.lw.rr
    have HLEN : Hid (ks.length < 100000) := by have := hq.ln; show _ < _; omega
    have hL5 : L < 100000 := by have := hq.ln; omega
    unfold maxLen at v2
    have c17 := hq.lw.rr.c17
    have c0 := hq.lw.rr.c0
    have c1 := hq.lw.rr.c1
    clear hq hL
    obtain ⟨E, hE⟩ : ∃ E, r'.err = E := ⟨_, rfl⟩
    obtain ⟨K, hK⟩ : ∃ K, r'.k = K := ⟨_, rfl⟩
    obtain ⟨Z, hZ⟩ : ∃ Z, s.size = Z := ⟨_, rfl⟩
    rw [hE] at c17
    rw [hK] at c1
    have HEK : Hid (r'.err = E ∧ r'.k = K ∧ s.size = Z) := ⟨hE, hK, hZ⟩
    clear hE hK
    by_cases he : E = 0
    · subst he
      by_cases hk : K < Z
      · have dk : decide ((K : Int) < (Z : Int)) = true := decide_eq_true (by omega)
        have dn : decide (K < Z) = true := decide_eq_true hk
        go_wp2_with fail
        go_region
        change Exit.then _ _ _ _ wr.drew
        have H1 : Hid (Lw B rb s last vn w r' vn' (.slice va L vc) ks wr.drew) := HQ.out.lw.kp (kp_drew _)
        generalize wr.drew = wd at H1 ⊢
        clear c0 c1 c17 dk dn
        have c1 := H1.out.rr.c1
        rw [HEK.out.2.1] at c1
        obtain ⟨f', rfl⟩ : ∃ f', f = f' + 1 := ⟨f - 1, by have := HQ.out.fu; have := HEK.out; omega⟩
        have HK0 : Hid (r'.err = 0 ∧ r'.k < s.size) := ⟨HEK.out.1, by have := HEK.out; omega⟩
        obtain ⟨⟨t, ok⟩, ht⟩ : ∃ T, tkF s r'.md r'.cs r'.k = T := ⟨_, rfl⟩
        have hnx := tkF_next s r'.md r'.cs r'.k
        have hE2 := HQ.out.eq
        unfold bssL at hE2
        rw [if_pos HK0.out, ht] at hE2
        rw [ht] at hnx
        have HT : Hid (Calls Tryz.prog 113 #[.pointer (some ⟨rb, 0, none⟩), .int .i64 K] wd fun e w' => e = .returned (.tuple #[.agg t.cells.toArray, .bool ok]) ∧ Kp wd w') := by
          have := token_any (at_ := r'.k) H1.out.rr.c0 H1.out.rr.c2 H1.out.rr.c6 H1.out.rr.lt hs HK0.out.2
          rw [ht, HEK.out.2.1] at this
          exact this
        obtain ⟨sg, nd, non, tx, tm, tc⟩ := t
        simp only at hE2 hnx
        have HE2 : Hid _ := hE2
        have HNx : Hid (r'.k < tx ∧ tx ≤ s.size + 2) := by have := HK0.out; exact ⟨hnx.1, by omega⟩
        clear ht hE2 hnx
        go_upto_region 4 with (first | (go_at_call 113; refine Calls.mono HT.out ?_; rintro e w4 ⟨rfl, k4⟩; have H4 : Hid (Lw B rb s last vn w r' vn' (.slice va L vc) ks (w4.alloc (.cells (tk0 0 0 0).cells.toArray 197)) ∧ Lc 197 w4.heap.size (tk0 0 0 0).cells (w4.alloc (.cells (tk0 0 0 0).cells.toArray 197)) ∧ Kp wd w4) := ⟨(H1.out.kp k4).kp (kp_alloc _ _), Lc.new _ _ _, k4⟩; clear k4) | (refine wpList_store_box H4.out.2.1 0 (Tk.cells ⟨sg, nd, non, tx, tm, tc⟩) rfl 197 (.tmp 6) (.tmp 36) rfl rfl rfl (Nat.le_refl 16) sizeTk (oneTk _) rfl ?_; intro wy ly fy sy; have H3 : Hid (Lw B rb s last vn w r' vn' (.slice va L vc) ks wy ∧ Lc 197 w4.heap.size (Tk.cells ⟨sg, nd, non, tx, tm, tc⟩) wy ∧ w4.heap.size ≠ rb) := ⟨(H1.out.kp H4.out.2.2).kp (kp_on1 (kp_alloc w4 _) fy (Nat.le_refl _)), ly, Nat.ne_of_gt (H1.out.kp H4.out.2.2).rr.lt⟩; clear ly fy sy))
        clear HT H4 c1
        obtain ⟨m, hm⟩ : ∃ m, w4.heap.size = m := ⟨_, rfl⟩
        rw [hm] at H3 ⊢
        clear hm
        have t0 : wy.cell? ⟨m, 0, none⟩ = some (.int .u8 sg) := H3.out.2.1.at rfl
        by_cases hsg : sg = 124
        · subst hsg
          have hE2 := HE2.out
          rw [if_pos rfl] at hE2
          have t13 : wy.cell? ⟨m, 13, none⟩ = some (.int .i64 tx) := H3.out.2.1.at rfl
          have c1 := H3.out.1.rr.c1
          have f1 := H3.out.1.rr.fz 1
          have H5 : Hid (Lw B rb s last vn w { r' with k := tx } vn' (.slice va L vc) ks (wy.setCell ⟨rb, 1, none⟩ (.int .i64 tx))) := H3.out.1.step (H3.out.1.rr.setK tx) (Adv.on vn' (fr_set _ _ _ _))
          obtain ⟨⟨ni, r2⟩, hnr⟩ : ∃ X, bchF s last BRS wi { r' with k := tx } = X := ⟨_, rfl⟩
          rw [hnr] at hE2
          have HMB : Hid (r'.g ≤ r2.g ∧ (r2.err ≠ 0 ∨ tx ≤ r2.k)) := by
            have := bchF_mono (s := s) (last := last) HMo.out wi { r' with k := tx }
            rw [hnr] at this
            exact this
          have HBx : Hid (∀ x, Fq B rb s last { r' with k := tx } vn' x → Calls Tryz.prog 112 #[.pointer (some ⟨rb, 0, none⟩), .bool wi] x (FAdd B rb s last (ni, r2) vn' none x)) := fun x hx => by
            rw [← hnr]
            exact HB.out _ vn' x hx (by have := HQ.out.g; exact this)
          have HE3 : Hid _ := hE2
          clear hE2 hnr HE2
          go_upto_region 6 with fail
          generalize wy.setCell ⟨rb, 1, none⟩ (.int .i64 tx) = w6 at H5 ⊢
          clear t0 t13 c1 f1 H3
          go_wp2_with (first | (go_at_call 112; refine Calls.mono (HBx.out _ H5.out.rr) ?_; rintro e w7 ⟨rfl, vn2, q1, q2⟩; have H7 : Hid (Lw B rb s last vn w r2 vn2 (.slice va L vc) ks w7) := H5.out.step q1 q2; clear q1 q2; have HOW : Hid ((w7.alloc (.cells #[.int .i64 ni] 3)).ownsRow B 3 1 (.slice va L vc) L (nums ks)) := (by have := row_kp H7.out.row (kp_alloc w7 (.cells #[.int .i64 ni] 3)); rw [HL.out] at this; exact this); have HNEW : Hid (∀ p u, ([.int .i64 ni] : List Value)[p]? = some u → (w7.alloc (.cells #[.int .i64 ni] 3)).cell? ((⟨w7.heap.size, 0, none⟩ : Addr).add p) = some u) := (by intro p u hp; rw [Addr.add_lit, cell_at (alloc_new w7 _), Nat.zero_add, ← hp]; exact List.getElem?_toArray); have HONE : Hid (∀ u ∈ ([.int .i64 ni] : List Value), u.oneCell' = true) := (by intro u hu; simp only [List.mem_singleton] at hu; subst hu; rfl); have HSZ : Hid ((w7.alloc (.cells #[.int .i64 ni] 3)).heap.size = w7.heap.size + 1) := alloc_size _ _; have HBW : Hid (B ≤ (w7.alloc (.cells #[.int .i64 ni] 3)).heap.size) := (by have := H7.out.rr.hB; have := HSZ.out; show B ≤ _; omega)) | (at_builtin; refine wpList_append_lies _ rfl (.tmp 46) (.tmp 50) 47 rfl B 3 i9 _ 1 8 Tryz.underlying47 hi9 z0 z1 z2 rfl (by decide) (.slice va L vc) L (nums ks) rfl HOW.out ⟨w7.heap.size, 0, none⟩ 1 1 [.int .i64 ni] rfl rfl HNEW.out HONE.out (by omega) (by unfold maxLen; omega) (by omega) HBW.out (w7.heap.size + 1) HSZ.out ?_; intro g cp w8 hown hgrow hat hlt; have HF : Hid (Lw B rb s last vn w r2 vn2 (.slice (some ⟨g, 0, none⟩) (L + 1) cp) (ks ++ [ni]) w8) := H7.out.snoc HL.out (kp_alloc w7 _) hown hgrow (by rw [HSZ.out]; exact hat); clear hown hgrow hat hlt))
          have HX : Hid (KI B rb s last BRS wi n vn w RR (.slice (some ⟨g, 0, none⟩) (L + 1) cp) w8 ∧ leftAt s rb w8 < leftAt s rb wr) := by
            have h1 := HQ.out.fu
            have h2 := HQ.out.fl
            have h3 := HQ.out.g
            have h4 := HQ.out.ln
            have h5 := HMB.out
            have h6 := HNx.out
            have h7 := HK0.out
            have h8 := HL.out
            refine ⟨⟨f', r2, vn2, ks ++ [ni], HF.out, HE3.out, ?_, by simp only [List.length_append, List.length_cons, List.length_nil]; omega, by omega, by omega⟩, ?_⟩
            · rcases h5.2 with q | q
              · exact .inl q
              · rcases h1 with z | z
                · exact absurd h7.1 z
                · exact .inr (by omega)
            · rw [HM0.out, left_eq HF.out.rr, if_pos h7.1]
              split
              · rename_i q
                rcases h5.2 with z | z
                · exact absurd q z
                · omega
              · omega
          go_roundw
          case rel => exact HX.out.1
          case measure => exact HX.out.2
        · have hE2 := HE2.out
          rw [if_neg hsg] at hE2
          have HRq : Hid (RR = (r', ks)) := hE2.symm
          have i124 : ((sg : Int) != 124) = true := by simp; omega
          have H5 : Hid (Lw B rb s last vn w r' vn' (.slice va L vc) ks wy) := H3.out.1
          clear hE2 hsg HE2
          have HW : Hid (Calls Tryz.prog 114 #[.pointer (some ⟨rb, 0, none⟩), .int .u8 6, .slice va L vc] _ (FAdd B rb s last (rowF 6 ks r') vn' (Value.slice va L vc).ownBlock _)) := frow_any H5.out.rr 6 H5.out.row H5.out.off.k HLEN.out
          have HRX : Hid (R = rowF 6 ks r') := by
            show _ = _
            rw [HR.out, HRq.out]
          go_wp2_with fail
          refine Calls.mono HW.out ?_
          rintro e w9 ⟨rfl, vn9, q1, q2⟩
          have H10 : Hid (Fq B rb s last (rowF 6 ks r').2 vn9 w9 ∧ Adv rb vn w vn9 w9) := ⟨q1, H5.out.done q2⟩
          clear q1 q2 HW
          go_wp2_with fail
          go_ret
          rw [HRX.out]
          exact ⟨rfl, vn9, H10.out⟩
      · have dk : decide ((K : Int) < (Z : Int)) = false := decide_eq_false (by omega)
        have dn : decide (K < Z) = false := decide_eq_false hk
        have HRq : Hid (RR = (r', ks)) := by
          show _ = _
          rw [← HQ.out.eq]
          cases f with
          | zero => rfl
          | succ f => unfold bssL; rw [if_neg (fun q => by have := HEK.out; omega)]
        go_wp2_with fail
        go_region
        change Exit.then _ _ _ _ wr.drew
        have H5 : Hid (Lw B rb s last vn w r' vn' (.slice va L vc) ks wr.drew) := HQ.out.lw.kp (kp_drew _)
        generalize wr.drew = wd at H5 ⊢
        clear c0 c1 c17 dk dn
        have HW : Hid (Calls Tryz.prog 114 #[.pointer (some ⟨rb, 0, none⟩), .int .u8 6, .slice va L vc] _ (FAdd B rb s last (rowF 6 ks r') vn' (Value.slice va L vc).ownBlock _)) := frow_any H5.out.rr 6 H5.out.row H5.out.off.k HLEN.out
        have HRX : Hid (R = rowF 6 ks r') := by
          show _ = _
          rw [HR.out, HRq.out]
        go_wp2_with fail
        refine Calls.mono HW.out ?_
        rintro e w9 ⟨rfl, vn9, q1, q2⟩
        have H10 : Hid (Fq B rb s last (rowF 6 ks r').2 vn9 w9 ∧ Adv rb vn w vn9 w9) := ⟨q1, H5.out.done q2⟩
        clear q1 q2 HW
        go_wp2_with fail
        go_ret
        rw [HRX.out]
        exact ⟨rfl, vn9, H10.out⟩
    · have HRq : Hid (RR = (r', ks)) := by
        show _ = _
        rw [← HQ.out.eq]
        cases f with
        | zero => rfl
        | succ f => unfold bssL; rw [if_neg (fun q => by have := HEK.out; omega)]
      have eE : ((E : Int) == 0) = false := by simp; omega
      go_wp2_with fail
      go_region
      change Exit.then _ _ _ _ wr.drew
      have H5 : Hid (Lw B rb s last vn w r' vn' (.slice va L vc) ks wr.drew) := HQ.out.lw.kp (kp_drew _)
      generalize wr.drew = wd at H5 ⊢
      clear c0 c1 c17 eE
      have HW : Hid (Calls Tryz.prog 114 #[.pointer (some ⟨rb, 0, none⟩), .int .u8 6, .slice va L vc] _ (FAdd B rb s last (rowF 6 ks r') vn' (Value.slice va L vc).ownBlock _)) := frow_any H5.out.rr 6 H5.out.row H5.out.off.k HLEN.out
      have HRX : Hid (R = rowF 6 ks r') := by
        show _ = _
        rw [HR.out, HRq.out]
      go_wp2_with fail
      refine Calls.mono HW.out ?_
      rintro e w9 ⟨rfl, vn9, q1, q2⟩
      have H10 : Hid (Fq B rb s last (rowF 6 ks r').2 vn9 w9 ∧ Adv rb vn w vn9 w9) := ⟨q1, H5.out.done q2⟩
      clear q1 q2 HW
      go_wp2_with fail
      go_ret
      rw [HRX.out]
      exact ⟨rfl, vn9, H10.out⟩
/-- The knot: branches within so many groups. -/
theorem branches_any (hs : s.size ≤ 400) (hla : last.size ≤ 1000) : ∀ (n : Nat) (r : FS) (vn : Qv) (x : World), Fq B rb s last r vn x → r.g ≤ 9 → 10 ≤ r.g + n → Calls Tryz.prog 78 #[.pointer (some ⟨rb, 0, none⟩), .bool true] x (FAdd B rb s last (bsN s last n r) vn none x)
  | 0, r, vn, x, h, h9, h10 => by omega
  | n + 1, r, vn, x, h, h9, h10 => branches_of (BRS := bsN s last n) (n := n) (bsN_mono n) hs true (fun r vn x hx hg => branch_any (bsN_mono n) hs hla true (branches_any hs hla n) hx hg) h (by omega)
theorem branches_top (hs : s.size ≤ 400) (hla : last.size ≤ 1000) (h : Fq B rb s last r vn w) : Calls Tryz.prog 78 #[.pointer (some ⟨rb, 0, none⟩), .bool false] w (FAdd B rb s last (bssF s last (bsN s last 9) false r) vn none w) :=
  branches_of (BRS := bsN s last 9) (n := 9) (bsN_mono 9) hs false (fun r vn x hx hg => branch_any (bsN_mono 9) hs hla false (branches_any hs hla 9) hx hg) h (by omega)
end
end Go.Proofs.YtalmajiflmejcaaGreat
/- Nodes in memory, as they are read: those of a pattern. -/
namespace Go.Proofs.YtalmajiflmejcaaGreat
open Go.ChangeShapes Go.WideShapes Go.ChangeAt Go.RowKit
set_option linter.unusedVariables false
set_option linter.unusedSimpArgs false
/-- Any node, without its place in memory. -/
structure Nq where
  op : Nat
  c : Nat := 0
  set : S4 := zeroS
  mn : Int := 0
  mx : Int := 0
  lz : Bool := false
  n : Int := 0
  kids : List Int := []
def Nq.cells (d : Nq) (kv : Value) : List Value :=
  [.int .u8 d.op, .int .u8 d.c, .int .u64 d.set.a, .int .u64 d.set.b, .int .u64 d.set.c, .int .u64 d.set.d, .int .i64 d.mn, .int .i64 d.mx, .bool d.lz, .int .i64 d.n, kv]
def Nq.val (d : Nq) (kv : Value) : Value :=
  .agg #[.int .u8 d.op, .int .u8 d.c, .int .u64 d.set.a, .int .u64 d.set.b, .int .u64 d.set.c, .int .u64 d.set.d, .int .i64 d.mn, .int .i64 d.mx, .bool d.lz, .int .i64 d.n, kv]
def Nd.q (d : Nd) : Nq := ⟨d.op, d.c, d.set, d.mn, d.mx, d.lz, d.n, d.kids.map fun (k : Nat) => (k : Int)⟩
/-- A slice of numbers that can be read. -/
def Ks (w : World) (v : Value) (ks : List Int) : Prop :=
  ∃ a cap, v = .slice a ks.length cap ∧ ks.length ≤ cap ∧ cap ≤ maxLen ∧ ∀ i k, ks[i]? = some k → ∃ b o, a = some ⟨b, o, none⟩ ∧ w.cell? ⟨b, o + i, none⟩ = some (.int .i64 k)
/-- A slice of nodes that can be read. -/
def Pt (w : World) (v : Value) (L : List Nq) : Prop :=
  ∃ a cap, v = .slice a L.length cap ∧ L.length ≤ cap ∧ cap ≤ maxLen ∧ ∀ i d, L[i]? = some d → ∃ b o kv, a = some ⟨b, o, none⟩ ∧ (∀ j u, (d.cells kv)[j]? = some u → w.cell? ⟨b, o + i * 11 + j, none⟩ = some u) ∧ Ks w kv d.kids
section
variable {w w1 : World} {v : Value} {ks : List Int} {L : List Nq}
theorem kp_cellA (k : Kp w w1) {a : Addr} {u : Value} (h : w.cell? a = some u) : w1.cell? a = some u := by
  rw [World.cell?_of_block (k.block _ ?_)]
  · exact h
  · rcases Nat.lt_or_ge a.block w.heap.size with q | q
    · exact q
    · simp [World.cell?, Array.getElem?_eq_none q] at h
theorem Ks.of (h : Ks w v ks) (k : ∀ (a : Addr) (u : Value), w.cell? a = some u → w1.cell? a = some u) : Ks w1 v ks := by
  obtain ⟨a, cap, h1, h2, h3, h4⟩ := h
  refine ⟨a, cap, h1, h2, h3, fun i x hx => ?_⟩
  obtain ⟨b, o, e, q⟩ := h4 i x hx
  exact ⟨b, o, e, k _ _ q⟩
theorem Pt.of (h : Pt w v L) (k : ∀ (a : Addr) (u : Value), w.cell? a = some u → w1.cell? a = some u) : Pt w1 v L := by
  obtain ⟨a, cap, h1, h2, h3, h4⟩ := h
  refine ⟨a, cap, h1, h2, h3, fun i x hx => ?_⟩
  obtain ⟨b, o, kv, e, q, z⟩ := h4 i x hx
  exact ⟨b, o, kv, e, fun j u hu => k _ _ (q j u hu), z.of k⟩
theorem Ks.kp (h : Ks w v ks) (k : Kp w w1) : Ks w1 v ks := h.of fun _ _ q => kp_cellA k q
theorem Pt.kp (h : Pt w v L) (k : Kp w w1) : Pt w1 v L := h.of fun _ _ q => kp_cellA k q
theorem krow_ks {B : Nat} {ks : List Nat} (h : KRow B w v ks) : Ks w v (ks.map fun (k : Nat) => (k : Int)) := by
  obtain ⟨a, cap, e, h1, h2⟩ := owns_form h
  refine ⟨a, cap, by simpa using e, by simpa using h1, h2, fun i x hx => ?_⟩
  rw [List.getElem?_map] at hx
  obtain ⟨k, hk, rfl⟩ := Option.map_eq_some_iff.1 hx
  rcases h.2 with ⟨_, q⟩ | ⟨b, cap', cur, e', hb, hg, q1, q2, q3, q4⟩
  · rw [List.eq_nil_of_length_eq_zero q] at hk; simp at hk
  · rw [e'] at e
    injection e with e _ _
    refine ⟨b, 0, e.symm, ?_⟩
    have : (nums ks)[i]? = some (.int .i64 k) := by simp [nums, hk]
    rw [cell_at hg, Nat.zero_add]
    rw [← q4, List.getElem?_take] at this
    split at this
    · rw [Array.getElem?_toList] at this; exact this
    · cases this
/-- The nodes of the document's reader, when nothing but its struct and what lay below has turned. -/
theorem Fq.pt {B rb : Nat} {s last : ByteArray} {r : FS} {vn : Qv} (h : Fq B rb s last r vn w) (f : Fr (fun k => k = rb ∨ k < B) w w1) : Pt w1 vn.v (r.nds.map Nd.q) := by
  obtain ⟨ns, hr⟩ := h
  have hl := hr.len
  have hrow : ∀ {e size n v xs}, w.ownsRow B e size v n xs → (∀ j, v.ownBlock = some j → j ≠ rb) → w1.ownsRow B e size v n xs := by
    intro e size n v xs hq hn
    refine ⟨hq.1, ?_⟩
    rcases hq.2 with q | ⟨b, cap, cur, e, hb, hg, rest⟩
    · exact .inl q
    · refine .inr ⟨b, cap, cur, e, hb, ?_, rest⟩
      rw [f.block b (Array.getElem?_eq_some_iff.1 hg).1 (fun z => by
        rcases z with z | z
        · exact hn b (by rw [e]; rfl) z
        · omega)]
      exact hg
  have hR := hrow hr.row (fun j hj e => hr.apart (by unfold Qv.ownBlock; rw [hj, e]))
  obtain ⟨a, cap, e, h1, h2⟩ := owns_form hR
  refine ⟨a, cap, by rw [e, List.length_map, hl], by rw [List.length_map, ← hl]; exact h1, h2, fun i x hx => ?_⟩
  rw [← hr.nds, List.map_map, List.getElem?_map] at hx
  obtain ⟨⟨d, kv⟩, hk, rfl⟩ := Option.map_eq_some_iff.1 hx
  have hkr := (hr.kids _ (List.mem_of_getElem? hk))
  rcases hR.2 with ⟨_, q⟩ | ⟨b, cap', cur, e', hb, hg, q1, q2, q3, q4⟩
  · rw [List.eq_nil_of_length_eq_zero q] at hk; simp at hk
  · rw [e'] at e
    injection e with e _ _
    refine ⟨b, 0, kv, e.symm, fun j u hu => ?_, krow_ks (hrow hkr.1 fun j hj z => (hkr.2.1 j hj).1 z)⟩
    have hj : j < 11 := by
      have := (List.getElem?_eq_some_iff.1 hu).1
      simpa [Nq.cells] using this
    have hf := flat_get hk j hj
    rw [show (d.cells kv)[j]? = some u from hu] at hf
    rw [cell_at hg, Nat.zero_add]
    rw [← q4, List.getElem?_take] at hf
    split at hf
    · rw [Array.getElem?_toList] at hf; exact hf
    · cases hf
end
end Go.Proofs.YtalmajiflmejcaaGreat
/- The document's Parse. -/
namespace Go.Proofs.YtalmajiflmejcaaGreat
open Go.ChangeShapes Go.WideShapes Go.ChangeAt Go.RowKit
set_option linter.unusedVariables false
set_option linter.unusedSimpArgs false
def patZ : Value := .agg #[.slice none 0 0, .int .i64 0, .int .i64 0, .int .u8 0]
/-- What the document's Parse comes to. -/
def RefP (w : World) (R : Except (Nat × Nat) (Nat × FS)) (e : Ending) (w' : World) : Prop :=
  Kp w w' ∧ match R with
    | .error (n, p) => e = .returned (.tuple #[patZ, .int .i64 n, .int .i64 p])
    | .ok (root, r) => ∃ v, e = .returned (.tuple #[.agg #[v, .int .i64 root, .int .i64 r.g, .int .u8 r.cs], .int .i64 0, .int .i64 0]) ∧ Pt w' v (r.nds.map Nd.q)
section
variable {s last : ByteArray} {w : World}
theorem fs_start (B : Nat) (w : World) (hB : B ≤ w.heap.size) : Fq B w.heap.size s last fs0 ⟨.slice none 0 0, fun _ => False⟩ (w.alloc (.cells (fcells s last fs0 (.slice none 0 0)).toArray 167)) :=
  ⟨[], hB, rfl, alloc_new w _, World.ownsRow_nil _ _ _ _, fun q => (by cases q), rfl, fun x hx => (by cases hx), fun j hj => hj.elim⟩
theorem rowPat : ∃ d, Tryz.prog.underlying 92 = some d ∧ d.isRow = true := ⟨_, Tryz.underlying92, rfl⟩
theorem sizePat : (Tryz.prog.info? 92).map (·.size) = some 4 := by kernel_rfl
/-- What Parse has at hand behind its branches. -/
structure Pw (B rb p0 : Nat) (s last : ByteArray) (w : World) (r : FS) (vn : Qv) (x : World) : Prop where
  rr : Fq B rb s last r vn x
  bx : Lc 92 p0 [.slice none 0 0, .int .i64 0, .int .i64 0, .int .u8 0] x
  kp : Kp w x
  eq : w.heap.size = p0 ∧ B = p0 + 1 ∧ rb = p0 + 1
set_option maxHeartbeats 4000000 in
set_option maxRecDepth 100000 in
theorem refparse_any (s last : ByteArray) (w : World) : Calls Tryz.prog 50 #[.string s, .string last] w (RefP w (refF s last)) := by
  obtain ⟨dT, hT1, hT2⟩ := rowPat
  obtain ⟨R, hR⟩ : ∃ R, refF s last = R := ⟨_, rfl⟩
  rw [hR]
  obtain ⟨Z, hZ⟩ : ∃ Z, s.size = Z := ⟨_, rfl⟩
  obtain ⟨Y, hY⟩ : ∃ Y, last.size = Y := ⟨_, rfl⟩
  have HL : Hid (Lc 92 w.heap.size [.slice none 0 0, .int .i64 0, .int .i64 0, .int .u8 0] (w.alloc (.cells #[.slice none 0 0, .int .i64 0, .int .i64 0, .int .u8 0] 92)) ∧ Kp w (w.alloc (.cells #[.slice none 0 0, .int .i64 0, .int .i64 0, .int .u8 0] 92))) := ⟨Lc.new w [.slice none 0 0, .int .i64 0, .int .i64 0, .int .u8 0] _, kp_alloc _ _⟩
  by_cases h1 : 300 < Z
  · have HRR : Hid (R = .error (33, 0)) := by show _ = _; rw [← hR]; unfold refF; rw [if_pos (.inl (by omega))]
    have d1 : decide ((Z : Int) > 300) = true := decide_eq_true (by omega)
    have d2 : decide ((300 : Int) < (Z : Int)) = true := decide_eq_true (by omega)
    have d3 : decide (300 < Z) = true := decide_eq_true h1
    clear hR
    go_enter Tryz.func50, Tryz.ntmps50
    go_wp2_with fail
    refine bodyPost_ret (results_box3 rfl rfl HL.out.1 hT1 hT2 sizePat) rfl ?_
    rw [HRR.out]
    exact ⟨HL.out.2, rfl⟩
  have d1 : decide ((Z : Int) > 300) = false := decide_eq_false (by omega)
  have d2 : decide ((300 : Int) < (Z : Int)) = false := decide_eq_false (by omega)
  have d3 : decide (300 < Z) = false := decide_eq_false h1
  by_cases h2 : 1000 < Y
  · have HRR : Hid (R = .error (33, 0)) := by show _ = _; rw [← hR]; unfold refF; rw [if_pos (.inr (by omega))]
    have g1 : decide ((Y : Int) > 1000) = true := decide_eq_true (by omega)
    have g2 : decide ((1000 : Int) < (Y : Int)) = true := decide_eq_true (by omega)
    have g3 : decide (1000 < Y) = true := decide_eq_true h2
    clear hR
    go_enter Tryz.func50, Tryz.ntmps50
    go_wp2_with fail
    refine bodyPost_ret (results_box3 rfl rfl HL.out.1 hT1 hT2 sizePat) rfl ?_
    rw [HRR.out]
    exact ⟨HL.out.2, rfl⟩
  have g1 : decide ((Y : Int) > 1000) = false := decide_eq_false (by omega)
  have g2 : decide ((1000 : Int) < (Y : Int)) = false := decide_eq_false (by omega)
  have g3 : decide (1000 < Y) = false := decide_eq_false h2
  obtain ⟨⟨root, r1⟩, hX⟩ : ∃ X, bssF s last (bsN s last 9) false fs0 = X := ⟨_, rfl⟩
  have HR : Hid (R = if r1.err ≠ 0 then .error (r1.err, r1.pl) else if 400 < r1.nds.length then .error (33, 0) else .ok (root, r1)) := by
    show _ = _
    rw [← hR]; unfold refF; rw [if_neg (by omega), hX]
  have HS : Hid (Pw (w.heap.size + 1) (w.heap.size + 1) w.heap.size s last w fs0 ⟨.slice none 0 0, fun _ => False⟩ ((w.alloc (.cells #[.slice none 0 0, .int .i64 0, .int .i64 0, .int .u8 0] 92)).alloc (.cells (fcells s last fs0 (.slice none 0 0)).toArray 167))) := by
    have hz := alloc_size w (.cells #[.slice none 0 0, .int .i64 0, .int .i64 0, .int .u8 0] 92)
    have := fs_start (s := s) (last := last) (w.heap.size + 1) (w.alloc (.cells #[.slice none 0 0, .int .i64 0, .int .i64 0, .int .u8 0] 92)) (by omega)
    rw [hz] at this
    exact ⟨this, HL.out.1.kp (kp_alloc _ _), kp_trans HL.out.2 (kp_alloc _ _), rfl, rfl, rfl⟩
  have HB : Hid (∀ vn x, Fq (w.heap.size + 1) (w.heap.size + 1) s last fs0 vn x → Calls Tryz.prog 78 #[.pointer (some ⟨w.heap.size + 1, 0, none⟩), .bool false] x (FAdd (w.heap.size + 1) (w.heap.size + 1) s last (root, r1) vn none x)) := fun vn x hx => by
    rw [← hX]
    exact branches_top (by omega) (by omega) hx
  clear hR HL hX
  go_enter Tryz.func50, Tryz.ntmps50
  go_upto_region 4 with fail
  change Code.wp _ _ _ _ ((w.alloc (.cells #[.slice none 0 0, .int .i64 0, .int .i64 0, .int .u8 0] 92)).alloc (.cells (fcells s last fs0 (.slice none 0 0)).toArray 167))
  generalize ((w.alloc (.cells #[.slice none 0 0, .int .i64 0, .int .i64 0, .int .u8 0] 92)).alloc (.cells (fcells s last fs0 (.slice none 0 0)).toArray 167)) = w1 at HS ⊢
  obtain ⟨p0, hp0⟩ : ∃ p0, w.heap.size = p0 := ⟨_, rfl⟩
  obtain ⟨rb, hrb⟩ : ∃ rb, w.heap.size + 1 = rb := ⟨_, rfl⟩
  rw [hrb] at HS HB ⊢
  rw [hp0] at HS hrb ⊢
  have hne : rb ≠ p0 := by omega
  clear hp0 hrb
  go_upto_region 5 with (go_at_call 78; refine Calls.mono (HB.out _ _ HS.out.rr) ?_; rintro e w2 ⟨rfl, vn2, q1, q2⟩; have H2 : Hid (Pw rb rb p0 s last w r1 vn2 w2) := ⟨q1, HS.out.bx.fr q2.fr (fun z => z.elim (fun e => hne e.symm) (fun e => by cases e)), HS.out.kp.trans ((HS.out.rr.below q2).mono (by have := HS.out.eq; omega)), HS.out.eq⟩; clear q1 q2)
  clear HS HB
  have c17 := H2.out.rr.c17
  by_cases he : r1.err = 0
  · have hR2 := HR.out
    rw [if_neg (by rw [he]; simp)] at hR2
    rw [he] at c17
    have c3 := H2.out.rr.c3
    obtain ⟨va, vc, hv⟩ : ∃ va vc, vn2.v = .slice va r1.nds.length vc := by
      obtain ⟨ns, h⟩ := H2.out.rr
      obtain ⟨va, vc, e, _, _⟩ := owns_form h.row
      exact ⟨va, vc, by rw [e, h.len]⟩
    obtain ⟨M, hM⟩ : ∃ M, r1.nds.length = M := ⟨_, rfl⟩
    rw [hM] at hR2 hv
    rw [hv] at c3
    by_cases h4 : 400 < M
    · rw [if_pos h4] at hR2
      have HRR : Hid _ := hR2
      have k1 : decide ((M : Int) > 400) = true := decide_eq_true (by omega)
      have k2 : decide ((400 : Int) < (M : Int)) = true := decide_eq_true (by omega)
      have k3 : decide (400 < M) = true := decide_eq_true h4
      clear hR2 hM hv
      go_upto_region 8 with fail
      go_wp2_with (refine wpList_store_box H2.out.bx 0 [.slice none 0 0, .int .i64 0, .int .i64 0, .int .u8 0] rfl 92 (.tmp 4) (.tmp 45) rfl rfl rfl (Nat.le_refl 4) sizePat (by intro v hv; simp only [List.mem_cons, List.not_mem_nil, or_false] at hv; rcases hv with rfl | rfl | rfl | rfl <;> rfl) rfl ?_; intro wz lz fz sz; have HZ : Hid (Lc 92 p0 [.slice none 0 0, .int .i64 0, .int .i64 0, .int .u8 0] wz ∧ Kp w wz) := ⟨lz, H2.out.kp.trans (fz.below H2.out.kp.size fun k hk q => by unfold On at q; have := H2.out.eq; omega)⟩; clear lz fz sz)
      refine bodyPost_ret (results_box3 rfl rfl HZ.out.1 hT1 hT2 sizePat) rfl ?_
      rw [HRR.out]
      exact ⟨HZ.out.2, rfl⟩
    · rw [if_neg h4] at hR2
      have HRR : Hid _ := hR2
      have k1 : decide ((M : Int) > 400) = false := decide_eq_false (by omega)
      have k2 : decide ((400 : Int) < (M : Int)) = false := decide_eq_false (by omega)
      have k3 : decide (400 < M) = false := decide_eq_false h4
      have c4 := H2.out.rr.c4
      have c5 := H2.out.rr.c5
      have c19 := H2.out.rr.c19
      have f4 := H2.out.rr.fz 4
      have f5 := H2.out.rr.fz 5
      have HB : Hid (Lc 167 rb ([.string s, .int .i64 r1.k, .int .u8 r1.md, .slice va M vc, .int .i64 root, .int .i64 r1.g, .int .u8 r1.cs] ++ r1.dn.map Value.bool ++ [.int .i64 r1.err, .int .i64 r1.pl, .int .i64 r1.g, .string last]) ((w2.setCell ⟨rb, 4, none⟩ (.int .i64 root)).setCell ⟨rb, 5, none⟩ (.int .i64 r1.g))) := by
        have hb : Lc 167 rb (fcells s last r1 vn2.v) w2 := H2.out.rr.blk
        rw [hv] at hb
        exact (hb.set 4 _).set 5 _
      have HP : Hid (Lc 92 p0 [.slice none 0 0, .int .i64 0, .int .i64 0, .int .u8 0] ((w2.setCell ⟨rb, 4, none⟩ (.int .i64 root)).setCell ⟨rb, 5, none⟩ (.int .i64 r1.g))) := (H2.out.bx.other hne).other hne
      have HPt : Hid (∀ y, Fr (fun k => k = rb ∨ k < rb) w2 y → Pt y (.slice va M vc) (r1.nds.map Nd.q)) := fun y f => by
        have := H2.out.rr.pt f
        rw [hv] at this
        exact this
      clear hR2 hM hv
      go_upto_region 11 with fail
      obtain ⟨w3, hw3⟩ : ∃ w3, (w2.setCell ⟨rb, 4, none⟩ (.int .i64 root)).setCell ⟨rb, 5, none⟩ (.int .i64 r1.g) = w3 := ⟨_, rfl⟩
      have HF3 : Hid (Fr (fun k => k = rb ∨ k < rb) w2 w3) := by rw [← hw3]; exact (Fr.setCell (.inl rfl) w2).trans (Fr.setCell (.inl rfl) _)
      have HFp : Hid (Fr (fun k => k = rb ∨ k = p0) w2 w3) := by rw [← hw3]; exact (Fr.setCell (.inl rfl) w2).trans (Fr.setCell (.inl rfl) _)
      rw [hw3] at HB HP ⊢
      clear hw3 c4 c5 c19 f4 f5 c3 c17
      go_wp2_with (first | (refine wpList_load_box HB.out 3 [.slice va M vc, .int .i64 root, .int .i64 r1.g, .int .u8 r1.cs] rfl 92 (.tmp 61) rfl rfl rfl dT hT1 hT2 sizePat ?_) | (refine wpList_store_box HP.out 0 [.slice va M vc, .int .i64 root, .int .i64 r1.g, .int .u8 r1.cs] rfl 92 (.tmp 4) (.tmp 62) rfl rfl rfl (Nat.le_refl 4) sizePat (by intro v hv; simp only [List.mem_cons, List.not_mem_nil, or_false] at hv; rcases hv with rfl | rfl | rfl | rfl <;> rfl) rfl ?_; intro wz lz fz sz; have HZ : Hid (Lc 92 p0 [.slice va M vc, .int .i64 root, .int .i64 r1.g, .int .u8 r1.cs] wz ∧ Fr (fun k => k = rb ∨ k < rb) w2 wz ∧ Fr (fun k => k = rb ∨ k = p0) w2 wz) := ⟨lz, HF3.out.trans (fz.mono fun k _ q => by unfold On at q; have := H2.out.eq; omega), HFp.out.trans (fz.mono fun k _ q => .inr q)⟩; clear lz fz sz))
      refine bodyPost_ret (results_box3 rfl rfl HZ.out.1 hT1 hT2 sizePat) rfl ?_
      rw [HRR.out]
      exact ⟨H2.out.kp.trans (HZ.out.2.2.below H2.out.kp.size fun k hk q => by have := H2.out.eq; omega), _, rfl, HPt.out _ HZ.out.2.1⟩
  · have hR2 := HR.out
    rw [if_pos he] at hR2
    have HRR : Hid _ := hR2
    have e17 : ((r1.err : Int) != 0) = true := by simp; omega
    have c18 := H2.out.rr.c18
    clear hR2 he
    have b0 : w2.cell? ⟨p0, 0, none⟩ = some (.slice none 0 0) := H2.out.bx.at rfl
    have b1 : w2.cell? ⟨p0, 1, none⟩ = some (.int .i64 0) := H2.out.bx.at rfl
    have b2 : w2.cell? ⟨p0, 2, none⟩ = some (.int .i64 0) := H2.out.bx.at rfl
    have b3 : w2.cell? ⟨p0, 3, none⟩ = some (.int .u8 0) := H2.out.bx.at rfl
    have f0 := H2.out.bx.fz 0
    have f1 := H2.out.bx.fz 1
    have f2 := H2.out.bx.fz 2
    have f3 := H2.out.bx.fz 3
    go_upto_region 6 with fail
    go_region
    obtain ⟨w3, hw3⟩ : ∃ w3, ((((w2.setCell ⟨p0, 0, none⟩ (.slice none 0 0)).setCell ⟨p0, 1, none⟩ (.int .i64 0)).setCell ⟨p0, 2, none⟩ (.int .i64 0)).setCell ⟨p0, 3, none⟩ (.int .u8 0)).drew = w3 := ⟨_, rfl⟩
    have HZ : Hid (Lc 92 p0 [.slice none 0 0, .int .i64 0, .int .i64 0, .int .u8 0] w3 ∧ Kp w w3) := by
      rw [← hw3]
      refine ⟨((((H2.out.bx.set 0 (.slice none 0 0)).set 1 (.int .i64 0)).set 2 (.int .i64 0)).set 3 (.int .u8 0)).kp (kp_drew _), ?_⟩
      refine kp_trans (H2.out.kp.trans (Fr.below (S := On p0) ?_ H2.out.kp.size fun k hk q => by unfold On at q; have := H2.out.eq; omega)) (kp_drew _)
      exact (((fr_set p0 0 _ w2).trans (fr_set p0 1 _ _)).trans (fr_set p0 2 _ _)).trans (fr_set p0 3 _ _)
    change Exit.then _ _ _ _ ((((w2.setCell ⟨p0, 0, none⟩ (.slice none 0 0)).setCell ⟨p0, 1, none⟩ (.int .i64 0)).setCell ⟨p0, 2, none⟩ (.int .i64 0)).setCell ⟨p0, 3, none⟩ (.int .u8 0)).drew
    rw [hw3]
    clear hw3 b0 b1 b2 b3 f0 f1 f2 f3 c17 c18
    go_wp2_with fail
    refine bodyPost_ret (results_box3 rfl rfl HZ.out.1 hT1 hT2 sizePat) rfl ?_
    rw [HRR.out]
    exact ⟨HZ.out.2, rfl⟩
end
end Go.Proofs.YtalmajiflmejcaaGreat
/- The document's check of nodes: its model; kids. -/
namespace Go.Proofs.YtalmajiflmejcaaGreat
open Go.ChangeShapes Go.WideShapes Go.ChangeAt Go.RowKit
set_option linter.unusedVariables false
set_option linter.unusedSimpArgs false
def hasB (L : List Nq) (a : Int) : Bool := decide (0 ≤ a ∧ a < (L.length : Int))
def nodeAt (L : List Nq) (a : Int) : Nq := (L[a.toNat]?).getD { op := 0 }
/-- Has a node as many kids as it has to have? -/
def kidsR (d : Nq) : Bool := if d.op = 7 ∨ d.op = 8 then d.kids.length == 1 else if d.op = 5 ∨ d.op = 6 then decide (2 ≤ d.kids.length) else d.kids.length == 0 && decide (1 ≤ d.op ∧ d.op ≤ 15)
def numbR (G : Int) (d : Nq) : Bool := if d.op = 8 ∨ d.op = 9 then decide (1 ≤ d.n ∧ d.n ≤ G) else true
def timR (d : Nq) : Bool := if d.op = 7 then decide (0 ≤ d.mn ∧ d.mn ≤ 60 ∧ d.mx ≤ 60 ∧ (d.mx < 0 ∨ d.mn ≤ d.mx)) else true
def allB (L : List Nq) : List Int → Bool
  | [] => true
  | a :: r => (nodeAt L a).op == 2 && allB L r
def sngR (L : List Nq) (d : Nq) : Bool := if d.op = 2 ∨ d.op = 3 ∨ d.op = 4 ∨ d.op = 8 ∨ d.op = 9 ∨ d.op = 1 then true else if d.op = 5 then allB L d.kids else false
mutual
/-- Is all from a node on sound? Behind it: the nodes that were asked for. -/
def wlk (L : List Nq) (G : Int) : Nat → Int → List Bool → Bool × List Bool
  | 0, _, sn => (false, sn)
  | f + 1, k, sn =>
    if hasB L k = false ∨ sn.getD k.toNat true = true then (false, sn)
    else if (kidsR (nodeAt L k) && numbR G (nodeAt L k) && timR (nodeAt L k)) = false then (false, sn.set k.toNat true)
    else if (wlkL L G f (nodeAt L k).kids (sn.set k.toNat true)).1 = false then (false, (wlkL L G f (nodeAt L k).kids (sn.set k.toNat true)).2)
    else (if (nodeAt L k).op = 7 then sngR L (nodeAt L ((nodeAt L k).kids.headD 0)) else true, (wlkL L G f (nodeAt L k).kids (sn.set k.toNat true)).2)
def wlkL (L : List Nq) (G : Int) : Nat → List Int → List Bool → Bool × List Bool
  | _, [], sn => (true, sn)
  | f, k :: ks, sn => if (wlk L G f k sn).1 = false then (false, (wlk L G f k sn).2) else wlkL L G f ks (wlk L G f k sn).2
end
def sndR (L : List Nq) (root G : Int) : Bool := decide (0 ≤ G ∧ G ≤ 9) && (wlk L G (L.length + 1) root (List.replicate L.length false)).1
/-- A node out of memory, in a box. -/
theorem Pt.at {w : World} {v : Value} {L : List Nq} (h : Pt w v L) {a : Int} (ha : hasB L a = true) : ∃ (n b o : Nat) (vc : Nat) (kv : Value), a = (n : Int) ∧ n < L.length ∧ v = .slice (some ⟨b, o, none⟩) L.length vc ∧ (L.length ≤ vc ∧ vc ≤ maxLen) ∧ (∀ j u, ((nodeAt L a).cells kv)[j]? = some u → w.cell? ⟨b, o + n * 11 + j, none⟩ = some u) ∧ Ks w kv (nodeAt L a).kids := by
  obtain ⟨h1, h2⟩ := of_decide_eq_true ha
  obtain ⟨n, rfl⟩ : ∃ n : Nat, a = (n : Int) := ⟨a.toNat, by omega⟩
  obtain ⟨va, vc, e1, e2, e3, e4⟩ := h
  have hn : n < L.length := by omega
  obtain ⟨b, o, kv, q1, q2, q3⟩ := e4 n _ (List.getElem?_eq_getElem hn)
  have he : nodeAt L (n : Int) = L[n] := by unfold nodeAt; rw [Int.toNat_natCast, List.getElem?_eq_getElem hn]; rfl
  rw [he]
  exact ⟨n, b, o, vc, kv, rfl, hn, by rw [e1, q1], ⟨e2, e3⟩, q2, q3⟩
theorem nq_new (w : World) (d : Nq) (kv : Value) : Lc 195 w.heap.size (d.cells kv) (w.alloc (.cells #[.int .u8 d.op, .int .u8 d.c, .int .u64 d.set.a, .int .u64 d.set.b, .int .u64 d.set.c, .int .u64 d.set.d, .int .i64 d.mn, .int .i64 d.mx, .bool d.lz, .int .i64 d.n, kv] 195)) := Lc.new w (d.cells kv) _
set_option maxHeartbeats 2000000 in
theorem fkids_any {w : World} {d : Nq} {kv : Value} (hk : Ks w kv d.kids) : Calls Tryz.prog 146 #[d.val kv] w fun e w' => e = .returned (.bool (kidsR d)) ∧ Kp w w' := by
  obtain ⟨ka, kc, rfl, k1, k2, hx⟩ := hk
  clear hx
  obtain ⟨N, hN⟩ : ∃ N, d.kids.length = N := ⟨_, rfl⟩
  have HL : Hid _ := nq_new w d (.slice ka d.kids.length kc)
  unfold kidsR Nq.val
  rw [hN] at HL k1 ⊢
  obtain ⟨op, hop⟩ : ∃ op, d.op = op := ⟨_, rfl⟩
  have b0 : ∀ x, Lc 195 w.heap.size (d.cells (.slice ka N kc)) x → x.cell? ⟨w.heap.size, 0, none⟩ = some (.int .u8 op) ∧ x.cell? ⟨w.heap.size, 10, none⟩ = some (.slice ka N kc) := fun x hx => ⟨by rw [← hop]; exact hx.at rfl, hx.at rfl⟩
  obtain ⟨b00, b10⟩ := b0 _ HL.out
  unfold maxLen at k2
  rw [hop] at b00 b10 ⊢
  clear b0 HL
  generalize d.c = c at *
  generalize d.set.a = sa at *
  generalize d.set.b = sb at *
  generalize d.set.c = sc at *
  generalize d.set.d = sd at *
  generalize d.mn = mn at *
  generalize d.mx = mx at *
  generalize d.lz = lz at *
  generalize d.n = nn at *
  clear hop hN
  have e1 : ((N : Int) == 1) = (N == 1) := by rw [Bool.eq_iff_iff]; simp; omega
  have e0 : ((N : Int) == 0) = (N == 0) := by rw [Bool.eq_iff_iff]; simp
  have e2 : decide ((N : Int) ≥ 2) = decide (2 ≤ N) := by rw [decide_eq_decide]; omega
  have e2' : decide ((2 : Int) ≤ (N : Int)) = decide (2 ≤ N) := by rw [decide_eq_decide]; omega
  by_cases h7 : op = 7
  · subst h7
    rw [if_pos (.inl rfl)]
    go_enter Tryz.func146, Tryz.ntmps146
    go_wp2_with fail
    go_ret
    exact ⟨by first | rfl | (rw [← e1]; rfl), kp_alloc _ _⟩
  by_cases h8 : op = 8
  · subst h8
    rw [if_pos (.inr rfl)]
    go_enter Tryz.func146, Tryz.ntmps146
    go_wp2_with fail
    go_ret
    exact ⟨by first | rfl | (rw [← e1]; rfl), kp_alloc _ _⟩
  rw [if_neg (by omega)]
  by_cases h5 : op = 5
  · subst h5
    rw [if_pos (.inl rfl)]
    go_enter Tryz.func146, Tryz.ntmps146
    go_wp2_with fail
    go_ret
    exact ⟨by first | rfl | (rw [← e2]; rfl) | (rw [← e2']; rfl), kp_alloc _ _⟩
  by_cases h6 : op = 6
  · subst h6
    rw [if_pos (.inr rfl)]
    go_enter Tryz.func146, Tryz.ntmps146
    go_wp2_with fail
    go_ret
    exact ⟨by first | rfl | (rw [← e2]; rfl) | (rw [← e2']; rfl), kp_alloc _ _⟩
  rw [if_neg (by omega)]
  have i7 : ((op : Int) == 7) = false := by simp; omega
  have i8 : ((op : Int) == 8) = false := by simp; omega
  have i5 : ((op : Int) == 5) = false := by simp; omega
  have i6 : ((op : Int) == 6) = false := by simp; omega
  cases N with
  | succ n =>
    have z1 : (((n : Int) + 1) == 0) = false := by simp; omega
    have z2 : ((n + 1) == 0) = false := by simp
    rw [z2]
    clear e0 e1 e2 e2'
    go_enter Tryz.func146, Tryz.ntmps146
    go_wp2_with fail
    go_ret
    exact ⟨rfl, kp_alloc _ _⟩
  | zero =>
    clear e0 e1 e2 e2'
    by_cases g1 : 1 ≤ op
    · have j1 : decide ((op : Int) ≥ 1) = true := decide_eq_true (by omega)
      have j1' : decide ((1 : Int) ≤ (op : Int)) = true := decide_eq_true (by omega)
      by_cases g2 : op ≤ 15
      · have j2 : decide ((op : Int) ≤ 15) = true := decide_eq_true (by omega)
        have j3 : decide (1 ≤ op ∧ op ≤ 15) = true := decide_eq_true ⟨g1, g2⟩
        rw [j3]
        clear g1 g2 j3 h5 h6 h7 h8
        go_enter Tryz.func146, Tryz.ntmps146
        go_wp2_with fail
        go_ret
        exact ⟨rfl, kp_alloc _ _⟩
      · have j2 : decide ((op : Int) ≤ 15) = false := decide_eq_false (by omega)
        have j3 : decide (1 ≤ op ∧ op ≤ 15) = false := decide_eq_false (by omega)
        rw [j3]
        clear g1 g2 j3 h5 h6 h7 h8
        go_enter Tryz.func146, Tryz.ntmps146
        go_wp2_with fail
        go_ret
        exact ⟨rfl, kp_alloc _ _⟩
    · obtain rfl : op = 0 := by omega
      clear h5 h6 h7 h8 g1
      go_enter Tryz.func146, Tryz.ntmps146
      go_wp2_with fail
      go_ret
      exact ⟨rfl, kp_alloc _ _⟩
end Go.Proofs.YtalmajiflmejcaaGreat
