/- Texts that the proof of the law stands on: Fr1, Fr2. -/
import Derived.Test.YtalmajiflmejcaaGreatPartE
import Derived.Deep.QuietTactic
/- The document's check of nodes: its memory; single. -/
namespace Go.Proofs.YtalmajiflmejcaaGreat
open Go.ChangeShapes Go.WideShapes Go.ChangeAt Go.RowKit
set_option linter.unusedVariables false
set_option linter.unusedSimpArgs false
/-- A walk over nodes: its struct, the nodes that were asked for. -/
structure Wk (w0 : World) (wb sb : Nat) (v : Value) (L : List Nq) (root G cs : Int) (sn : List Bool) (w : World) : Prop where
  pt : Pt w0 v L
  kp : Kp w0 w
  nw : w0.heap.size ≤ wb ∧ w0.heap.size ≤ sb ∧ wb ≠ sb
  st : Lc 204 wb [v, .int .i64 root, .int .i64 G, .int .u8 cs, .slice (some ⟨sb, 0, none⟩) L.length L.length] w
  sr : Lc 4 sb (sn.map Value.bool) w
  ln : sn.length = L.length
section
variable {w0 : World} {wb sb : Nat} {v : Value} {L : List Nq} {root G cs : Int} {sn sn1 : List Bool} {w w1 : World}
theorem Wk.kpp (h : Wk w0 wb sb v L root G cs sn w) (k : Kp w w1) : Wk w0 wb sb v L root G cs sn w1 := ⟨h.pt, kp_trans h.kp k, h.nw, h.st.kp k, h.sr.kp k, h.ln⟩
theorem Wk.ptw (h : Wk w0 wb sb v L root G cs sn w) : Pt w v L := h.pt.kp h.kp
theorem Ks.cell {ka : Option Addr} {N kc : Nat} {ks : List Int} (h : Ks w (.slice ka N kc) ks) {i : Nat} {x : Int} (hx : ks[i]? = some x) : ∃ b o, ka = some ⟨b, o, none⟩ ∧ w.cell? ⟨b, o + i, none⟩ = some (.int .i64 x) := by
  obtain ⟨a, cap, e, _, _, h4⟩ := h
  obtain ⟨b, o, e2, q⟩ := h4 i x hx
  injection e with e _ _
  exact ⟨b, o, by rw [e, e2], q⟩
theorem allB_get {L : List Nq} : ∀ {ks : List Int}, allB L ks = true ↔ ∀ (i : Nat) (k : Int), ks[i]? = some k → (nodeAt L k).op = 2 := by
  intro ks
  induction ks with
  | nil => simp [allB]
  | cons a r ih =>
    rw [allB, Bool.and_eq_true, ih]
    constructor
    · rintro ⟨h1, h2⟩ i k hk
      cases i with
      | zero => simp at hk; subst hk; simpa using h1
      | succ i => exact h2 i k (by simpa using hk)
    · intro h
      exact ⟨by simpa using h 0 a rfl, fun i k hk => h (i + 1) k (by simpa using hk)⟩
set_option maxHeartbeats 4000000 in
set_option maxRecDepth 100000 in
theorem fsingle_any (h : Wk w0 wb sb v L root G cs sn w) {k : Int} (hk : hasB L k = true) (hkk : (nodeAt L k).op = 5 → ∀ x ∈ (nodeAt L k).kids, hasB L x = true) (hL : L.length ≤ 1000000) :
    Calls Tryz.prog 147 #[.pointer (some ⟨wb, 0, none⟩), .int .i64 k] w fun e w' => e = .returned (.bool (sngR L (nodeAt L k))) ∧ Kp w w' := by
  obtain ⟨n, b, o, vc, kv, rfl, hn, hv, hvc, hc, hks⟩ := h.ptw.at hk
  obtain ⟨d, hd⟩ : ∃ d, nodeAt L (n : Int) = d := ⟨_, rfl⟩
  rw [hd] at hkk hc hks ⊢
  have hks0 := hks
  obtain ⟨ka, kc, rfl, k1, k2, hx⟩ := hks
  clear hx hk
  subst hv
  have c0 : w.cell? ⟨wb, 0, none⟩ = some (.slice (some ⟨b, o, none⟩) L.length vc) := h.st.at rfl
  obtain ⟨N, hN⟩ : ∃ N, L.length = N := ⟨_, rfl⟩
  have x0 := hc 0 _ rfl
  have x1 := hc 1 _ rfl
  have x2 := hc 2 _ rfl
  have x3 := hc 3 _ rfl
  have x4 := hc 4 _ rfl
  have x5 := hc 5 _ rfl
  have x6 := hc 6 _ rfl
  have x7 := hc 7 _ rfl
  have x8 := hc 8 _ rfl
  have x9 := hc 9 _ rfl
  have x10 := hc 10 _ rfl
  simp only [Nat.add_zero] at x0
  rw [hN] at c0 hn hvc
  have hnN : (n : Int) < (N : Int) := by omega
  have hn2 : (0 : Int) ≤ (n : Int) ∧ (n : Int) < (N : Int) := by omega
  have HH : Hid (Wk w0 wb sb (.slice (some ⟨b, o, none⟩) L.length vc) L root G cs sn w ∧ Ks w (.slice ka d.kids.length kc) d.kids ∧ L.length = N) := ⟨h, hks0, hN⟩
  have HKK : Hid (d.op = 5 → ∀ x ∈ d.kids, hasB L x = true) := hkk
  have HB : Hid _ := nq_new w d (.slice ka d.kids.length kc)
  unfold maxLen at k2 hvc
  clear h hc hks0 hd hkk hN
  obtain ⟨op, hop⟩ : ∃ op, d.op = op := ⟨_, rfl⟩
  obtain ⟨RS, hRS⟩ : ∃ RS, sngR L d = RS := ⟨_, rfl⟩
  have HRS : Hid (RS = if op = 2 ∨ op = 3 ∨ op = 4 ∨ op = 8 ∨ op = 9 ∨ op = 1 then true else if op = 5 then allB L d.kids else false) := by show _ = _; rw [← hRS, ← hop]; rfl
  rw [hRS]
  clear hRS
  rw [hop] at x0 HB HKK
  obtain ⟨M, hM⟩ : ∃ M, d.kids.length = M := ⟨_, rfl⟩
  rw [hM] at x10 k1 HB HH
  have HM : Hid (d.kids.length = M ∧ d.op = op) := ⟨hM, hop⟩
  clear hM hop
  go_enter Tryz.func147, Tryz.ntmps147
  go_upto_region 2 with fail
  obtain ⟨W1, hW1⟩ : ∃ W1, w.alloc (.cells #[.int .u8 op, .int .u8 d.c, .int .u64 d.set.a, .int .u64 d.set.b, .int .u64 d.set.c, .int .u64 d.set.d, .int .i64 d.mn, .int .i64 d.mx, .bool d.lz, .int .i64 d.n, .slice ka M kc] 195) = W1 := ⟨_, rfl⟩
  obtain ⟨m, hm⟩ : ∃ m, w.heap.size = m := ⟨_, rfl⟩
  have H1 : Hid (Kp w W1 ∧ Lc 195 m (d.cells (.slice ka M kc)) W1) := by
    rw [← hW1, ← hm]
    exact ⟨kp_alloc _ _, HB.out⟩
  rw [hW1, hm]
  have b0 : W1.cell? ⟨m, 0, none⟩ = some (.int .u8 op) := by have := H1.out.2.at (j := 0) rfl; rw [HM.out.2] at this; exact this
  clear hW1 hm x0 x1 x2 x3 x4 x5 x6 x7 x8 x9 x10 c0 HB
  by_cases p2 : op = 2
  · subst p2
    have HR2 : Hid (RS = true) := by have := HRS.out; rw [if_pos (by simp)] at this; exact this
    go_wp2_with fail
    go_ret
    exact ⟨by rw [HR2.out]; rfl, H1.out.1⟩
  by_cases p3 : op = 3
  · subst p3
    have HR2 : Hid (RS = true) := by have := HRS.out; rw [if_pos (by simp)] at this; exact this
    go_wp2_with fail
    go_ret
    exact ⟨by rw [HR2.out]; rfl, H1.out.1⟩
  by_cases p4 : op = 4
  · subst p4
    have HR2 : Hid (RS = true) := by have := HRS.out; rw [if_pos (by simp)] at this; exact this
    go_wp2_with fail
    go_ret
    exact ⟨by rw [HR2.out]; rfl, H1.out.1⟩
  by_cases p8 : op = 8
  · subst p8
    have HR2 : Hid (RS = true) := by have := HRS.out; rw [if_pos (by simp)] at this; exact this
    go_wp2_with fail
    go_ret
    exact ⟨by rw [HR2.out]; rfl, H1.out.1⟩
  by_cases p9 : op = 9
  · subst p9
    have HR2 : Hid (RS = true) := by have := HRS.out; rw [if_pos (by simp)] at this; exact this
    go_wp2_with fail
    go_ret
    exact ⟨by rw [HR2.out]; rfl, H1.out.1⟩
  by_cases p1 : op = 1
  · subst p1
    have HR2 : Hid (RS = true) := by have := HRS.out; rw [if_pos (by simp)] at this; exact this
    go_wp2_with fail
    go_ret
    exact ⟨by rw [HR2.out]; rfl, H1.out.1⟩
  have hr0 := HRS.out
  rw [if_neg (by omega)] at hr0
  have i2 : ((op : Int) == 2) = false := by simp; omega
  have i3 : ((op : Int) == 3) = false := by simp; omega
  have i4 : ((op : Int) == 4) = false := by simp; omega
  have i8 : ((op : Int) == 8) = false := by simp; omega
  have i9 : ((op : Int) == 9) = false := by simp; omega
  have i1 : ((op : Int) == 1) = false := by simp; omega
  by_cases p5 : op = 5
  · subst p5
    rw [if_pos rfl] at hr0
    have HR2 : Hid (RS = allB L d.kids) := hr0
    clear hr0 HRS
    have hkid := HKK.out rfl
    have HKI : Hid (∀ x ∈ d.kids, hasB L x = true) := hkid
    clear hkid HKK i2 i3 i4 i8 i9 i1 p2 p3 p4 p8 p9 p1
    go_wp2_with fail
    go_loopw [6] (fun v6 wr => ∃ i : Nat, i ≤ M ∧ v6 = .int .i64 i ∧ Hid (Kp W1 wr ∧ ∀ (j : Nat) (x : Int), j < i → d.kids[j]? = some x → (nodeAt L x).op = 2)) (fun v6 _ => M - (intOf v6).toNat)
    case atStart => exact ⟨0, Nat.zero_le _, rfl, Below.refl _ _, fun j x hj => by omega⟩
    case round =>
      clear b0
      obtain ⟨i, hi, rfl, HQ⟩ := hrel
      have b10 : wr.cell? ⟨m, 10, none⟩ = some (.slice ka M kc) := (H1.out.2.kp HQ.out.1).at rfl
      by_cases hlt : i < M
      · have dl : decide ((i : Int) < (M : Int)) = true := decide_eq_true (by omega)
        have dn : decide (i < M) = true := decide_eq_true hlt
        have hil : i < d.kids.length := by rw [HM.out.1]; exact hlt
        obtain ⟨x, hx⟩ : ∃ x, d.kids[i]'hil = x := ⟨_, rfl⟩
        have hxi : d.kids[i]? = some x := by rw [List.getElem?_eq_getElem hil, hx]
        have kk : Kp w wr := kp_trans H1.out.1 HQ.out.1
        obtain ⟨kb, ko, rfl, ck⟩ := (HH.out.2.1.kp kk).cell hxi
        obtain ⟨n2, b2, o2, vc2, kv2, rfl, hn2', hv2, _, hc2, _⟩ := (HH.out.1.kpp kk).ptw.at (HKI.out x (List.mem_of_getElem? hxi))
        injection hv2 with hv2 hv3 hv4
        injection hv2 with hv2
        injection hv2 with hv2 hv5
        subst hv2 hv5
        have y0 := hc2 0 _ rfl
        simp only [Nat.add_zero] at y0
        have c0 : wr.cell? ⟨wb, 0, none⟩ = some (.slice (some ⟨b, o, none⟩) N vc) := by have := ((HH.out.1.kpp kk).st.at (j := 0) rfl); rw [HH.out.2.2] at this; exact this
        obtain ⟨q, hq⟩ : ∃ q, (nodeAt L (n2 : Int)).op = q := ⟨_, rfl⟩
        rw [hq] at y0
        have HX : Hid (d.kids[i]? = some (n2 : Int) ∧ (nodeAt L (n2 : Int)).op = q) := ⟨hxi, hq⟩
        have hb2 : (0 : Int) ≤ (n2 : Int) ∧ (n2 : Int) < (N : Int) := by have := HH.out.2.2; omega
        clear hxi hx hc2 hq hv3 hv4 hn2'
        by_cases hq2 : q = 2
        · subst hq2
          go_upto_region 14 with fail
          go_quiet (fail)
          go_wp2_with fail
          go_roundw
          case rel =>
            refine ⟨i + 1, by omega, by go_num, kp_trans HQ.out.1 (kp_drewN _ _), fun j x hj hx => ?_⟩
            rcases Nat.lt_or_ge j i with z | z
            · exact HQ.out.2 j x z hx
            · obtain rfl : j = i := by omega
              rw [HX.out.1, Option.some.injEq] at hx
              rw [← hx]; exact HX.out.2
          case measure => simp only [intOf]; omega
        · have iq : ((q : Int) != 2) = true := by simp; omega
          go_upto_region 14 with fail
          go_quiet (fail)
          have HA : Hid (allB L d.kids = false) := by
            show _ = _
            rw [Bool.eq_false_iff]
            intro z
            exact hq2 (by rw [← HX.out.2]; exact allB_get.1 z i _ HX.out.1)
          go_wp2_with fail
          go_ret
          exact ⟨by rw [HR2.out, HA.out]; rfl, kp_trans (kp_trans H1.out.1 HQ.out.1) (kp_drewN _ _)⟩
      · obtain rfl : i = M := by omega
        have dl : decide ((i : Int) < (i : Int)) = false := by simp
        have HA : Hid (allB L d.kids = true) := allB_get.2 fun j x hx => HQ.out.2 j x (by have := (List.getElem?_eq_some_iff.1 hx).1; have := HM.out.1; omega) hx
        go_wp2_with fail
        go_ret
        exact ⟨by rw [HR2.out, HA.out]; rfl, kp_trans H1.out.1 HQ.out.1⟩
  · rw [if_neg p5] at hr0
    have HR2 : Hid (RS = false) := hr0
    clear hr0 HRS
    have i5 : ((op : Int) == 5) = false := by simp; omega
    go_wp2_with fail
    go_ret
    exact ⟨by rw [HR2.out]; rfl, H1.out.1⟩
end
end Go.Proofs.YtalmajiflmejcaaGreat
/- The document's check of nodes: what its walk keeps. -/
namespace Go.Proofs.YtalmajiflmejcaaGreat
open Go.ChangeShapes Go.WideShapes Go.ChangeAt Go.RowKit
set_option linter.unusedVariables false
set_option linter.unusedSimpArgs false
theorem cnt_set {l : List Bool} {i : Nat} (h : l[i]? = some false) : (l.set i true).count false + 1 = l.count false := by
  induction l generalizing i with
  | nil => simp at h
  | cons x l ih =>
    cases i with
    | zero => simp only [List.getElem?_cons_zero, Option.some.injEq] at h; subst h; simp
    | succ i =>
      simp only [List.getElem?_cons_succ] at h
      have := ih h
      simp only [List.set_cons_succ, List.count_cons]
      omega
theorem cnt_set_le (l : List Bool) (i : Nat) : (l.set i true).count false ≤ l.count false := by
  induction l generalizing i with
  | nil => simp
  | cons x l ih =>
    cases i with
    | zero => cases x <;> simp
    | succ i => have := ih i; simp only [List.set_cons_succ, List.count_cons]; omega
section
variable {L : List Nq} {G : Int}
theorem wlk_keeps (f : Nat) : (∀ k sn, (wlk L G f k sn).2.length = sn.length ∧ (wlk L G f k sn).2.count false ≤ sn.count false) ∧ ∀ ks sn, (wlkL L G f ks sn).2.length = sn.length ∧ (wlkL L G f ks sn).2.count false ≤ sn.count false := by
  induction f with
  | zero =>
    have h1 : ∀ k sn, (wlk L G 0 k sn).2.length = sn.length ∧ (wlk L G 0 k sn).2.count false ≤ sn.count false := fun k sn => by unfold wlk; exact ⟨rfl, Nat.le_refl _⟩
    refine ⟨h1, fun ks => ?_⟩
    induction ks with
    | nil => intro sn; unfold wlkL; exact ⟨rfl, Nat.le_refl _⟩
    | cons k ks ih =>
      intro sn
      unfold wlkL
      split
      · exact h1 k sn
      · obtain ⟨a, b⟩ := ih (wlk L G 0 k sn).2
        obtain ⟨c, d⟩ := h1 k sn
        exact ⟨a.trans c, Nat.le_trans b d⟩
  | succ f ihf =>
    have h1 : ∀ k sn, (wlk L G (f + 1) k sn).2.length = sn.length ∧ (wlk L G (f + 1) k sn).2.count false ≤ sn.count false := fun k sn => by
      unfold wlk
      have hc := cnt_set_le sn k.toNat
      obtain ⟨a, b⟩ := ihf.2 (nodeAt L k).kids (sn.set k.toNat true)
      split
      · exact ⟨rfl, Nat.le_refl _⟩
      split
      · exact ⟨by simp, hc⟩
      split
      · exact ⟨by rw [a]; simp, Nat.le_trans b hc⟩
      · exact ⟨by rw [a]; simp, Nat.le_trans b hc⟩
    refine ⟨h1, fun ks => ?_⟩
    induction ks with
    | nil => intro sn; unfold wlkL; exact ⟨rfl, Nat.le_refl _⟩
    | cons k ks ih =>
      intro sn
      unfold wlkL
      split
      · exact h1 k sn
      · obtain ⟨a, b⟩ := ih (wlk L G (f + 1) k sn).2
        obtain ⟨c, d⟩ := h1 k sn
        exact ⟨a.trans c, Nat.le_trans b d⟩
theorem wlk_has {f : Nat} {k : Int} {sn : List Bool} (h : (wlk L G f k sn).1 = true) : hasB L k = true := by
  cases f with
  | zero => unfold wlk at h; cases h
  | succ f =>
    unfold wlk at h
    split at h
    · cases h
    · rename_i q
      cases hq : hasB L k with
      | true => rfl
      | false => exact absurd (.inl hq) q
theorem wlkL_has {f : Nat} : ∀ {ks : List Int} {sn : List Bool}, (wlkL L G f ks sn).1 = true → ∀ x ∈ ks, hasB L x = true := by
  intro ks
  induction ks with
  | nil => intro sn _ x hx; cases hx
  | cons k ks ih =>
    intro sn h x hx
    unfold wlkL at h
    split at h
    · cases h
    · rename_i q
      rcases List.mem_cons.1 hx with rfl | hx
      · exact wlk_has (by cases hq : (wlk L G f x sn).1 with
          | true => rfl
          | false => exact absurd hq q)
      · exact ih h x hx
theorem wlk_kids {f : Nat} {k : Int} {sn : List Bool} (h : (wlk L G f k sn).1 = true) : ∀ x ∈ (nodeAt L k).kids, hasB L x = true := by
  cases f with
  | zero => unfold wlk at h; cases h
  | succ f =>
    unfold wlk at h
    split at h
    · cases h
    split at h
    · cases h
    split at h
    · cases h
    · rename_i q
      exact wlkL_has (f := f) (sn := sn.set k.toNat true) (by cases hq : (wlkL L G f (nodeAt L k).kids (sn.set k.toNat true)).1 with
        | true => rfl
        | false => exact absurd hq q)
end
end Go.Proofs.YtalmajiflmejcaaGreat
