/- Texts that the proof of the law stands on: Gd7, Gd8, Gd9, Gd10, Hm1, Hm2. -/
import Derived.Test.YtalmajiflmejcaaGreatPartH
import Derived.Deep.QuietTactic
import Derived.BigQuiet
/- The document's writer: alt. -/
namespace Go.Proofs.YtalmajiflmejcaaGreat
open Go.ChangeShapes Go.WideShapes Go.ChangeAt Go.RowKit
set_option linter.unusedVariables false
set_option linter.unusedSimpArgs false
def setX (c : List Ins) (a out : Nat) : List Ins :=
  match c[a]? with
  | none => c
  | some d => c.set a { d with x := (out : Int) }
def jmpE : List Nat → Ds → Ds
  | [], x => x
  | a :: l, x => jmpE l { x with c := setX x.c a x.c.length }
/-- A way that is not the last: behind its jump. -/
def wayE (N : Int → Ds → Ds) (k : Int) (x : Ds) : Nat × Ds :=
  ((layE { op := 5 } (N k (layE { op := 4 } x).2)).1, { (layE { op := 5 } (N k (layE { op := 4 } x).2)).2 with c := toL (layE { op := 5 } (N k (layE { op := 4 } x).2)).2.c (layE { op := 4 } x).1 (layE { op := 5 } (N k (layE { op := 4 } x).2)).2.c.length false })
def altL (N : Int → Ds → Ds) : List Int → List Nat → Ds → List Nat × Ds
  | [], l, x => (l, x)
  | k :: ks, l, x => if x.lg then (l, x) else if ks = [] then (l, N k x) else altL N ks (l ++ [(wayE N k x).1]) (wayE N k x).2
def altE (N : Int → Ds → Ds) (ks : List Int) (x : Ds) : Ds := jmpE (altL N ks [] x).1 (altL N ks [] x).2
theorem setX_len (c : List Ins) (a out : Nat) : (setX c a out).length = c.length := by
  unfold setX
  split
  · rfl
  · simp
theorem okd_len {x : Ds} (h : Okd x) {c : List Ins} (hc : c.length = x.c.length) : Okd { x with c := c } := ⟨by simp only [hc]; exact h.len, by simp only [hc]; exact h.rnd, by simp only [hc]; exact h.lon⟩
theorem jmp_kpd : ∀ (l : List Nat) {x : Ds}, Okd x → Kpd x (jmpE l x) := by
  intro l
  induction l with
  | nil => intro x h; exact Kpd.refl h
  | cons a l ih =>
    intro x h
    unfold jmpE
    have h1 : Okd { x with c := setX x.c a x.c.length } := okd_len h (setX_len _ _ _)
    exact Kpd.trans ⟨h1, by simp only [setX_len]; exact Nat.le_refl _, fun q => q⟩ (ih h1)
theorem way_kpd {N : Int → Ds → Ds} {k : Int} (hN : KpN N k) {x : Ds} (h : Okd x) : Kpd x (wayE N k x).2 ∧ (wayE N k x).1 < (wayE N k x).2.c.length ∧ (layE { op := 4 } x).1 < (layE { op := 5 } (N k (layE { op := 4 } x).2)).2.c.length := by
  obtain ⟨h1, h2⟩ := layE_kpd h { op := 4 }
  have h3 := hN _ h1.ok
  obtain ⟨h4, h5⟩ := layE_kpd h3.ok { op := 5 }
  have h6 := (h1.trans h3).trans h4
  unfold wayE
  refine ⟨⟨okd_len h4.ok (toL_len _ _ _ _), by simp only [toL_len]; exact h6.len, h6.lon⟩, by simp only [toL_len]; exact h5, ?_⟩
  have := h3.len
  have := h4.len
  omega
theorem altL_kpd {N : Int → Ds → Ds} : ∀ {ks : List Int}, (∀ k ∈ ks, KpN N k) → ∀ (l : List Nat) {x : Ds}, Okd x → Kpd x (altL N ks l x).2 := by
  intro ks
  induction ks with
  | nil => intro _ l x h; exact Kpd.refl h
  | cons k ks ih =>
    intro hN l x h
    unfold altL
    split
    · exact Kpd.refl h
    split
    · exact hN k (by simp) x h
    · have h1 := (way_kpd (hN k (by simp)) h).1
      exact h1.trans (ih (fun k' hk => hN k' (by simp [hk])) _ h1.ok)
theorem alt_kpd {N : Int → Ds → Ds} {ks : List Int} (hN : ∀ k ∈ ks, KpN N k) {x : Ds} (h : Okd x) : Kpd x (altE N ks x) := by
  have h1 := altL_kpd hN [] h
  exact h1.trans (jmp_kpd _ h1.ok)
section
variable {w0 : World} {wb m : Nat} {v cv cv1 cv2 u cvS lv : Value} {L : List Nq} {root G cs : Int} {x y : Ds} {w w1 w2 wS : World} {l : List Value} {ls : List Nat}
theorem Ul.stp (h : Ul w0 wb v L root G cs cvS wS lv ls x cv w) (q : Dw w0 wb v L root G cs y cv1 w1 ∧ Adw wb cv w cv1 w1) (hy : Okd y) : Ul w0 wb v L root G cs cvS wS lv ls y cv1 w1 :=
  ⟨q.1, hy, h.ad.trans q.2, row_fr h.row q.2.fr (fun j hj z => z.elim (h.offw j hj).2.1 (h.offw j hj).2.2), h.new⟩
theorem Ul.snc (h : Ul w0 wb v L root G cs cvS wS lv ls x cv w) {a n : Nat} (hn : ls.length = n) (k : Kp w w1) {g cap : Nat}
    (hown : w2.ownsRow w0.heap.size 3 1 (.slice (some ⟨g, 0, none⟩) (n + 1) cap) (n + 1) (nums ls ++ [.int .i64 a])) (hg : w1.grownBy w2 lv.ownBlock) (hat : lv.ownBlock = some g ∨ g = w1.heap.size) :
    Ul w0 wb v L root G cs cvS wS (.slice (some ⟨g, 0, none⟩) (n + 1) cap) (ls ++ [a]) x cv w2 := by
  have f1 : Fr (fun j => lv.ownBlock = some j) w w2 := ⟨hg.os.trans k.os, hg.tape.trans k.tape, hg.output.trans k.output, Nat.le_trans k.size hg.size, fun j hj hn => by
    rw [hg.block j (Nat.lt_of_lt_of_le hj k.size) (fun e => hn e.symm)]; exact k.block j hj⟩
  refine ⟨h.dw.off f1 h.offw, h.ok, ⟨h.ad.fr.trans' f1 fun j hj q => by have := h.new j q; omega, h.ad.own⟩, ?_, ?_⟩
  · unfold KRow
    rw [show (ls ++ [a]).length = n + 1 by simp [hn], show nums (ls ++ [a]) = nums ls ++ [.int .i64 a] by simp [nums]]
    exact hown
  · intro j hj
    simp only [Value.ownBlock, Option.some.injEq] at hj
    subst hj
    rcases hat with e | e
    · exact h.new g e
    · rw [e]; exact Nat.le_trans h.ad.fr.size k.size
set_option maxHeartbeats 8000000 in
set_option maxRecDepth 100000 in
theorem dalt_any (h : Dw w0 wb v L root G cs x cv w) (hx : Okd x) {N : Int → Ds → Ds} {ks : List Int} (hN : ∀ k ∈ ks, KpN N k) (HNC : ∀ k ∈ ks, NodeC w0 wb v L root G cs N k) {kv : Value} (hks : Ks w0 kv ks) (hk9 : ks.length ≤ 1000000) :
    Calls Tryz.prog 116 #[.pointer (some ⟨wb, 0, none⟩), kv] w fun e w' => e = .returned (.tuple #[]) ∧ Lay w0 wb v L root G cs cv w (altE N ks x) w' := by
  obtain ⟨R, hR⟩ : ∃ R, altE N ks x = R := ⟨_, rfl⟩
  rw [hR]
  obtain ⟨⟨tl, tx⟩, htt⟩ : ∃ X, altL N ks [] x = X := ⟨_, rfl⟩
  have HRT : Hid (R = jmpE tl tx) := by
    show _ = _
    rw [← hR]; unfold altE; rw [htt]
  obtain ⟨ka, kc, rfl, k1, k2, hxx⟩ := id hks
  clear hxx hR
  obtain ⟨M, hM⟩ : ∃ M, ks.length = M := ⟨_, rfl⟩
  rw [hM] at hks k1 hk9 ⊢
  have HM : Hid (ks.length = M) := hM
  have HKS : Hid (Ks w0 (.slice ka M kc) ks) := hks
  have HN : Hid (∀ k ∈ ks, KpN N k ∧ NodeC w0 wb v L root G cs N k) := fun k hk => ⟨hN k hk, HNC k hk⟩
  have HS0 : Hid (Ul w0 wb v L root G cs cv w (.slice none 0 0) [] x cv w ∧ altL N ks [] x = (tl, tx)) := ⟨⟨h, hx, Adw.refl _ _ _, leaf_row _ _, fun j hj => by cases hj⟩, htt⟩
  obtain ⟨i9, hi9, z0, z1, z2⟩ := info_parts infoInt
  unfold maxLen at k2
  clear h hx hN HNC hks hM htt
  go_enter Tryz.func116, Tryz.ntmps116
  go_wp2_with fail
  go_loopw [4, 5] (fun v4 v5 wr => ∃ i : Nat, i ≤ M ∧ v5 = .int .i64 i ∧ Hid (∃ ls xr cvr, Ul w0 wb v L root G cs cv w v4 ls xr cvr wr ∧ altL N (ks.drop i) ls xr = (tl, tx) ∧ (∀ a ∈ ls, a < xr.c.length) ∧ ls.length = i)) (fun _ v5 _ => M - (intOf v5).toNat)
  case atStart => exact ⟨0, Nat.zero_le _, rfl, [], x, cv, HS0.out.1, HS0.out.2, by simp, rfl⟩
  case round =>
    clear HS0
    obtain ⟨i, hi, rfl, ls, xr, cvr, hq⟩ := hrel
    obtain ⟨la, lc, rfl, l1, l2⟩ := owns_form hq.1.row
    obtain ⟨Ln, hLn⟩ : ∃ Ln, ls.length = Ln := ⟨_, rfl⟩
    rw [hLn] at hq l1 ⊢
    have HQ : Hid (Ul w0 wb v L root G cs cv w (.slice la Ln lc) ls xr cvr wr ∧ altL N (ks.drop i) ls xr = (tl, tx) ∧ (∀ a ∈ ls, a < xr.c.length) ∧ Ln = i) := hq
    have HLn : Hid (ls.length = Ln) := hLn
    clear hq hLn
    unfold maxLen at l2
    have hLn6 : Ln ≤ 1000000 := by have := HQ.out.2.2.2; omega
    obtain ⟨g, hg⟩ : ∃ g, xr.lg = g := ⟨_, rfl⟩
    have c6 : wr.cell? ⟨wb, 6, none⟩ = some (.bool g) := by rw [← hg]; exact HQ.out.1.dw.st.at rfl
    have HG : Hid (xr.lg = g) := hg
    clear hg
    by_cases hlt : i < M
    · have dl : decide ((i : Int) < (M : Int)) = true := decide_eq_true (by omega)
      have dn : decide (i < M) = true := decide_eq_true hlt
      obtain ⟨k, hk⟩ : ∃ k, ks[i]? = some k := ⟨_, List.getElem?_eq_getElem (by have := HM.out; omega)⟩
      have hkm : k ∈ ks := List.mem_of_getElem? hk
      obtain ⟨kb, ko, rfl, ck⟩ := (HKS.out.kp HQ.out.1.dw.kp).cell hk
      have hdr : ks.drop i = k :: ks.drop (i + 1) := by
        obtain ⟨hl, he⟩ := List.getElem?_eq_some_iff.1 hk
        rw [← he]; exact List.drop_eq_getElem_cons hl
      have HDR : Hid (ks.drop i = k :: ks.drop (i + 1)) := hdr
      have HNK : Hid (KpN N k ∧ NodeC w0 wb v L root G cs N k) := HN.out k hkm
      have hiM : (0 : Int) ≤ (i : Int) ∧ (i : Int) < (M : Int) := by omega
      clear hk hkm hdr
      cases g with
      | true =>
        have HTE : Hid (tl = ls ∧ tx = xr) := by
          have e := HQ.out.2.1
          rw [HDR.out, altL, HG.out] at e
          injection e with e1 e2
          exact ⟨e1.symm, e2.symm⟩
        have HS3 : Hid (Ul w0 wb v L root G cs cv w (.slice la Ln lc) ls xr cvr _ ∧ jmpE ls xr = R ∧ (∀ a ∈ ls, a < (xr).c.length)) := ⟨HQ.out.1, by rw [HRT.out, HTE.out.1, HTE.out.2], HQ.out.2.2.1⟩
        go_wp2_with fail
        go_loopw [7] (fun v7 wr => ∃ j : Nat, j ≤ Ln ∧ v7 = .int .i64 j ∧ Hid (∃ xq cvq, Ul w0 wb v L root G cs cv w (.slice la Ln lc) ls xq cvq wr ∧ jmpE (ls.drop j) xq = R ∧ (∀ a ∈ ls, a < xq.c.length))) (fun v7 _ => Ln - (intOf v7).toNat)
        case atStart => exact ⟨0, Nat.zero_le _, rfl, _, _, HS3.out.1, HS3.out.2.1, HS3.out.2.2⟩
        case round =>
        clear HQ HS3
        obtain ⟨j, hj, rfl, xq, cvq, hq⟩ := hrel
        have HQ : Hid (Ul w0 wb v L root G cs cv w (.slice la Ln lc) ls xq cvq wr ∧ jmpE (ls.drop j) xq = R ∧ (∀ a ∈ ls, a < xq.c.length)) := hq
        clear hq
        by_cases hjl : j < Ln
        · have dl : decide ((j : Int) < (Ln : Int)) = true := decide_eq_true (by omega)
          have dn : decide (j < Ln) = true := decide_eq_true hjl
          have hjs : j < ls.length := by rw [HLn.out]; exact hjl
          obtain ⟨a3, ha3⟩ : ∃ a, ls[j]? = some a := ⟨_, List.getElem?_eq_getElem hjs⟩
          have hmem : a3 ∈ ls := List.mem_of_getElem? ha3
          have hmap : (ls.map fun (k : Nat) => (k : Int))[j]? = some (a3 : Int) := by rw [List.getElem?_map, ha3]; rfl
          have hdr : ls.drop j = a3 :: ls.drop (j + 1) := by
            obtain ⟨hl, he⟩ := List.getElem?_eq_some_iff.1 ha3
            rw [← he]; exact List.drop_eq_getElem_cons hl
          obtain ⟨lb, lo, rfl, lcel⟩ := (krow_ks HQ.out.1.row).cell hmap
          obtain ⟨d, hd⟩ : ∃ d, xq.c[a3]? = some d := ⟨_, List.getElem?_eq_getElem (HQ.out.2.2 a3 hmem)⟩
          obtain ⟨gb, cc, hca, v1, v2, hgw, hgc⟩ := HQ.out.1.dw.spot hd
          obtain ⟨C, hC⟩ : ∃ C, xq.c.length = C := ⟨_, rfl⟩
          rw [hC] at hca v1
          subst hca
          obtain ⟨e6, z6⟩ := hgc 6 _ rfl
          have c4 : wr.cell? ⟨wb, 4, none⟩ = some (.slice (some ⟨gb, 0, none⟩) C cc) := HQ.out.1.dw.st.at rfl
          have hCa : a3 < C := by rw [← hC]; exact HQ.out.2.2 a3 hmem
          have hC2 : C ≤ 2001 := by rw [← hC]; exact HQ.out.1.ok.len
          have hCb : (0 : Int) ≤ (a3 : Int) ∧ (a3 : Int) < (C : Int) := by omega
          have hjN : (0 : Int) ≤ (j : Int) ∧ (j : Int) < (Ln : Int) := by omega
          have H9 : Hid (Ul w0 wb v L root G cs cv w (.slice (some ⟨lb, lo, none⟩) Ln lc) ls { xq with c := setX xq.c a3 C } (.slice (some ⟨gb, 0, none⟩) C cc) (wr.setCell ⟨gb, a3 * 8 + 6, none⟩ (.int .i64 C))) := by
            have q := HQ.out.1.dw.put hd 6 (by omega) (.int .i64 C) { d with x := C } rfl
            have e : setX xq.c a3 C = xq.c.set a3 { d with x := C } := by unfold setX; rw [hd]
            rw [e]
            exact HQ.out.1.stp q (okd_len HQ.out.1.ok (List.length_set ..))
          have HE9 : Hid (jmpE (ls.drop (j + 1)) { xq with c := setX xq.c a3 C } = R ∧ ∀ a ∈ ls, a < (setX xq.c a3 C).length) := by
            have e := HQ.out.2.1
            rw [hdr, jmpE, hC] at e
            exact ⟨e, fun a ha => by rw [setX_len]; exact HQ.out.2.2 a ha⟩
          unfold maxLen at v2
          clear hjs ha3 hmem hmap hdr hC hd hgc
          go_wp2_with fail
          go_region
          have HX9 : Hid (Ul w0 wb v L root G cs cv w (.slice (some ⟨lb, lo, none⟩) Ln lc) ls { xq with c := setX xq.c a3 C } (.slice (some ⟨gb, 0, none⟩) C cc) (wr.setCell ⟨gb, a3 * 8 + 6, none⟩ (.int .i64 C)).drew) := H9.out.kp (kp_drew _)
          clear c4 e6 z6 lcel
          go_wp2_with fail
          go_roundw
          case rel => exact ⟨j + 1, by omega, by go_num, _, _, HX9.out, HE9.out.1, HE9.out.2⟩
          case measure => simp only [intOf]; omega
        · obtain rfl : j = Ln := by omega
          have dl : decide ((j : Int) < (j : Int)) = false := by simp
          have HRX : Hid (R = xq) := by
            have e := HQ.out.2.1
            rw [List.drop_eq_nil_of_le (Nat.le_of_eq HLn.out), jmpE] at e
            exact e.symm
          go_wp2_with fail
          go_end0
          rw [HRX.out]
          exact ⟨rfl, _, HQ.out.1.dw, HQ.out.1.ad⟩
      | false =>
      by_cases hlast : i + 1 = M
      · have el : ((i : Int) == (M : Int) - 1) = true := by simp; omega
        have HC : Hid (Calls Tryz.prog 80 #[.pointer (some ⟨wb, 0, none⟩), .int .i64 k] wr fun e w' => e = .returned (.tuple #[]) ∧ Lay w0 wb v L root G cs cvr wr (N k xr) w') := HNK.out.2 _ _ _ HQ.out.1.dw HQ.out.1.ok
        have HTE : Hid (tl = ls ∧ tx = N k xr) := by
          have e := HQ.out.2.1
          rw [HDR.out, altL, HG.out, List.drop_eq_nil_of_le (by have := HM.out; omega)] at e
          simp only [Bool.false_eq_true, if_false, if_true] at e
          injection e with e1 e2
          exact ⟨e1.symm, e2.symm⟩
        go_wp2_with fail
        refine Calls.mono HC.out ?_
        rintro e w5 ⟨rfl, cv5, q1, q2⟩
        have H5 : Hid (Ul w0 wb v L root G cs cv w (.slice la Ln lc) ls (N k xr) cv5 w5) := HQ.out.1.stp ⟨q1, q2⟩ (HNK.out.1 _ HQ.out.1.ok).ok
        have HB5 : Hid (∀ a ∈ ls, a < (N k xr).c.length) := fun a ha => Nat.lt_of_lt_of_le (HQ.out.2.2.1 a ha) (HNK.out.1 _ HQ.out.1.ok).len
        clear q1 q2 HC c6 ck
        have HS3 : Hid (Ul w0 wb v L root G cs cv w (.slice la Ln lc) ls (N k xr) cv5 _ ∧ jmpE ls (N k xr) = R ∧ (∀ a ∈ ls, a < ((N k xr)).c.length)) := ⟨H5.out, by rw [HRT.out, HTE.out.1, HTE.out.2], HB5.out⟩
        go_wp2_with fail
        go_loopw [7] (fun v7 wr => ∃ j : Nat, j ≤ Ln ∧ v7 = .int .i64 j ∧ Hid (∃ xq cvq, Ul w0 wb v L root G cs cv w (.slice la Ln lc) ls xq cvq wr ∧ jmpE (ls.drop j) xq = R ∧ (∀ a ∈ ls, a < xq.c.length))) (fun v7 _ => Ln - (intOf v7).toNat)
        case atStart => exact ⟨0, Nat.zero_le _, rfl, _, _, HS3.out.1, HS3.out.2.1, HS3.out.2.2⟩
        case round =>
        clear HQ HS3
        obtain ⟨j, hj, rfl, xq, cvq, hq⟩ := hrel
        have HQ : Hid (Ul w0 wb v L root G cs cv w (.slice la Ln lc) ls xq cvq wr ∧ jmpE (ls.drop j) xq = R ∧ (∀ a ∈ ls, a < xq.c.length)) := hq
        clear hq
        by_cases hjl : j < Ln
        · have dl : decide ((j : Int) < (Ln : Int)) = true := decide_eq_true (by omega)
          have dn : decide (j < Ln) = true := decide_eq_true hjl
          have hjs : j < ls.length := by rw [HLn.out]; exact hjl
          obtain ⟨a3, ha3⟩ : ∃ a, ls[j]? = some a := ⟨_, List.getElem?_eq_getElem hjs⟩
          have hmem : a3 ∈ ls := List.mem_of_getElem? ha3
          have hmap : (ls.map fun (k : Nat) => (k : Int))[j]? = some (a3 : Int) := by rw [List.getElem?_map, ha3]; rfl
          have hdr : ls.drop j = a3 :: ls.drop (j + 1) := by
            obtain ⟨hl, he⟩ := List.getElem?_eq_some_iff.1 ha3
            rw [← he]; exact List.drop_eq_getElem_cons hl
          obtain ⟨lb, lo, rfl, lcel⟩ := (krow_ks HQ.out.1.row).cell hmap
          obtain ⟨d, hd⟩ : ∃ d, xq.c[a3]? = some d := ⟨_, List.getElem?_eq_getElem (HQ.out.2.2 a3 hmem)⟩
          obtain ⟨gb, cc, hca, v1, v2, hgw, hgc⟩ := HQ.out.1.dw.spot hd
          obtain ⟨C, hC⟩ : ∃ C, xq.c.length = C := ⟨_, rfl⟩
          rw [hC] at hca v1
          subst hca
          obtain ⟨e6, z6⟩ := hgc 6 _ rfl
          have c4 : wr.cell? ⟨wb, 4, none⟩ = some (.slice (some ⟨gb, 0, none⟩) C cc) := HQ.out.1.dw.st.at rfl
          have hCa : a3 < C := by rw [← hC]; exact HQ.out.2.2 a3 hmem
          have hC2 : C ≤ 2001 := by rw [← hC]; exact HQ.out.1.ok.len
          have hCb : (0 : Int) ≤ (a3 : Int) ∧ (a3 : Int) < (C : Int) := by omega
          have hjN : (0 : Int) ≤ (j : Int) ∧ (j : Int) < (Ln : Int) := by omega
          have H9 : Hid (Ul w0 wb v L root G cs cv w (.slice (some ⟨lb, lo, none⟩) Ln lc) ls { xq with c := setX xq.c a3 C } (.slice (some ⟨gb, 0, none⟩) C cc) (wr.setCell ⟨gb, a3 * 8 + 6, none⟩ (.int .i64 C))) := by
            have q := HQ.out.1.dw.put hd 6 (by omega) (.int .i64 C) { d with x := C } rfl
            have e : setX xq.c a3 C = xq.c.set a3 { d with x := C } := by unfold setX; rw [hd]
            rw [e]
            exact HQ.out.1.stp q (okd_len HQ.out.1.ok (List.length_set ..))
          have HE9 : Hid (jmpE (ls.drop (j + 1)) { xq with c := setX xq.c a3 C } = R ∧ ∀ a ∈ ls, a < (setX xq.c a3 C).length) := by
            have e := HQ.out.2.1
            rw [hdr, jmpE, hC] at e
            exact ⟨e, fun a ha => by rw [setX_len]; exact HQ.out.2.2 a ha⟩
          unfold maxLen at v2
          clear hjs ha3 hmem hmap hdr hC hd hgc
          go_wp2_with fail
          go_region
          have HX9 : Hid (Ul w0 wb v L root G cs cv w (.slice (some ⟨lb, lo, none⟩) Ln lc) ls { xq with c := setX xq.c a3 C } (.slice (some ⟨gb, 0, none⟩) C cc) (wr.setCell ⟨gb, a3 * 8 + 6, none⟩ (.int .i64 C)).drew) := H9.out.kp (kp_drew _)
          clear c4 e6 z6 lcel
          go_wp2_with fail
          go_roundw
          case rel => exact ⟨j + 1, by omega, by go_num, _, _, HX9.out, HE9.out.1, HE9.out.2⟩
          case measure => simp only [intOf]; omega
        · obtain rfl : j = Ln := by omega
          have dl : decide ((j : Int) < (j : Int)) = false := by simp
          have HRX : Hid (R = xq) := by
            have e := HQ.out.2.1
            rw [List.drop_eq_nil_of_le (Nat.le_of_eq HLn.out), jmpE] at e
            exact e.symm
          go_wp2_with fail
          go_end0
          rw [HRX.out]
          exact ⟨rfl, _, HQ.out.1.dw, HQ.out.1.ad⟩
      · have el : ((i : Int) == (M : Int) - 1) = false := by simp; omega
        obtain ⟨⟨a1, x1⟩, h1⟩ : ∃ X, layE { op := 4 } xr = X := ⟨_, rfl⟩
        obtain ⟨x2, h2⟩ : ∃ X, N k x1 = X := ⟨_, rfl⟩
        obtain ⟨⟨a3, x3⟩, h3⟩ : ∃ X, layE { op := 5 } x2 = X := ⟨_, rfl⟩
        have HW : Hid (wayE N k xr = (a3, { x3 with c := toL x3.c a1 x3.c.length false })) := by
          show _ = _
          unfold wayE
          rw [h1]
          simp only
          rw [h2, h3]
        have HK : Hid (Okd x1 ∧ Okd x2 ∧ Okd x3 ∧ a1 < x3.c.length ∧ Kpd xr { x3 with c := toL x3.c a1 x3.c.length false } ∧ a3 < x3.c.length) := by
          have e1 := (layE_kpd HQ.out.1.ok { op := 4 }).1
          rw [h1] at e1
          have e2 := HNK.out.1 _ e1.ok
          simp only at e2
          rw [h2] at e2
          have e3 := layE_kpd e2.ok { op := 5 }
          rw [h3] at e3
          have e4 := way_kpd HNK.out.1 HQ.out.1.ok
          rw [HW.out, h1] at e4
          simp only at e4
          rw [h2, h3] at e4
          exact ⟨e1.ok, e2.ok, e3.1.ok, e4.2.2, e4.1, e3.2⟩
        have HT9 : Hid (altL N (ks.drop (i + 1)) (ls ++ [a3]) { x3 with c := toL x3.c a1 x3.c.length false } = (tl, tx)) := by
          have e := HQ.out.2.1
          have hne : ¬ ks.drop (i + 1) = [] := by
            intro z
            have z1 := congrArg List.length z
            have := HM.out
            simp only [List.length_drop, List.length_nil] at z1
            omega
          rw [HDR.out, altL, HG.out, if_neg hne, HW.out] at e
          exact e
        have HC1 : Hid (Calls Tryz.prog 81 #[.pointer (some ⟨wb, 0, none⟩), .agg #[.int .u8 4, .int .u8 0, .int .u64 0, .int .u64 0, .int .u64 0, .int .u64 0, .int .i64 0, .int .i64 0]] wr fun e w' => e = .returned (.int .i64 a1) ∧ Lay w0 wb v L root G cs cvr wr x1 w') := by
          have := dlay_any HQ.out.1.dw { op := 4 }
          rw [h1] at this
          exact this
        have HL : Hid (N k x1 = x2 ∧ layE { op := 5 } x2 = (a3, x3)) := ⟨h2, h3⟩
        clear h1 h2 h3
        go_wp2_with fail
        refine Calls.mono HC1.out ?_
        rintro e w5 ⟨rfl, cv5, q1, q2⟩
        have H5 : Hid (Ul w0 wb v L root G cs cv w (.slice (la) Ln lc) ls x1 cv5 w5) := HQ.out.1.stp ⟨q1, q2⟩ HK.out.1
        have ck5 : w5.cell? ⟨kb, ko + i, none⟩ = some (.int .i64 k) := by
          obtain ⟨b', o', e', z'⟩ := (HKS.out.kp q1.kp).cell (i := i) (x := k) (by have := HDR.out; have e := congrArg (fun l => l[0]?) this; simpa using e)
          injection e' with e'
          injection e' with e1 e2
          subst e1 e2
          exact z'
        clear q1 q2 HC1 c6 ck
        have HC2 : Hid (Calls Tryz.prog 80 #[.pointer (some ⟨wb, 0, none⟩), .int .i64 k] w5 fun e w' => e = .returned (.tuple #[]) ∧ Lay w0 wb v L root G cs cv5 w5 x2 w') := by
          have := HNK.out.2 _ _ _ H5.out.dw H5.out.ok
          rw [HL.out.1] at this
          exact this
        go_wp2_with fail
        refine Calls.mono HC2.out ?_
        rintro e w6 ⟨rfl, cv6, q1, q2⟩
        have H6 : Hid (Ul w0 wb v L root G cs cv w (.slice la Ln lc) ls x2 cv6 w6) := H5.out.stp ⟨q1, q2⟩ HK.out.2.1
        clear q1 q2 HC2 ck5
        have HC3 : Hid (Calls Tryz.prog 81 #[.pointer (some ⟨wb, 0, none⟩), .agg #[.int .u8 5, .int .u8 0, .int .u64 0, .int .u64 0, .int .u64 0, .int .u64 0, .int .i64 0, .int .i64 0]] w6 fun e w' => e = .returned (.int .i64 a3) ∧ Lay w0 wb v L root G cs cv6 w6 x3 w') := by
          have := dlay_any H6.out.dw { op := 5 }
          rw [HL.out.2] at this
          exact this
        go_upto_region 9 with (first | (go_at_call 81; refine Calls.mono HC3.out ?_; rintro e w7 ⟨rfl, cv7, q1, q2⟩; have H7 : Hid (Ul w0 wb v L root G cs cv w (.slice la Ln lc) ls x3 cv7 w7) := H6.out.stp ⟨q1, q2⟩ HK.out.2.2.1; clear q1 q2; have HOW : Hid ((w7.alloc (.cells #[.int .i64 a3] 3)).ownsRow w0.heap.size 3 1 (.slice la Ln lc) Ln (nums ls)) := (by have := row_kp H7.out.row (kp_alloc w7 (.cells #[.int .i64 a3] 3)); rw [HLn.out] at this; exact this); have HNEW : Hid (∀ p u, ([.int .i64 a3] : List Value)[p]? = some u → (w7.alloc (.cells #[.int .i64 a3] 3)).cell? ((⟨w7.heap.size, 0, none⟩ : Addr).add p) = some u) := (by intro p u hp; rw [Addr.add_lit, cell_at (alloc_new w7 _), Nat.zero_add, ← hp]; exact List.getElem?_toArray); have HONE : Hid (∀ u ∈ ([.int .i64 a3] : List Value), u.oneCell' = true) := (by intro u hu; simp only [List.mem_singleton] at hu; subst hu; rfl); have HSZ : Hid ((w7.alloc (.cells #[.int .i64 a3] 3)).heap.size = w7.heap.size + 1) := alloc_size _ _; have HBW : Hid (w0.heap.size ≤ (w7.alloc (.cells #[.int .i64 a3] 3)).heap.size) := (by have := H7.out.dw.kp.size; have := HSZ.out; show w0.heap.size ≤ _; omega)) | (at_builtin; refine wpList_append_lies _ rfl (.tmp 41) (.tmp 45) 47 rfl w0.heap.size 3 i9 _ 1 8 Tryz.underlying47 hi9 z0 z1 z2 rfl (by decide) (.slice la Ln lc) Ln (nums ls) rfl HOW.out ⟨w7.heap.size, 0, none⟩ 1 1 [.int .i64 a3] rfl rfl HNEW.out HONE.out (by omega) (by unfold maxLen; omega) (by omega) HBW.out (w7.heap.size + 1) HSZ.out ?_; intro g cp w8 hown hgrow hat hlt; have HF : Hid (Ul w0 wb v L root G cs cv w (.slice (some ⟨g, 0, none⟩) (Ln + 1) cp) (ls ++ [a3]) x3 cv7 w8) := H7.out.snc HLn.out (kp_alloc w7 _) hown hgrow (by rw [HSZ.out]; exact hat); clear hown hgrow hat hlt))
        obtain ⟨ca, cc, hca, v1, v2⟩ := owns_form HF.out.dw.row
        obtain ⟨C, hC⟩ : ∃ C, x3.c.length = C := ⟨_, rfl⟩
        rw [hC] at hca v1
        subst hca
        have c4 : w8.cell? ⟨wb, 4, none⟩ = some (.slice ca C cc) := HF.out.dw.st.at rfl
        have HC9 : Hid (Calls Tryz.prog 148 #[.pointer (some ⟨wb, 0, none⟩), .int .i64 a1, .int .i64 C, .bool false] w8 fun e w' => e = .returned (.tuple #[]) ∧ Dw w0 wb v L root G cs { x3 with c := toL x3.c a1 C false } (.slice ca C cc) w' ∧ Adw wb (.slice ca C cc) w8 (.slice ca C cc) w') := dto_any HF.out.dw HK.out.2.2.2.1 (by have := HK.out.2.2.1.len; omega) C false
        have HCC : Hid (x3.c.length = C) := hC
        clear hC
        go_wp2_with fail
        refine Calls.mono HC9.out ?_
        rintro e w9 ⟨rfl, q1, q2⟩
        have H9 : Hid (Ul w0 wb v L root G cs cv w (.slice (some ⟨g, 0, none⟩) (Ln + 1) cp) (ls ++ [a3]) { x3 with c := toL x3.c a1 C false } (.slice ca C cc) w9) := HF.out.stp ⟨q1, q2⟩ (okd_to HK.out.2.2.1 _ _ _)
        clear q1 q2 HC9 c4
        go_wp2_with fail
        go_roundw
        case rel =>
          refine ⟨i + 1, by omega, by go_num, ls ++ [a3], _, _, H9.out, by rw [← HCC.out]; exact HT9.out, ?_, ?_⟩
          · intro a ha
            simp only [toL_len]
            rcases List.mem_append.1 ha with z | z
            · have h1 := HQ.out.2.2.1 a z
              have h2 := HK.out.2.2.2.2.1.len
              simp only [toL_len] at h2
              omega
            · simp only [List.mem_singleton] at z; subst z; exact HK.out.2.2.2.2.2
          · have h1 := HLn.out
            have h2 := HQ.out.2.2.2
            simp only [List.length_append, List.length_singleton]
            omega
        case measure => simp only [intOf]; omega
    · have dl : decide ((i : Int) < (M : Int)) = false := decide_eq_false (by omega)
      have dn : decide (i < M) = false := decide_eq_false hlt
      have HTE : Hid (tl = ls ∧ tx = xr) := by
        have e := HQ.out.2.1
        rw [List.drop_eq_nil_of_le (by have := HM.out; omega), altL] at e
        injection e with e1 e2
        exact ⟨e1.symm, e2.symm⟩
      have HS3 : Hid (Ul w0 wb v L root G cs cv w (.slice la Ln lc) ls xr cvr _ ∧ jmpE ls xr = R ∧ (∀ a ∈ ls, a < (xr).c.length)) := ⟨HQ.out.1, by rw [HRT.out, HTE.out.1, HTE.out.2], HQ.out.2.2.1⟩
      go_wp2_with fail
      go_loopw [7] (fun v7 wr => ∃ j : Nat, j ≤ Ln ∧ v7 = .int .i64 j ∧ Hid (∃ xq cvq, Ul w0 wb v L root G cs cv w (.slice la Ln lc) ls xq cvq wr ∧ jmpE (ls.drop j) xq = R ∧ (∀ a ∈ ls, a < xq.c.length))) (fun v7 _ => Ln - (intOf v7).toNat)
      case atStart => exact ⟨0, Nat.zero_le _, rfl, _, _, HS3.out.1, HS3.out.2.1, HS3.out.2.2⟩
      case round =>
      clear HQ HS3
      obtain ⟨j, hj, rfl, xq, cvq, hq⟩ := hrel
      have HQ : Hid (Ul w0 wb v L root G cs cv w (.slice la Ln lc) ls xq cvq wr ∧ jmpE (ls.drop j) xq = R ∧ (∀ a ∈ ls, a < xq.c.length)) := hq
      clear hq
      by_cases hjl : j < Ln
      · have dl : decide ((j : Int) < (Ln : Int)) = true := decide_eq_true (by omega)
        have dn : decide (j < Ln) = true := decide_eq_true hjl
        have hjs : j < ls.length := by rw [HLn.out]; exact hjl
        obtain ⟨a3, ha3⟩ : ∃ a, ls[j]? = some a := ⟨_, List.getElem?_eq_getElem hjs⟩
        have hmem : a3 ∈ ls := List.mem_of_getElem? ha3
        have hmap : (ls.map fun (k : Nat) => (k : Int))[j]? = some (a3 : Int) := by rw [List.getElem?_map, ha3]; rfl
        have hdr : ls.drop j = a3 :: ls.drop (j + 1) := by
          obtain ⟨hl, he⟩ := List.getElem?_eq_some_iff.1 ha3
          rw [← he]; exact List.drop_eq_getElem_cons hl
        obtain ⟨lb, lo, rfl, lcel⟩ := (krow_ks HQ.out.1.row).cell hmap
        obtain ⟨d, hd⟩ : ∃ d, xq.c[a3]? = some d := ⟨_, List.getElem?_eq_getElem (HQ.out.2.2 a3 hmem)⟩
        obtain ⟨gb, cc, hca, v1, v2, hgw, hgc⟩ := HQ.out.1.dw.spot hd
        obtain ⟨C, hC⟩ : ∃ C, xq.c.length = C := ⟨_, rfl⟩
        rw [hC] at hca v1
        subst hca
        obtain ⟨e6, z6⟩ := hgc 6 _ rfl
        have c4 : wr.cell? ⟨wb, 4, none⟩ = some (.slice (some ⟨gb, 0, none⟩) C cc) := HQ.out.1.dw.st.at rfl
        have hCa : a3 < C := by rw [← hC]; exact HQ.out.2.2 a3 hmem
        have hC2 : C ≤ 2001 := by rw [← hC]; exact HQ.out.1.ok.len
        have hCb : (0 : Int) ≤ (a3 : Int) ∧ (a3 : Int) < (C : Int) := by omega
        have hjN : (0 : Int) ≤ (j : Int) ∧ (j : Int) < (Ln : Int) := by omega
        have H9 : Hid (Ul w0 wb v L root G cs cv w (.slice (some ⟨lb, lo, none⟩) Ln lc) ls { xq with c := setX xq.c a3 C } (.slice (some ⟨gb, 0, none⟩) C cc) (wr.setCell ⟨gb, a3 * 8 + 6, none⟩ (.int .i64 C))) := by
          have q := HQ.out.1.dw.put hd 6 (by omega) (.int .i64 C) { d with x := C } rfl
          have e : setX xq.c a3 C = xq.c.set a3 { d with x := C } := by unfold setX; rw [hd]
          rw [e]
          exact HQ.out.1.stp q (okd_len HQ.out.1.ok (List.length_set ..))
        have HE9 : Hid (jmpE (ls.drop (j + 1)) { xq with c := setX xq.c a3 C } = R ∧ ∀ a ∈ ls, a < (setX xq.c a3 C).length) := by
          have e := HQ.out.2.1
          rw [hdr, jmpE, hC] at e
          exact ⟨e, fun a ha => by rw [setX_len]; exact HQ.out.2.2 a ha⟩
        unfold maxLen at v2
        clear hjs ha3 hmem hmap hdr hC hd hgc
        go_wp2_with fail
        go_region
        have HX9 : Hid (Ul w0 wb v L root G cs cv w (.slice (some ⟨lb, lo, none⟩) Ln lc) ls { xq with c := setX xq.c a3 C } (.slice (some ⟨gb, 0, none⟩) C cc) (wr.setCell ⟨gb, a3 * 8 + 6, none⟩ (.int .i64 C)).drew) := H9.out.kp (kp_drew _)
        clear c4 e6 z6 lcel
        go_wp2_with fail
        go_roundw
        case rel => exact ⟨j + 1, by omega, by go_num, _, _, HX9.out, HE9.out.1, HE9.out.2⟩
        case measure => simp only [intOf]; omega
      · obtain rfl : j = Ln := by omega
        have dl : decide ((j : Int) < (j : Int)) = false := by simp
        have HRX : Hid (R = xq) := by
          have e := HQ.out.2.1
          rw [List.drop_eq_nil_of_le (Nat.le_of_eq HLn.out), jmpE] at e
          exact e.symm
        go_wp2_with fail
        go_end0
        rw [HRX.out]
        exact ⟨rfl, _, HQ.out.1.dw, HQ.out.1.ad⟩
end
end Go.Proofs.YtalmajiflmejcaaGreat
/- The document's writer: node. -/
namespace Go.Proofs.YtalmajiflmejcaaGreat
open Go.ChangeShapes Go.WideShapes Go.ChangeAt Go.RowKit
set_option linter.unusedVariables false
set_option linter.unusedSimpArgs false
def catE (N : Int → Ds → Ds) : List Int → Ds → Ds
  | [], x => x
  | k :: ks, x => catE N ks (N k x)
/-- A node's code, given that of its kids. -/
def stepE (N : Int → Ds → Ds) (d : Nq) (x : Ds) : Ds :=
  if d.op = 2 then (layE { op := 1, c := d.c } x).2
  else if d.op = 3 then (layE { op := 2 } x).2
  else if d.op = 4 then (layE { op := 3, set := d.set } x).2
  else if d.op = 5 then catE N d.kids x
  else if d.op = 6 then altE N d.kids x
  else if d.op = 7 then manyE N (d.kids.headD 0) d.mn.toNat d.mx d.lz x
  else if d.op = 8 then (layE { op := 6, x := 2 * d.n + 1 } (N (d.kids.headD 0) (layE { op := 6, x := 2 * d.n } x).2)).2
  else if d.op = 9 then (layE { op := 7, x := d.n } x).2
  else if d.op = 14 then (layE { op := 6, x := 20 } x).2
  else if d.op = 15 then (layE { op := 6, x := 21 } x).2
  else if d.op = 10 ∨ d.op = 11 ∨ d.op = 12 ∨ d.op = 13 then (layE { op := d.op - 2 } x).2
  else x
def nodeE (L : List Nq) : Nat → Int → Ds → Ds
  | 0, _, x => x
  | f + 1, k, x => if x.lg then x else stepE (nodeE L f) (nodeAt L k) x
/-- A tree of nodes, so high at most. -/
def Tre (L : List Nq) (G : Int) : Nat → Int → Prop
  | 0, _ => False
  | f + 1, k => hasB L k = true ∧ (kidsR (nodeAt L k) && numbR G (nodeAt L k) && timR (nodeAt L k)) = true ∧ (nodeAt L k).kids.length ≤ L.length ∧ ∀ c ∈ (nodeAt L k).kids, Tre L G f c
theorem cat_kpd {N : Int → Ds → Ds} (hN : ∀ k, KpN N k) : ∀ (ks : List Int) {x : Ds}, Okd x → Kpd x (catE N ks x) := by
  intro ks
  induction ks with
  | nil => intro x h; exact Kpd.refl h
  | cons k ks ih => intro x h; exact (hN k x h).trans (ih (hN k x h).ok)
theorem step_kpd {N : Int → Ds → Ds} (hN : ∀ k, KpN N k) (d : Nq) {x : Ds} (h : Okd x) : Kpd x (stepE N d x) := by
  unfold stepE
  by_cases p2 : d.op = 2
  · rw [if_pos p2]; exact (layE_kpd h _).1
  rw [if_neg p2]
  by_cases p3 : d.op = 3
  · rw [if_pos p3]; exact (layE_kpd h _).1
  rw [if_neg p3]
  by_cases p4 : d.op = 4
  · rw [if_pos p4]; exact (layE_kpd h _).1
  rw [if_neg p4]
  by_cases p5 : d.op = 5
  · rw [if_pos p5]; exact cat_kpd hN _ h
  rw [if_neg p5]
  by_cases p6 : d.op = 6
  · rw [if_pos p6]; exact alt_kpd (fun k _ => hN k) h
  rw [if_neg p6]
  by_cases p7 : d.op = 7
  · rw [if_pos p7]; exact many_kpd (hN _) _ _ _ h
  rw [if_neg p7]
  by_cases p8 : d.op = 8
  · rw [if_pos p8]
    have h1 := (layE_kpd h { op := 6, x := 2 * d.n }).1
    have h2 := hN (d.kids.headD 0) _ h1.ok
    exact (h1.trans h2).trans (layE_kpd h2.ok _).1
  rw [if_neg p8]
  by_cases p9 : d.op = 9
  · rw [if_pos p9]; exact (layE_kpd h _).1
  rw [if_neg p9]
  by_cases p14 : d.op = 14
  · rw [if_pos p14]; exact (layE_kpd h _).1
  rw [if_neg p14]
  by_cases p15 : d.op = 15
  · rw [if_pos p15]; exact (layE_kpd h _).1
  rw [if_neg p15]
  by_cases p10 : d.op = 10 ∨ d.op = 11 ∨ d.op = 12 ∨ d.op = 13
  · rw [if_pos p10]; exact (layE_kpd h _).1
  rw [if_neg p10]; exact Kpd.refl h
theorem node_kpd {L : List Nq} : ∀ (f : Nat) (k : Int), KpN (nodeE L f) k := by
  intro f
  induction f with
  | zero => intro k x h; exact Kpd.refl h
  | succ f ih =>
    intro k x h
    rw [nodeE]
    cases hl : x.lg with
    | true => exact Kpd.refl h
    | false => exact step_kpd ih _ h
section
variable {w0 : World} {wb : Nat} {v cv : Value} {L : List Nq} {root G cs : Int} {x : Ds} {w : World}
theorem dmany_any (h : Dw w0 wb v L root G cs x cv w) (hx : Okd x) {N : Int → Ds → Ds} {k : Int} (hN : KpN N k) (HNC : NodeC w0 wb v L root G cs N k) {d : Nq} {kv : Value} (hks : Ks w0 kv d.kids) (hk0 : d.kids[0]? = some k) (htm : 0 ≤ d.mn ∧ d.mn ≤ 60 ∧ d.mx ≤ 60 ∧ (d.mx < 0 ∨ d.mn ≤ d.mx)) :
    Calls Tryz.prog 117 #[.pointer (some ⟨wb, 0, none⟩), d.val kv] w fun e w' => e = .returned (.tuple #[]) ∧ Lay w0 wb v L root G cs cv w (manyE N k d.mn.toNat d.mx d.lz x) w' := by
  by_cases q : d.mx < 0
  · exact dmany_inf h hx hN HNC hks hk0 (mn := d.mn.toNat) (by omega) (by omega) q
  · exact dmany_fin h hx hN HNC hks hk0 (mn := d.mn.toNat) (by omega) (by omega) (mxn := d.mx.toNat) (by omega) (by omega) (by omega)
set_option maxHeartbeats 16000000 in
set_option maxRecDepth 100000 in
theorem dnode_of {f : Nat} (hG9 : G ≤ 9) (hL : L.length ≤ 1000000) (ih : ∀ k, Tre L G f k → NodeC w0 wb v L root G cs (nodeE L f) k) {k : Int} (ht : Tre L G (f + 1) k) : NodeC w0 wb v L root G cs (nodeE L (f + 1)) k := by
  intro x cv w h hx
  obtain ⟨hb, hok, hkln, hkids⟩ := ht
  obtain ⟨R, hR⟩ : ∃ R, nodeE L (f + 1) k x = R := ⟨_, rfl⟩
  rw [hR]
  have hR2 : R = if x.lg then x else stepE (nodeE L f) (nodeAt L k) x := by rw [← hR, nodeE]
  clear hR
  obtain ⟨n, b, o, vc, kv, rfl, hn, rfl, hvc, hcl, hks⟩ := h.pt.at hb
  have hk9 := Nat.le_trans hkln hL
  clear hkln
  obtain ⟨d, hd⟩ : ∃ d, nodeAt L (n : Int) = d := ⟨_, rfl⟩
  rw [hd] at hcl hks hk9 hok hkids hR2
  obtain ⟨op, c, st, mn, mx, lz, nn, ks⟩ := d
  obtain ⟨ka, kc, rfl, k1, k2, hxx⟩ := id hks
  clear hxx hd hb
  simp only at k1 hks hcl hk9 hkids
  obtain ⟨M, hM⟩ : ∃ M, ks.length = M := ⟨_, rfl⟩
  have HM : Hid (ks.length = M) := hM
  obtain ⟨Z, hZ⟩ : ∃ Z, L.length = Z := ⟨_, rfl⟩
  have HZ : Hid (L.length = Z) := hZ
  rw [hM] at hks k1 hcl hk9
  have hM9 : M ≤ 1000000 := hk9
  have HKS : Hid (Ks w0 (.slice ka M kc) ks) := hks
  have HIH : Hid (∀ k ∈ ks, NodeC w0 wb (.slice (some ⟨b, o, none⟩) L.length vc) L root G cs (nodeE L f) k) := fun k hk => ih k (hkids k hk)
  have HOK : Hid _ := hok
  have HG9 : Hid (G ≤ 9) := hG9
  have HRNG : Hid (1 ≤ op ∧ op ≤ 15) := by
    simp only [Bool.and_eq_true] at hok
    have h1 := hok.1.1
    unfold kidsR at h1
    simp only at h1
    split at h1
    · exact ⟨by omega, by omega⟩
    split at h1
    · exact ⟨by omega, by omega⟩
    · simp only [Bool.and_eq_true] at h1
      have z := of_decide_eq_true h1.2
      exact z
  have HU0 : Hid _ := Ub.new h hx ⟨op, c, st, mn, mx, lz, nn, ks⟩ (.slice ka M kc)
  have HD : Hid (Dw w0 wb (.slice (some ⟨b, o, none⟩) L.length vc) L root G cs x cv w) := h
  have c0 : w.cell? ⟨wb, 0, none⟩ = some (.slice (some ⟨b, o, none⟩) L.length vc) := h.st.at rfl
  obtain ⟨g, hg⟩ : ∃ g, x.lg = g := ⟨_, rfl⟩
  have c6 : w.cell? ⟨wb, 6, none⟩ = some (.bool g) := by rw [← hg]; exact h.st.at rfl
  rw [hg] at hR2
  rw [hZ] at c0 hn hvc hL
  cases g with
  | true =>
    have HRX : Hid (R = x) := hR2
    clear h hx hok hkids hks hcl hM hZ hR2 hg ih hG9
    go_enter Tryz.func80, Tryz.ntmps80
    go_wp2_with fail
    (try simp only [Exit.inBlock, Exit.then])
    refine bodyPost_ret (results_none rfl _ _ _) rfl ?_
    rw [HRX.out]
    exact ⟨rfl, _, HD.out, Adw.refl _ _ _⟩
  | false =>
    have HRS : Hid (R = stepE (nodeE L f) ⟨op, c, st, mn, mx, lz, nn, ks⟩ x) := hR2
    have hc1 : ∀ j u, (Nq.cells ⟨op, c, st, mn, mx, lz, nn, ks⟩ (.slice ka M kc))[j]? = some u → w.cell? ⟨b, o + n * 11 + j, none⟩ = some u := fun j u hu => kp_cell h.kp (hcl j u hu)
    have y0 := hc1 0 _ rfl
    have y1 := hc1 1 _ rfl
    have y2 := hc1 2 _ rfl
    have y3 := hc1 3 _ rfl
    have y4 := hc1 4 _ rfl
    have y5 := hc1 5 _ rfl
    have y6 := hc1 6 _ rfl
    have y7 := hc1 7 _ rfl
    have y8 := hc1 8 _ rfl
    have y9 := hc1 9 _ rfl
    have y10 := hc1 10 _ rfl
    simp only [Nat.add_zero] at y0 y1 y2 y3 y4 y5 y6 y7 y8 y9 y10
    have hn2 : (0 : Int) ≤ (n : Int) ∧ (n : Int) < (Z : Int) := by omega
    unfold maxLen at k2 hvc
    obtain ⟨m, hm⟩ : ∃ m, w.heap.size = m := ⟨_, rfl⟩
    obtain ⟨W1, hW1⟩ : ∃ W1, w.alloc (.cells #[.int .u8 op, .int .u8 c, .int .u64 st.a, .int .u64 st.b, .int .u64 st.c, .int .u64 st.d, .int .i64 mn, .int .i64 mx, .bool lz, .int .i64 nn, .slice ka M kc] 195) = W1 := ⟨_, rfl⟩
    have HU : Hid (Ub w0 wb (.slice (some ⟨b, o, none⟩) L.length vc) L root G cs cv w m (Nq.cells ⟨op, c, st, mn, mx, lz, nn, ks⟩ (.slice ka M kc)) x cv W1) := by
      rw [← hm, ← hW1]; exact HU0.out
    clear h hx hok hkids hks hcl hM hZ hR2 hg ih hG9 hc1 HU0 hk9
    go_enter Tryz.func80, Tryz.ntmps80
    go_upto_region 2 with fail
    try rw [hW1]
    try rw [hm]
    clear hW1 hm y0 y1 y2 y3 y4 y5 y6 y7 y8 y9 y10 c0 c6
    have b0 : W1.cell? ⟨m, 0, none⟩ = some (.int .u8 op) := HU.out.bx.at rfl
    have b1 : W1.cell? ⟨m, 1, none⟩ = some (.int .u8 c) := HU.out.bx.at rfl
    have b2 : W1.cell? ⟨m, 2, none⟩ = some (.int .u64 st.a) := HU.out.bx.at rfl
    have b3 : W1.cell? ⟨m, 3, none⟩ = some (.int .u64 st.b) := HU.out.bx.at rfl
    have b4 : W1.cell? ⟨m, 4, none⟩ = some (.int .u64 st.c) := HU.out.bx.at rfl
    have b5 : W1.cell? ⟨m, 5, none⟩ = some (.int .u64 st.d) := HU.out.bx.at rfl
    have b6 : W1.cell? ⟨m, 6, none⟩ = some (.int .i64 mn) := HU.out.bx.at rfl
    have b7 : W1.cell? ⟨m, 7, none⟩ = some (.int .i64 mx) := HU.out.bx.at rfl
    have b8 : W1.cell? ⟨m, 8, none⟩ = some (.bool lz) := HU.out.bx.at rfl
    have b9 : W1.cell? ⟨m, 9, none⟩ = some (.int .i64 nn) := HU.out.bx.at rfl
    have b10 : W1.cell? ⟨m, 10, none⟩ = some (.slice ka M kc) := HU.out.bx.at rfl
    by_cases p1 : op = 1
    · subst p1
      have HRX : Hid (R = x) := by
        show _ = _
        rw [HRS.out]; rfl
      go_wp2_with fail
      go_end0
      rw [HRX.out]
      exact ⟨rfl, _, HU.out.dw, HU.out.ad⟩
    by_cases p2 : op = 2
    · subst p2
      have HRX : Hid (R = (layE { op := 1, c := c } x).2) := by
        show _ = _
        rw [HRS.out]; rfl
      have HC : Hid (Calls Tryz.prog 81 #[.pointer (some ⟨wb, 0, none⟩), .agg #[.int .u8 1, .int .u8 c, .int .u64 0, .int .u64 0, .int .u64 0, .int .u64 0, .int .i64 (0), .int .i64 0]] W1 fun e w' => (∃ a, e = .returned (.int .i64 a)) ∧ Lay w0 wb (.slice (some ⟨b, o, none⟩) L.length vc) L root G cs cv w (layE { op := 1, c := c } x).2 w') := by
        have := dlay_any HU.out.dw { op := 1, c := c }
        exact Calls.mono this fun e w' q => ⟨⟨_, q.1⟩, q.2.ahead HU.out.ad⟩
      go_wp2_with fail
      refine Calls.mono HC.out ?_
      rintro e w5 ⟨⟨a5, rfl⟩, q⟩
      have H5 : Hid (Lay w0 wb (.slice (some ⟨b, o, none⟩) L.length vc) L root G cs cv w (layE { op := 1, c := c } x).2 w5) := q
      clear q HC b0 b1 b2 b3 b4 b5 b6 b7 b8 b9 b10
      go_wp2_with fail
      go_end0
      rw [HRX.out]
      exact ⟨rfl, H5.out⟩
    by_cases p3 : op = 3
    · subst p3
      have HRX : Hid (R = (layE { op := 2 } x).2) := by
        show _ = _
        rw [HRS.out]; rfl
      have HC : Hid (Calls Tryz.prog 81 #[.pointer (some ⟨wb, 0, none⟩), .agg #[.int .u8 2, .int .u8 0, .int .u64 0, .int .u64 0, .int .u64 0, .int .u64 0, .int .i64 (0), .int .i64 0]] W1 fun e w' => (∃ a, e = .returned (.int .i64 a)) ∧ Lay w0 wb (.slice (some ⟨b, o, none⟩) L.length vc) L root G cs cv w (layE { op := 2 } x).2 w') := by
        have := dlay_any HU.out.dw { op := 2 }
        exact Calls.mono this fun e w' q => ⟨⟨_, q.1⟩, q.2.ahead HU.out.ad⟩
      go_wp2_with fail
      refine Calls.mono HC.out ?_
      rintro e w5 ⟨⟨a5, rfl⟩, q⟩
      have H5 : Hid (Lay w0 wb (.slice (some ⟨b, o, none⟩) L.length vc) L root G cs cv w (layE { op := 2 } x).2 w5) := q
      clear q HC b0 b1 b2 b3 b4 b5 b6 b7 b8 b9 b10
      go_wp2_with fail
      go_end0
      rw [HRX.out]
      exact ⟨rfl, H5.out⟩
    by_cases p4 : op = 4
    · subst p4
      have HRX : Hid (R = (layE { op := 3, set := st } x).2) := by
        show _ = _
        rw [HRS.out]; rfl
      have HC : Hid (Calls Tryz.prog 81 #[.pointer (some ⟨wb, 0, none⟩), .agg #[.int .u8 3, .int .u8 0, .int .u64 st.a, .int .u64 st.b, .int .u64 st.c, .int .u64 st.d, .int .i64 (0), .int .i64 0]] W1 fun e w' => (∃ a, e = .returned (.int .i64 a)) ∧ Lay w0 wb (.slice (some ⟨b, o, none⟩) L.length vc) L root G cs cv w (layE { op := 3, set := st } x).2 w') := by
        have := dlay_any HU.out.dw { op := 3, set := st }
        exact Calls.mono this fun e w' q => ⟨⟨_, q.1⟩, q.2.ahead HU.out.ad⟩
      go_wp2_with fail
      refine Calls.mono HC.out ?_
      rintro e w5 ⟨⟨a5, rfl⟩, q⟩
      have H5 : Hid (Lay w0 wb (.slice (some ⟨b, o, none⟩) L.length vc) L root G cs cv w (layE { op := 3, set := st } x).2 w5) := q
      clear q HC b0 b1 b2 b3 b4 b5 b6 b7 b8 b9 b10
      go_wp2_with fail
      go_end0
      rw [HRX.out]
      exact ⟨rfl, H5.out⟩
    by_cases p5 : op = 5
    · subst p5
      have HRX : Hid (R = catE (nodeE L f) ks x) := by
        show _ = _
        rw [HRS.out]; rfl
      go_wp2_with fail
      clear b0 b1 b2 b3 b4 b5 b6 b7 b8 b9 b10
      go_loopw [5] (fun v5 wr => ∃ i : Nat, i ≤ M ∧ v5 = .int .i64 i ∧ Hid (∃ xr cvr, Ub w0 wb (.slice (some ⟨b, o, none⟩) L.length vc) L root G cs cv w m (Nq.cells ⟨5, c, st, mn, mx, lz, nn, ks⟩ (.slice ka M kc)) xr cvr wr ∧ catE (nodeE L f) (ks.drop i) xr = R)) (fun v5 _ => M - (intOf v5).toNat)
      case atStart => exact ⟨0, Nat.zero_le _, rfl, x, cv, HU.out, HRX.out.symm⟩
      case round =>
        obtain ⟨i, hi, rfl, xr, cvr, hq⟩ := hrel
        have HQ : Hid (Ub w0 wb (.slice (some ⟨b, o, none⟩) L.length vc) L root G cs cv w m (Nq.cells ⟨5, c, st, mn, mx, lz, nn, ks⟩ (.slice ka M kc)) xr cvr wr ∧ catE (nodeE L f) (ks.drop i) xr = R) := hq
        clear hq
        have b10 : wr.cell? ⟨m, 10, none⟩ = some (.slice ka M kc) := HQ.out.1.bx.at rfl
        by_cases hlt : i < M
        · have dl : decide ((i : Int) < (M : Int)) = true := decide_eq_true (by omega)
          have dn : decide (i < M) = true := decide_eq_true hlt
          obtain ⟨k, hk⟩ : ∃ k, ks[i]? = some k := ⟨_, List.getElem?_eq_getElem (by have := HM.out; omega)⟩
          obtain ⟨kb, ko, rfl, ck⟩ := (HKS.out.kp HQ.out.1.dw.kp).cell hk
          have hdr : ks.drop i = k :: ks.drop (i + 1) := by
            obtain ⟨hl, he⟩ := List.getElem?_eq_some_iff.1 hk
            rw [← he]; exact List.drop_eq_getElem_cons hl
          have HC : Hid (Calls Tryz.prog 80 #[.pointer (some ⟨wb, 0, none⟩), .int .i64 k] wr fun e w' => e = .returned (.tuple #[]) ∧ Lay w0 wb (.slice (some ⟨b, o, none⟩) L.length vc) L root G cs cvr wr (nodeE L f k xr) w') := HIH.out k (List.mem_of_getElem? hk) _ _ _ HQ.out.1.dw HQ.out.1.ok
          have HE : Hid (catE (nodeE L f) (ks.drop (i + 1)) (nodeE L f k xr) = R) := by
            have e := HQ.out.2
            rw [hdr, catE] at e
            exact e
          have hiM : (0 : Int) ≤ (i : Int) ∧ (i : Int) < (M : Int) := by omega
          clear hk hdr
          go_wp2_with fail
          refine Calls.mono HC.out ?_
          rintro e w5 ⟨rfl, q1⟩
          have H5 : Hid (∃ cv', Ub w0 wb (.slice (some ⟨b, o, none⟩) L.length vc) L root G cs cv w m (Nq.cells ⟨5, c, st, mn, mx, lz, nn, ks⟩ (.slice (some ⟨kb, ko, none⟩) M kc)) (nodeE L f k xr) cv' w5) := HQ.out.1.step q1 (node_kpd f k _ HQ.out.1.ok).ok
          clear q1 b10 ck HC
          go_wp2_with fail
          go_roundw
          case rel =>
            obtain ⟨cv', q⟩ := H5.out
            exact ⟨_, _, _, _, _, _, _, _, _, _, _, _, _, _, _, ⟨i + 1, by omega, by go_num, _, cv', q, HE.out⟩, rfl⟩
          case measure =>
            show M - (intOf (Value.int .i64 ((i : Int) + 1))).toNat < M - (intOf (Value.int .i64 (i : Int))).toNat
            simp only [intOf]
            omega
        · obtain rfl : i = M := by omega
          have dl : decide ((i : Int) < (i : Int)) = false := by simp
          have HRX : Hid (R = xr) := by
            have e := HQ.out.2
            rw [List.drop_eq_nil_of_le (Nat.le_of_eq HM.out), catE] at e
            exact e.symm
          go_wp2_with fail
          go_end0
          rw [HRX.out]
          exact ⟨rfl, _, HQ.out.1.dw, HQ.out.1.ad⟩
    by_cases p6 : op = 6
    · subst p6
      have HRX : Hid (R = altE (nodeE L f) ks x) := by
        show _ = _
        rw [HRS.out]; rfl
      have HC : Hid (Calls Tryz.prog 116 #[.pointer (some ⟨wb, 0, none⟩), .slice ka M kc] W1 fun e w' => e = .returned (.tuple #[]) ∧ Lay w0 wb (.slice (some ⟨b, o, none⟩) L.length vc) L root G cs cv w (altE (nodeE L f) ks x) w') := by
        have := dalt_any HU.out.dw HU.out.ok (N := nodeE L f) (fun k _ => node_kpd f k) HIH.out HKS.out (by rw [HM.out]; exact hM9)
        exact Calls.mono this fun e w' q => ⟨q.1, q.2.ahead HU.out.ad⟩
      go_wp2_with fail
      refine Calls.mono HC.out ?_
      rintro e w5 ⟨rfl, q⟩
      have H5 : Hid (Lay w0 wb (.slice (some ⟨b, o, none⟩) L.length vc) L root G cs cv w (altE (nodeE L f) ks x) w5) := q
      clear q HC b0 b1 b2 b3 b4 b5 b6 b7 b8 b9 b10
      go_wp2_with fail
      go_end0
      rw [HRX.out]
      exact ⟨rfl, H5.out⟩
    by_cases p7 : op = 7
    · subst p7
      have HRX : Hid (R = manyE (nodeE L f) (ks.headD 0) mn.toNat mx lz x) := by
        show _ = _
        rw [HRS.out]; rfl
      have HC : Hid (Calls Tryz.prog 117 #[.pointer (some ⟨wb, 0, none⟩), .agg #[.int .u8 7, .int .u8 c, .int .u64 st.a, .int .u64 st.b, .int .u64 st.c, .int .u64 st.d, .int .i64 mn, .int .i64 mx, .bool lz, .int .i64 nn, .slice ka M kc]] W1 fun e w' => e = .returned (.tuple #[]) ∧ Lay w0 wb (.slice (some ⟨b, o, none⟩) L.length vc) L root G cs cv w (manyE (nodeE L f) (ks.headD 0) mn.toNat mx lz x) w') := by
        have hkr := HOK.out
        simp only [Bool.and_eq_true] at hkr
        have hln : ks.length = 1 := by have := hkr.1.1; unfold kidsR at this; rw [if_pos (.inl rfl), beq_iff_eq] at this; exact this
        have htm : 0 ≤ mn ∧ mn ≤ 60 ∧ mx ≤ 60 ∧ (mx < 0 ∨ mn ≤ mx) := by have := hkr.2; unfold timR at this; rw [if_pos rfl] at this; exact of_decide_eq_true this
        obtain ⟨k, hk⟩ : ∃ k, ks[0]? = some k := ⟨_, List.getElem?_eq_getElem (by omega)⟩
        have hkh : ks.headD 0 = k := by
          cases hq : ks with
          | nil => rw [hq] at hk; cases hk
          | cons a r => rw [hq] at hk; simp at hk; exact hk
        have := dmany_any HU.out.dw HU.out.ok (node_kpd f k) (HIH.out k (List.mem_of_getElem? hk)) (d := ⟨7, c, st, mn, mx, lz, nn, ks⟩) (kv := .slice ka M kc) HKS.out hk htm
        rw [hkh]
        exact Calls.mono this fun e w' q => ⟨q.1, q.2.ahead HU.out.ad⟩
      go_wp2_with fail
      refine Calls.mono HC.out ?_
      rintro e w5 ⟨rfl, q⟩
      have H5 : Hid (Lay w0 wb (.slice (some ⟨b, o, none⟩) L.length vc) L root G cs cv w (manyE (nodeE L f) (ks.headD 0) mn.toNat mx lz x) w5) := q
      clear q HC b0 b1 b2 b3 b4 b5 b6 b7 b8 b9 b10
      go_wp2_with fail
      go_end0
      rw [HRX.out]
      exact ⟨rfl, H5.out⟩
    by_cases p8 : op = 8
    · subst p8
      have hkr := HOK.out
      simp only [Bool.and_eq_true] at hkr
      have hln : ks.length = 1 := by have := hkr.1.1; unfold kidsR at this; rw [if_pos (.inr rfl), beq_iff_eq] at this; exact this
      have hnr : 1 ≤ nn ∧ nn ≤ G := by have := hkr.1.2; unfold numbR at this; rw [if_pos (.inl rfl)] at this; exact of_decide_eq_true this
      have hn9 : 1 ≤ nn ∧ nn ≤ 9 := ⟨hnr.1, by have := HG9.out; omega⟩
      clear hkr hnr
      obtain ⟨k, hk⟩ : ∃ k, ks[0]? = some k := ⟨_, List.getElem?_eq_getElem (by omega)⟩
      obtain ⟨kb, ko, rfl, ck0⟩ := HKS.out.cell hk
      have HCK : Hid (w0.cell? ⟨kb, ko, none⟩ = some (.int .i64 k)) := by rw [Nat.add_zero] at ck0; exact ck0
      have hM1 : M = 1 := by rw [← HM.out]; exact hln
      have HKH : Hid (ks.headD 0 = k ∧ k ∈ ks) := by
        refine ⟨?_, List.mem_of_getElem? hk⟩
        cases hq : ks with
        | nil => rw [hq] at hk; cases hk
        | cons a r => rw [hq] at hk; simp at hk; exact hk
      clear hk hln ck0
      subst hM1
      obtain ⟨x2, h2⟩ : ∃ X, (layE { op := 6, x := 2 * nn } x).2 = X := ⟨_, rfl⟩
      have HO2 : Hid (Okd x2) := by rw [← h2]; exact (layE_kpd HU.out.ok _).1.ok
      have HC : Hid (Calls Tryz.prog 81 #[.pointer (some ⟨wb, 0, none⟩), .agg #[.int .u8 6, .int .u8 0, .int .u64 0, .int .u64 0, .int .u64 0, .int .u64 0, .int .i64 (2 * nn), .int .i64 0]] W1 fun e w' => (∃ a, e = .returned (.int .i64 a)) ∧ Lay w0 wb (.slice (some ⟨b, o, none⟩) L.length vc) L root G cs cv W1 x2 w') := by
        have := dlay_any HU.out.dw { op := 6, x := 2 * nn }
        rw [h2] at this
        exact Calls.mono this fun e w' q => ⟨⟨_, q.1⟩, q.2⟩
      have HRX : Hid (R = (layE { op := 6, x := 2 * nn + 1 } (nodeE L f k x2)).2) := by
        show _ = _
        rw [HRS.out, ← h2, ← HKH.out.1]; rfl
      clear h2
      go_wp2_with fail
      refine Calls.mono HC.out ?_
      rintro e w5 ⟨⟨a5, rfl⟩, q⟩
      obtain ⟨cv5, q2⟩ := HU.out.step q HO2.out
      have H5 : Hid (Ub w0 wb (.slice (some ⟨b, o, none⟩) L.length vc) L root G cs cv w m (Nq.cells ⟨8, c, st, mn, mx, lz, nn, ks⟩ (.slice (some ⟨kb, ko, none⟩) 1 kc)) x2 cv5 w5) := q2
      clear q q2 HC b0 b1 b2 b3 b4 b5 b6 b7 b8 b9 b10
      have b10 : w5.cell? ⟨m, 10, none⟩ = some (.slice (some ⟨kb, ko, none⟩) 1 kc) := H5.out.bx.at rfl
      have ck : w5.cell? ⟨kb, ko, none⟩ = some (.int .i64 k) := kp_cell H5.out.dw.kp HCK.out
      have HC : Hid (Calls Tryz.prog 80 #[.pointer (some ⟨wb, 0, none⟩), .int .i64 k] w5 fun e w' => e = .returned (.tuple #[]) ∧ Lay w0 wb (.slice (some ⟨b, o, none⟩) L.length vc) L root G cs cv5 w5 (nodeE L f k x2) w') := HIH.out k HKH.out.2 _ _ _ H5.out.dw H5.out.ok
      go_wp2_with fail
      refine Calls.mono HC.out ?_
      rintro e w6 ⟨rfl, q⟩
      obtain ⟨cv6, q2⟩ := H5.out.step q (node_kpd f k _ HO2.out).ok
      have H6 : Hid (Ub w0 wb (.slice (some ⟨b, o, none⟩) L.length vc) L root G cs cv w m (Nq.cells ⟨8, c, st, mn, mx, lz, nn, ks⟩ (.slice (some ⟨kb, ko, none⟩) 1 kc)) (nodeE L f k x2) cv6 w6) := q2
      clear q q2 HC b10 ck
      have b9 : w6.cell? ⟨m, 9, none⟩ = some (.int .i64 nn) := H6.out.bx.at rfl
      have HC : Hid (Calls Tryz.prog 81 #[.pointer (some ⟨wb, 0, none⟩), .agg #[.int .u8 6, .int .u8 0, .int .u64 0, .int .u64 0, .int .u64 0, .int .u64 0, .int .i64 (2 * nn + 1), .int .i64 0]] w6 fun e w' => (∃ a, e = .returned (.int .i64 a)) ∧ Lay w0 wb (.slice (some ⟨b, o, none⟩) L.length vc) L root G cs cv w (layE { op := 6, x := 2 * nn + 1 } (nodeE L f k x2)).2 w') := by
        have := dlay_any H6.out.dw { op := 6, x := 2 * nn + 1 }
        exact Calls.mono this fun e w' q => ⟨⟨_, q.1⟩, q.2.ahead H6.out.ad⟩
      go_wp2_with fail
      refine Calls.mono HC.out ?_
      rintro e w7 ⟨⟨a7, rfl⟩, q⟩
      have H7 : Hid (Lay w0 wb (.slice (some ⟨b, o, none⟩) L.length vc) L root G cs cv w (layE { op := 6, x := 2 * nn + 1 } (nodeE L f k x2)).2 w7) := q
      clear q HC b9
      go_wp2_with fail
      go_end0
      rw [HRX.out]
      exact ⟨rfl, H7.out⟩
    by_cases p9 : op = 9
    · subst p9
      have HRX : Hid (R = (layE { op := 7, x := nn } x).2) := by
        show _ = _
        rw [HRS.out]; rfl
      have HC : Hid (Calls Tryz.prog 81 #[.pointer (some ⟨wb, 0, none⟩), .agg #[.int .u8 7, .int .u8 0, .int .u64 0, .int .u64 0, .int .u64 0, .int .u64 0, .int .i64 (nn), .int .i64 0]] W1 fun e w' => (∃ a, e = .returned (.int .i64 a)) ∧ Lay w0 wb (.slice (some ⟨b, o, none⟩) L.length vc) L root G cs cv w (layE { op := 7, x := nn } x).2 w') := by
        have := dlay_any HU.out.dw { op := 7, x := nn }
        exact Calls.mono this fun e w' q => ⟨⟨_, q.1⟩, q.2.ahead HU.out.ad⟩
      go_wp2_with fail
      refine Calls.mono HC.out ?_
      rintro e w5 ⟨⟨a5, rfl⟩, q⟩
      have H5 : Hid (Lay w0 wb (.slice (some ⟨b, o, none⟩) L.length vc) L root G cs cv w (layE { op := 7, x := nn } x).2 w5) := q
      clear q HC b0 b1 b2 b3 b4 b5 b6 b7 b8 b9 b10
      go_wp2_with fail
      go_end0
      rw [HRX.out]
      exact ⟨rfl, H5.out⟩
    by_cases p10 : op = 10
    · subst p10
      have HRX : Hid (R = (layE { op := 8 } x).2) := by
        show _ = _
        rw [HRS.out]; rfl
      have HC : Hid (Calls Tryz.prog 81 #[.pointer (some ⟨wb, 0, none⟩), .agg #[.int .u8 8, .int .u8 0, .int .u64 0, .int .u64 0, .int .u64 0, .int .u64 0, .int .i64 (0), .int .i64 0]] W1 fun e w' => (∃ a, e = .returned (.int .i64 a)) ∧ Lay w0 wb (.slice (some ⟨b, o, none⟩) L.length vc) L root G cs cv w (layE { op := 8 } x).2 w') := by
        have := dlay_any HU.out.dw { op := 8 }
        exact Calls.mono this fun e w' q => ⟨⟨_, q.1⟩, q.2.ahead HU.out.ad⟩
      go_wp2_with fail
      refine Calls.mono HC.out ?_
      rintro e w5 ⟨⟨a5, rfl⟩, q⟩
      have H5 : Hid (Lay w0 wb (.slice (some ⟨b, o, none⟩) L.length vc) L root G cs cv w (layE { op := 8 } x).2 w5) := q
      clear q HC b0 b1 b2 b3 b4 b5 b6 b7 b8 b9 b10
      go_wp2_with fail
      go_end0
      rw [HRX.out]
      exact ⟨rfl, H5.out⟩
    by_cases p11 : op = 11
    · subst p11
      have HRX : Hid (R = (layE { op := 9 } x).2) := by
        show _ = _
        rw [HRS.out]; rfl
      have HC : Hid (Calls Tryz.prog 81 #[.pointer (some ⟨wb, 0, none⟩), .agg #[.int .u8 9, .int .u8 0, .int .u64 0, .int .u64 0, .int .u64 0, .int .u64 0, .int .i64 (0), .int .i64 0]] W1 fun e w' => (∃ a, e = .returned (.int .i64 a)) ∧ Lay w0 wb (.slice (some ⟨b, o, none⟩) L.length vc) L root G cs cv w (layE { op := 9 } x).2 w') := by
        have := dlay_any HU.out.dw { op := 9 }
        exact Calls.mono this fun e w' q => ⟨⟨_, q.1⟩, q.2.ahead HU.out.ad⟩
      go_wp2_with fail
      refine Calls.mono HC.out ?_
      rintro e w5 ⟨⟨a5, rfl⟩, q⟩
      have H5 : Hid (Lay w0 wb (.slice (some ⟨b, o, none⟩) L.length vc) L root G cs cv w (layE { op := 9 } x).2 w5) := q
      clear q HC b0 b1 b2 b3 b4 b5 b6 b7 b8 b9 b10
      go_wp2_with fail
      go_end0
      rw [HRX.out]
      exact ⟨rfl, H5.out⟩
    by_cases p12 : op = 12
    · subst p12
      have HRX : Hid (R = (layE { op := 10 } x).2) := by
        show _ = _
        rw [HRS.out]; rfl
      have HC : Hid (Calls Tryz.prog 81 #[.pointer (some ⟨wb, 0, none⟩), .agg #[.int .u8 10, .int .u8 0, .int .u64 0, .int .u64 0, .int .u64 0, .int .u64 0, .int .i64 (0), .int .i64 0]] W1 fun e w' => (∃ a, e = .returned (.int .i64 a)) ∧ Lay w0 wb (.slice (some ⟨b, o, none⟩) L.length vc) L root G cs cv w (layE { op := 10 } x).2 w') := by
        have := dlay_any HU.out.dw { op := 10 }
        exact Calls.mono this fun e w' q => ⟨⟨_, q.1⟩, q.2.ahead HU.out.ad⟩
      go_wp2_with fail
      refine Calls.mono HC.out ?_
      rintro e w5 ⟨⟨a5, rfl⟩, q⟩
      have H5 : Hid (Lay w0 wb (.slice (some ⟨b, o, none⟩) L.length vc) L root G cs cv w (layE { op := 10 } x).2 w5) := q
      clear q HC b0 b1 b2 b3 b4 b5 b6 b7 b8 b9 b10
      go_wp2_with fail
      go_end0
      rw [HRX.out]
      exact ⟨rfl, H5.out⟩
    by_cases p13 : op = 13
    · subst p13
      have HRX : Hid (R = (layE { op := 11 } x).2) := by
        show _ = _
        rw [HRS.out]; rfl
      have HC : Hid (Calls Tryz.prog 81 #[.pointer (some ⟨wb, 0, none⟩), .agg #[.int .u8 11, .int .u8 0, .int .u64 0, .int .u64 0, .int .u64 0, .int .u64 0, .int .i64 (0), .int .i64 0]] W1 fun e w' => (∃ a, e = .returned (.int .i64 a)) ∧ Lay w0 wb (.slice (some ⟨b, o, none⟩) L.length vc) L root G cs cv w (layE { op := 11 } x).2 w') := by
        have := dlay_any HU.out.dw { op := 11 }
        exact Calls.mono this fun e w' q => ⟨⟨_, q.1⟩, q.2.ahead HU.out.ad⟩
      go_wp2_with fail
      refine Calls.mono HC.out ?_
      rintro e w5 ⟨⟨a5, rfl⟩, q⟩
      have H5 : Hid (Lay w0 wb (.slice (some ⟨b, o, none⟩) L.length vc) L root G cs cv w (layE { op := 11 } x).2 w5) := q
      clear q HC b0 b1 b2 b3 b4 b5 b6 b7 b8 b9 b10
      go_wp2_with fail
      go_end0
      rw [HRX.out]
      exact ⟨rfl, H5.out⟩
    by_cases p14 : op = 14
    · subst p14
      have HRX : Hid (R = (layE { op := 6, x := 20 } x).2) := by
        show _ = _
        rw [HRS.out]; rfl
      have HC : Hid (Calls Tryz.prog 81 #[.pointer (some ⟨wb, 0, none⟩), .agg #[.int .u8 6, .int .u8 0, .int .u64 0, .int .u64 0, .int .u64 0, .int .u64 0, .int .i64 (20), .int .i64 0]] W1 fun e w' => (∃ a, e = .returned (.int .i64 a)) ∧ Lay w0 wb (.slice (some ⟨b, o, none⟩) L.length vc) L root G cs cv w (layE { op := 6, x := 20 } x).2 w') := by
        have := dlay_any HU.out.dw { op := 6, x := 20 }
        exact Calls.mono this fun e w' q => ⟨⟨_, q.1⟩, q.2.ahead HU.out.ad⟩
      go_wp2_with fail
      refine Calls.mono HC.out ?_
      rintro e w5 ⟨⟨a5, rfl⟩, q⟩
      have H5 : Hid (Lay w0 wb (.slice (some ⟨b, o, none⟩) L.length vc) L root G cs cv w (layE { op := 6, x := 20 } x).2 w5) := q
      clear q HC b0 b1 b2 b3 b4 b5 b6 b7 b8 b9 b10
      go_wp2_with fail
      go_end0
      rw [HRX.out]
      exact ⟨rfl, H5.out⟩
    by_cases p15 : op = 15
    · subst p15
      have HRX : Hid (R = (layE { op := 6, x := 21 } x).2) := by
        show _ = _
        rw [HRS.out]; rfl
      have HC : Hid (Calls Tryz.prog 81 #[.pointer (some ⟨wb, 0, none⟩), .agg #[.int .u8 6, .int .u8 0, .int .u64 0, .int .u64 0, .int .u64 0, .int .u64 0, .int .i64 (21), .int .i64 0]] W1 fun e w' => (∃ a, e = .returned (.int .i64 a)) ∧ Lay w0 wb (.slice (some ⟨b, o, none⟩) L.length vc) L root G cs cv w (layE { op := 6, x := 21 } x).2 w') := by
        have := dlay_any HU.out.dw { op := 6, x := 21 }
        exact Calls.mono this fun e w' q => ⟨⟨_, q.1⟩, q.2.ahead HU.out.ad⟩
      go_wp2_with fail
      refine Calls.mono HC.out ?_
      rintro e w5 ⟨⟨a5, rfl⟩, q⟩
      have H5 : Hid (Lay w0 wb (.slice (some ⟨b, o, none⟩) L.length vc) L root G cs cv w (layE { op := 6, x := 21 } x).2 w5) := q
      clear q HC b0 b1 b2 b3 b4 b5 b6 b7 b8 b9 b10
      go_wp2_with fail
      go_end0
      rw [HRX.out]
      exact ⟨rfl, H5.out⟩
    exact absurd HRNG.out (by omega)
end
end Go.Proofs.YtalmajiflmejcaaGreat
/- The document's Compile. -/
namespace Go.Proofs.YtalmajiflmejcaaGreat
open Go.ChangeShapes Go.WideShapes Go.ChangeAt Go.RowKit
set_option linter.unusedVariables false
set_option linter.unusedSimpArgs false
section
variable {L : List Nq} {G : Int}
theorem wlk_less : ∀ (f : Nat), (∀ k sn, (wlk L G f k sn).1 = true → (wlk L G f k sn).2.count false + 1 ≤ sn.count false) ∧ ∀ ks sn, (wlkL L G f ks sn).1 = true → (wlkL L G f ks sn).2.count false + ks.length ≤ sn.count false := by
  intro f
  have h1 : ∀ k sn, (wlk L G f k sn).1 = true → (wlk L G f k sn).2.count false + 1 ≤ sn.count false := fun k sn h => by
    cases f with
    | zero => unfold wlk at h; cases h
    | succ f =>
      unfold wlk at h ⊢
      split at h
      · cases h
      rename_i q1
      split at h
      · cases h
      rename_i q2
      split at h
      · cases h
      rename_i q3
      rw [if_neg q1, if_neg q2, if_neg q3]
      have hs : sn[k.toNat]? = some false := by
        cases hq : sn[k.toNat]? with
        | none => exact absurd (.inr (by rw [List.getD_eq_getElem?_getD, hq]; rfl)) q1
        | some b =>
          cases b with
          | false => rfl
          | true => exact absurd (.inr (by rw [List.getD_eq_getElem?_getD, hq]; rfl)) q1
      have h2 := cnt_set hs
      have h3 := ((wlk_keeps (L := L) (G := G) f).2 (nodeAt L k).kids (sn.set k.toNat true)).2
      simp only
      omega
  refine ⟨h1, fun ks => ?_⟩
  induction ks with
  | nil => intro sn _; unfold wlkL; simp
  | cons k ks ih =>
    intro sn h
    unfold wlkL at h ⊢
    split at h
    · cases h
    · rename_i q
      rw [if_neg q]
      have h2 := h1 k sn (by simpa using q)
      have h3 := ih _ h
      simp only [List.length_cons]
      omega
theorem wlk_tre : ∀ (f : Nat), (∀ k sn, (wlk L G f k sn).1 = true → sn.count false ≤ L.length → Tre L G f k) ∧ ∀ ks sn, (wlkL L G f ks sn).1 = true → sn.count false ≤ L.length → ∀ c ∈ ks, Tre L G f c := by
  intro f
  have hl : (∀ k sn, (wlk L G f k sn).1 = true → sn.count false ≤ L.length → Tre L G f k) → ∀ ks sn, (wlkL L G f ks sn).1 = true → sn.count false ≤ L.length → ∀ c ∈ ks, Tre L G f c := by
    intro h1 ks
    induction ks with
    | nil => intro sn _ _ c hc; cases hc
    | cons k ks ih =>
      intro sn h hn c hc
      unfold wlkL at h
      split at h
      · cases h
      · rename_i q
        rcases List.mem_cons.1 hc with rfl | hc
        · exact h1 c sn (by simpa using q) hn
        · exact ih _ h (Nat.le_trans ((wlk_keeps (L := L) (G := G) f).1 k sn).2 hn) c hc
  induction f with
  | zero =>
    have h1 : ∀ k sn, (wlk L G 0 k sn).1 = true → sn.count false ≤ L.length → Tre L G 0 k := fun k sn h => by unfold wlk at h; cases h
    exact ⟨h1, hl h1⟩
  | succ f ihf =>
    have h1 : ∀ k sn, (wlk L G (f + 1) k sn).1 = true → sn.count false ≤ L.length → Tre L G (f + 1) k := fun k sn h hn => by
      have hb := wlk_has h
      unfold wlk at h
      split at h
      · cases h
      split at h
      · cases h
      rename_i q2
      split at h
      · cases h
      rename_i q3
      have q4 : (wlkL L G f (nodeAt L k).kids (sn.set k.toNat true)).1 = true := by simpa using q3
      have h5 := Nat.le_trans (cnt_set_le sn k.toNat) hn
      have h6 := (wlk_less f).2 _ _ q4
      exact ⟨hb, by simpa [and_assoc] using q2, by omega, (ihf fun a => by
        intro ks
        induction ks with
        | nil => intro sn _ _ c hc; cases hc
        | cons k ks ih =>
          intro sn h hn c hc
          unfold wlkL at h
          split at h
          · cases h
          · rename_i q
            rcases List.mem_cons.1 hc with rfl | hc
            · exact a c sn (by simpa using q) hn
            · exact ih _ h (Nat.le_trans ((wlk_keeps (L := L) (G := G) f).1 k sn).2 hn) c hc).2 _ _ q4 h5⟩
    exact ⟨h1, hl h1⟩
theorem snd_tre {root : Int} (h : sndR L root G = true) : Tre L G (L.length + 1) root ∧ 0 ≤ G ∧ G ≤ 9 := by
  unfold sndR at h
  rw [Bool.and_eq_true] at h
  exact ⟨(wlk_tre _).1 _ _ h.2 (by simp), of_decide_eq_true h.1⟩
end
/-- What the document's Compile answers: a fault's number; code, rounds, fold. -/
def cmpE (L : List Nq) (root G cs : Int) (fold : Bool) : Nat × List Ins × Nat × Bool :=
  if sndR L root G = false then (1, [], 0, false)
  else if (layE { op := 14 } (nodeE L (L.length + 1) root ⟨[], 0, false⟩)).2.lg = true ∨ 2000 < (layE { op := 14 } (nodeE L (L.length + 1) root ⟨[], 0, false⟩)).2.c.length then (33, [], 0, false)
  else (0, (layE { op := 14 } (nodeE L (L.length + 1) root ⟨[], 0, false⟩)).2.c, (layE { op := 14 } (nodeE L (L.length + 1) root ⟨[], 0, false⟩)).2.r, if cs = 0 then fold else cs == 1)
def CmpP (w : World) (X : Nat × List Ins × Nat × Bool) (e : Ending) (w' : World) : Prop :=
  Kp w w' ∧ ∃ cv, e = .returned (.tuple #[.agg #[cv, .int .i64 X.2.2.1, .bool X.2.2.2], .int .i64 X.1]) ∧ w'.ownsRow w.heap.size 110 8 cv X.2.1.length (flatI X.2.1)
section
variable {w0 : World} {wb : Nat} {v cv : Value} {L : List Nq} {root G cs : Int} {x : Ds} {w : World}
theorem dnode_any (hG9 : G ≤ 9) (hL : L.length ≤ 1000000) : ∀ (f : Nat) (k : Int), Tre L G f k → NodeC w0 wb v L root G cs (nodeE L f) k := by
  intro f
  induction f with
  | zero => intro k h; exact h.elim
  | succ f ih => intro k h; exact dnode_of hG9 hL ih h
theorem sizeProg : (Tryz.prog.info? 32).map (·.size) = some 3 := by kernel_rfl
theorem Dw.start (h : Pt w v L) : Dw w w.heap.size v L root G cs ⟨[], 0, false⟩ (.slice none 0 0) (w.alloc (.cells #[v, .int .i64 root, .int .i64 G, .int .u8 cs, .slice none 0 0, .int .i64 0, .bool false] 172)) :=
  ⟨kp_alloc _ _, h, Nat.le_refl _, Lc.new w [v, .int .i64 root, .int .i64 G, .int .u8 cs, .slice none 0 0, .int .i64 0, .bool false] _, World.ownsRow_nil _ _ _ _, fun q => by cases q⟩
set_option maxHeartbeats 8000000 in
set_option maxRecDepth 100000 in
theorem dcompile_any (h : Pt w v L) (hL : L.length ≤ 1000000) (fold : Bool) :
    Calls Tryz.prog 51 #[.agg #[v, .int .i64 root, .int .i64 G, .int .u8 cs], .bool fold] w (CmpP w (cmpE L root G cs fold)) := by
  obtain ⟨R, hR⟩ : ∃ R, cmpE L root G cs fold = R := ⟨_, rfl⟩
  rw [hR]
  have HR : Hid (R = cmpE L root G cs fold) := hR.symm
  obtain ⟨va, vc, rfl, v1, v2, v3⟩ := id h
  obtain ⟨dT, hT1, hT2⟩ : ∃ d, Tryz.prog.underlying 32 = some d ∧ d.isRow = true := ⟨_, Tryz.underlying32, rfl⟩
  obtain ⟨SB, hSB⟩ : ∃ SB, sndR L root G = SB := ⟨_, rfl⟩
  have HSB : Hid (sndR L root G = SB) := hSB
  have HP : Hid (Pt w (.slice va L.length vc) L) := h
  have HKL : Hid (L.length ≤ 1000000) := hL
  obtain ⟨N, hN⟩ : ∃ N, L.length = N := ⟨_, rfl⟩
  have HN : Hid (L.length = N) := hN
  clear v3 hSB h hL hR
  rw [hN] at v1 ⊢
  unfold maxLen at v2
  obtain ⟨p, hp⟩ : ∃ p, w.heap.size = p := ⟨_, rfl⟩
  obtain ⟨W1, hW1⟩ : ∃ W1, (w.alloc (.cells #[.slice va N vc, .int .i64 root, .int .i64 G, .int .u8 cs] 92)).alloc (.cells #[.slice none 0 0, .int .i64 0, .bool false] 32) = W1 := ⟨_, rfl⟩
  have H1 : Hid (Kp w W1 ∧ Lc 92 p [.slice va N vc, .int .i64 root, .int .i64 G, .int .u8 cs] W1 ∧ Lc 32 (p + 1) [.slice none 0 0, .int .i64 0, .bool false] W1) := by
    rw [← hW1, ← hp]
    refine ⟨kp_trans (kp_alloc _ _) (kp_alloc _ _), (Lc.new w [.slice va N vc, .int .i64 root, .int .i64 G, .int .u8 cs] _).kp (kp_alloc _ _), ?_⟩
    have := Lc.new (w.alloc (.cells #[.slice va N vc, .int .i64 root, .int .i64 G, .int .u8 cs] 92)) [.slice none 0 0, .int .i64 0, .bool false] 32
    rw [alloc_size] at this
    exact this
  have HC1 : Hid (Calls Tryz.prog 79 #[.agg #[.slice va N vc, .int .i64 root, .int .i64 G, .int .u8 cs]] W1 fun e w' => e = .returned (.bool SB) ∧ Kp W1 w') := by
    have := fsound_any (root := root) (G := G) (cs := cs) (HP.out.kp H1.out.1) HKL.out
    rw [HSB.out, HN.out] at this
    exact this
  have HPW : Hid (w.heap.size = p) := hp
  clear hN
  go_enter Tryz.func51, Tryz.ntmps51
  go_upto_region 1 with fail
  try rw [hW1]
  try rw [hp]
  clear hW1 hp
  have a0 : W1.cell? ⟨p, 0, none⟩ = some (.slice va N vc) := H1.out.2.1.at rfl
  have a1 : W1.cell? ⟨p, 1, none⟩ = some (.int .i64 root) := H1.out.2.1.at rfl
  have a2 : W1.cell? ⟨p, 2, none⟩ = some (.int .i64 G) := H1.out.2.1.at rfl
  have a3 : W1.cell? ⟨p, 3, none⟩ = some (.int .u8 cs) := H1.out.2.1.at rfl
  go_wp2_with fail
  refine Calls.mono HC1.out ?_
  rintro e w2 ⟨rfl, q⟩
  have H2 : Hid (Kp w w2 ∧ Lc 92 p [.slice va N vc, .int .i64 root, .int .i64 G, .int .u8 cs] w2 ∧ Lc 32 (p + 1) [.slice none 0 0, .int .i64 0, .bool false] w2) := ⟨kp_trans H1.out.1 q, H1.out.2.1.kp q, H1.out.2.2.kp q⟩
  clear q a0 a1 a2 a3 HC1 H1
  have a0 : w2.cell? ⟨p, 0, none⟩ = some (.slice va N vc) := H2.out.2.1.at rfl
  have a1 : w2.cell? ⟨p, 1, none⟩ = some (.int .i64 root) := H2.out.2.1.at rfl
  have a2 : w2.cell? ⟨p, 2, none⟩ = some (.int .i64 G) := H2.out.2.1.at rfl
  have a3 : w2.cell? ⟨p, 3, none⟩ = some (.int .u8 cs) := H2.out.2.1.at rfl
  cases SB with
  | false =>
    have HRX : Hid (R = (1, [], 0, false)) := by
      show _ = _
      rw [HR.out]; unfold cmpE; rw [if_pos HSB.out]
    go_wp2_with (refine wpList_store_box H2.out.2.2 0 [.slice none 0 0, .int .i64 0, .bool false] rfl 32 (.tmp 4) (.tmp 12) rfl rfl rfl (Nat.le_refl 3) sizeProg (by intro v hv; simp only [List.mem_cons, List.not_mem_nil, or_false] at hv; rcases hv with rfl | rfl | rfl <;> rfl) (l' := [.slice none 0 0, .int .i64 0, .bool false]) rfl ?_; intro w3 q1 q2 q3; have H3 : Hid (Lc 32 (p + 1) [.slice none 0 0, .int .i64 0, .bool false] w3 ∧ Fr (On (p + 1)) w2 w3) := ⟨q1, q2⟩; clear q1 q2 q3)
    (try simp only [Exit.inBlock, Exit.then])
    refine bodyPost_ret (results_box2 rfl rfl H3.out.1 hT1 hT2 sizeProg) rfl ?_
    rw [HRX.out]
    exact ⟨H2.out.1.trans (H3.out.2.below H2.out.1.size fun k hk q => by unfold On at q; have := HPW.out; omega), _, rfl, World.ownsRow_nil _ _ _ _⟩
  | true =>
    have HT : Hid (Tre L G (L.length + 1) root ∧ 0 ≤ G ∧ G ≤ 9) := snd_tre HSB.out
    obtain ⟨wb, hwb⟩ : ∃ wb, w2.heap.size = wb := ⟨_, rfl⟩
    obtain ⟨W3, hW3⟩ : ∃ W3, w2.alloc (.cells #[.slice va N vc, .int .i64 root, .int .i64 G, .int .u8 cs, .slice none 0 0, .int .i64 0, .bool false] 172) = W3 := ⟨_, rfl⟩
    have H3 : Hid (Dw w2 wb (.slice va L.length vc) L root G cs ⟨[], 0, false⟩ (.slice none 0 0) W3 ∧ Kp w2 W3) := by
      have q := Dw.start (root := root) (G := G) (cs := cs) (HP.out.kp H2.out.1)
      rw [HN.out, hW3, hwb] at q
      rw [HN.out]
      exact ⟨q, by rw [← hW3]; exact kp_alloc _ _⟩
    have HLT : Hid (p + 1 < w2.heap.size) := H2.out.2.2.lt
    obtain ⟨x1, hx1⟩ : ∃ x1, nodeE L (L.length + 1) root ⟨[], 0, false⟩ = x1 := ⟨_, rfl⟩
    have HO0 : Hid (Okd ⟨[], 0, false⟩) := ⟨by simp, fun _ => by simp, fun q => by cases q⟩
    have HC3 : Hid (Calls Tryz.prog 80 #[.pointer (some ⟨wb, 0, none⟩), .int .i64 root] W3 fun e w' => e = .returned (.tuple #[]) ∧ Lay w2 wb (.slice va L.length vc) L root G cs (.slice none 0 0) W3 x1 w') := by
      have := dnode_any (w0 := w2) (wb := wb) (v := .slice va L.length vc) (root := root) (cs := cs) HT.out.2.2 HKL.out _ _ HT.out.1 _ _ _ H3.out.1 HO0.out
      rw [hx1] at this
      exact this
    obtain ⟨x2, hx2⟩ : ∃ x2, (layE { op := 14 } x1).2 = x2 := ⟨_, rfl⟩
    have HX2 : Hid ((layE { op := 14 } (nodeE L (L.length + 1) root ⟨[], 0, false⟩)).2 = x2 ∧ Okd x2) := by
      refine ⟨by rw [hx1, hx2], ?_⟩
      have h1 := (node_kpd (L := L) (L.length + 1) root _ HO0.out).ok
      rw [hx1] at h1
      rw [← hx2]
      exact (layE_kpd h1 _).1.ok
    have HLX : Hid ((layE { op := 14 } x1).2 = x2) := hx2
    clear hx1 hx2
    go_upto_region 5 with fail
    try rw [hW3]
    try rw [hwb]
    clear a0 a1 a2 a3 hW3 hwb
    have a1 : W3.cell? ⟨p, 1, none⟩ = some (.int .i64 root) := (H2.out.2.1.kp H3.out.2).at rfl
    go_wp2_with fail
    refine Calls.mono HC3.out ?_
    rintro e w4 ⟨rfl, cv4, q1, q2⟩
    have H4 : Hid (Dw w2 wb (.slice va L.length vc) L root G cs x1 cv4 w4) := q1
    clear q1 q2 HC3 a1
    have HC5 : Hid (Calls Tryz.prog 81 #[.pointer (some ⟨wb, 0, none⟩), .agg #[.int .u8 14, .int .u8 0, .int .u64 0, .int .u64 0, .int .u64 0, .int .u64 0, .int .i64 0, .int .i64 0]] w4 fun e w' => (∃ a, e = .returned (.int .i64 a)) ∧ ∃ cv', Dw w2 wb (.slice va L.length vc) L root G cs x2 cv' w') := by
      have := dlay_any H4.out { op := 14 }
      rw [HLX.out] at this
      exact Calls.mono this fun e w' q => ⟨⟨_, q.1⟩, q.2.imp fun _ z => z.1⟩
    go_wp2_with fail
    refine Calls.mono HC5.out ?_
    rintro e w5 ⟨⟨a5, rfl⟩, cv5, q1⟩
    obtain ⟨ca, cc, rfl, u1, u2⟩ := owns_form q1.row
    have H5 : Hid (Dw w2 wb (.slice va L.length vc) L root G cs x2 (.slice ca x2.c.length cc) w5) := q1
    obtain ⟨C, hC⟩ : ∃ C, x2.c.length = C := ⟨_, rfl⟩
    have HC : Hid (x2.c.length = C) := hC
    rw [hC] at H5 u1
    clear q1 HC5
    obtain ⟨g, hg⟩ : ∃ g, x2.lg = g := ⟨_, rfl⟩
    have HG : Hid (x2.lg = g) := hg
    obtain ⟨r, hr⟩ : ∃ r, x2.r = r := ⟨_, rfl⟩
    have HRR : Hid (x2.r = r) := hr
    have c4 : w5.cell? ⟨wb, 4, none⟩ = some (.slice ca C cc) := H5.out.st.at rfl
    have c5 : w5.cell? ⟨wb, 5, none⟩ = some (.int .i64 r) := by rw [← hr]; exact H5.out.st.at rfl
    have c6 : w5.cell? ⟨wb, 6, none⟩ = some (.bool g) := by rw [← hg]; exact H5.out.st.at rfl
    have e3 : w5.cell? ⟨p, 3, none⟩ = some (.int .u8 cs) := (H2.out.2.1.kp H5.out.kp).at rfl
    have HBX : Hid (Lc 32 (p + 1) [.slice none 0 0, .int .i64 0, .bool false] w5) := H2.out.2.2.kp H5.out.kp
    have HK5 : Hid (Kp w w5) := kp_trans H2.out.1 H5.out.kp
    have b0 : w5.cell? ⟨p + 1, 0, none⟩ = some (.slice none 0 0) := HBX.out.at rfl
    have b1 : w5.cell? ⟨p + 1, 1, none⟩ = some (.int .i64 0) := HBX.out.at rfl
    have b2 : w5.cell? ⟨p + 1, 2, none⟩ = some (.bool false) := HBX.out.at rfl
    have f0 := HBX.out.fz 0
    have f1 := HBX.out.fz 1
    have f2 := HBX.out.fz 2
    unfold maxLen at u2
    clear hC hg hr
    cases g with
    | true =>
      have HRX : Hid (R = (33, [], 0, false)) := by
        show _ = _
        rw [HR.out]; unfold cmpE; rw [if_neg (by rw [HSB.out]; simp), HX2.out.1, if_pos (.inl HG.out)]
      go_wp2_with (refine wpList_store_box HBX.out 0 [.slice none 0 0, .int .i64 0, .bool false] rfl 32 (.tmp 4) (.tmp 35) rfl rfl rfl (Nat.le_refl 3) sizeProg (by intro v hv; simp only [List.mem_cons, List.not_mem_nil, or_false] at hv; rcases hv with rfl | rfl | rfl <;> rfl) (l' := [.slice none 0 0, .int .i64 0, .bool false]) rfl ?_; intro w6 q1 q2 q3; have H6 : Hid (Lc 32 (p + 1) [.slice none 0 0, .int .i64 0, .bool false] w6 ∧ Fr (On (p + 1)) w5 w6) := ⟨q1, q2⟩; clear q1 q2 q3)
      (try simp only [Exit.inBlock, Exit.then])
      refine bodyPost_ret (results_box2 rfl rfl H6.out.1 hT1 hT2 sizeProg) rfl ?_
      rw [HRX.out]
      exact ⟨HK5.out.trans (H6.out.2.below HK5.out.size fun k hk q => by unfold On at q; have := HPW.out; omega), _, rfl, World.ownsRow_nil _ _ _ _⟩
    | false =>
      by_cases h2k : 2000 < C
      · have d1 : decide ((C : Int) > 2000) = true := decide_eq_true (by omega)
        have d1' : decide ((2000 : Int) < (C : Int)) = true := decide_eq_true (by omega)
        have d1n : decide (2000 < C) = true := decide_eq_true h2k
        have HRX : Hid (R = (33, [], 0, false)) := by
          show _ = _
          rw [HR.out]; unfold cmpE; rw [if_neg (by rw [HSB.out]; simp), HX2.out.1, if_pos (.inr (by rw [HC.out]; exact h2k))]
        go_wp2_with (refine wpList_store_box HBX.out 0 [.slice none 0 0, .int .i64 0, .bool false] rfl 32 (.tmp 4) (.tmp 35) rfl rfl rfl (Nat.le_refl 3) sizeProg (by intro v hv; simp only [List.mem_cons, List.not_mem_nil, or_false] at hv; rcases hv with rfl | rfl | rfl <;> rfl) (l' := [.slice none 0 0, .int .i64 0, .bool false]) rfl ?_; intro w6 q1 q2 q3; have H6 : Hid (Lc 32 (p + 1) [.slice none 0 0, .int .i64 0, .bool false] w6 ∧ Fr (On (p + 1)) w5 w6) := ⟨q1, q2⟩; clear q1 q2 q3)
        (try simp only [Exit.inBlock, Exit.then])
        refine bodyPost_ret (results_box2 rfl rfl H6.out.1 hT1 hT2 sizeProg) rfl ?_
        rw [HRX.out]
        exact ⟨HK5.out.trans (H6.out.2.below HK5.out.size fun k hk q => by unfold On at q; have := HPW.out; omega), _, rfl, World.ownsRow_nil _ _ _ _⟩
      · have d1 : decide ((C : Int) > 2000) = false := decide_eq_false (by omega)
        have d1' : decide ((2000 : Int) < (C : Int)) = false := decide_eq_false (by omega)
        have d1n : decide (2000 < C) = false := decide_eq_false h2k
        by_cases s0 : cs = 0
        · subst s0
          have HRX : Hid (R = (0, x2.c, x2.r, fold)) := by
            show _ = _
            rw [HR.out]; unfold cmpE; rw [if_neg (by rw [HSB.out]; simp), HX2.out.1, if_neg (by rw [HG.out, HC.out]; simp; omega), if_pos rfl]
          have HZ : Hid (Lc 32 (p + 1) [.slice ca C cc, .int .i64 r, .bool fold] (((w5.setCell ⟨p + 1, 0, none⟩ (.slice ca C cc)).setCell ⟨p + 1, 1, none⟩ (.int .i64 r)).setCell ⟨p + 1, 2, none⟩ (.bool fold)).drew ∧ Kp w (((w5.setCell ⟨p + 1, 0, none⟩ (.slice ca C cc)).setCell ⟨p + 1, 1, none⟩ (.int .i64 r)).setCell ⟨p + 1, 2, none⟩ (.bool fold)).drew ∧ ((((w5.setCell ⟨p + 1, 0, none⟩ (.slice ca C cc)).setCell ⟨p + 1, 1, none⟩ (.int .i64 r)).setCell ⟨p + 1, 2, none⟩ (.bool fold)).drew).ownsRow w.heap.size 110 8 (.slice ca C cc) C (flatI x2.c)) := by
            have hn : w.heap.size ≤ p + 1 := by have := HPW.out; omega
            refine ⟨(((HBX.out.set 0 (.slice ca C cc)).set 1 (.int .i64 r)).set 2 (.bool fold)).kp (kp_drew _), kp_trans (kp_new (kp_new (kp_new HK5.out hn) hn) hn) (kp_drew _), ?_⟩
            have hr := H5.out.row
            rw [HC.out] at hr
            have f3 : Fr (On (p + 1)) w5 (((w5.setCell ⟨p + 1, 0, none⟩ (.slice ca C cc)).setCell ⟨p + 1, 1, none⟩ (.int .i64 r)).setCell ⟨p + 1, 2, none⟩ (.bool fold)).drew := (((fr_set (p + 1) 0 _ w5).trans (fr_set (p + 1) 1 _ _)).trans (fr_set (p + 1) 2 _ _)).trans (Fr.of_below (kp_drew _))
            have hr2 := row_fr hr f3 (fun j hj q => by have h1 := (hr.lt j hj).1; have h2 := HLT.out; unfold On at q; omega)
            refine ⟨hr2.1, ?_⟩
            rcases hr2.2 with q | ⟨g, cap, cur, q1, q2, q3⟩
            · exact .inl q
            · exact .inr ⟨g, cap, cur, q1, Nat.le_trans H2.out.1.size q2, q3⟩
          go_upto_region 11 with fail
          go_region
          change Exit.then _ _ _ _ (((w5.setCell ⟨p + 1, 0, none⟩ (.slice ca C cc)).setCell ⟨p + 1, 1, none⟩ (.int .i64 r)).setCell ⟨p + 1, 2, none⟩ (.bool fold)).drew
          generalize (((w5.setCell ⟨p + 1, 0, none⟩ (.slice ca C cc)).setCell ⟨p + 1, 1, none⟩ (.int .i64 r)).setCell ⟨p + 1, 2, none⟩ (.bool fold)).drew = w6 at HZ ⊢
          clear b0 b1 b2 f0 f1 f2 c4 c5 c6 e3
          go_wp2_with fail
          (try simp only [Exit.inBlock, Exit.then])
          refine bodyPost_ret (results_box2 rfl rfl HZ.out.1 hT1 hT2 sizeProg) rfl ?_
          rw [HRX.out]
          exact ⟨HZ.out.2.1, _, by rw [HRR.out]; rfl, by rw [HC.out]; exact HZ.out.2.2⟩
        · have i0 : (cs != 0) = true := by simp; omega
          by_cases s1 : cs = 1
          · subst s1
            have HRX : Hid (R = (0, x2.c, x2.r, true)) := by
              show _ = _
              rw [HR.out]; unfold cmpE; rw [if_neg (by rw [HSB.out]; simp), HX2.out.1, if_neg (by rw [HG.out, HC.out]; simp; omega), if_neg s0]; rfl
            have HZ : Hid (Lc 32 (p + 1) [.slice ca C cc, .int .i64 r, .bool true] (((w5.setCell ⟨p + 1, 0, none⟩ (.slice ca C cc)).setCell ⟨p + 1, 1, none⟩ (.int .i64 r)).setCell ⟨p + 1, 2, none⟩ (.bool true)).drew ∧ Kp w (((w5.setCell ⟨p + 1, 0, none⟩ (.slice ca C cc)).setCell ⟨p + 1, 1, none⟩ (.int .i64 r)).setCell ⟨p + 1, 2, none⟩ (.bool true)).drew ∧ ((((w5.setCell ⟨p + 1, 0, none⟩ (.slice ca C cc)).setCell ⟨p + 1, 1, none⟩ (.int .i64 r)).setCell ⟨p + 1, 2, none⟩ (.bool true)).drew).ownsRow w.heap.size 110 8 (.slice ca C cc) C (flatI x2.c)) := by
              have hn : w.heap.size ≤ p + 1 := by have := HPW.out; omega
              refine ⟨(((HBX.out.set 0 (.slice ca C cc)).set 1 (.int .i64 r)).set 2 (.bool true)).kp (kp_drew _), kp_trans (kp_new (kp_new (kp_new HK5.out hn) hn) hn) (kp_drew _), ?_⟩
              have hr := H5.out.row
              rw [HC.out] at hr
              have f3 : Fr (On (p + 1)) w5 (((w5.setCell ⟨p + 1, 0, none⟩ (.slice ca C cc)).setCell ⟨p + 1, 1, none⟩ (.int .i64 r)).setCell ⟨p + 1, 2, none⟩ (.bool true)).drew := (((fr_set (p + 1) 0 _ w5).trans (fr_set (p + 1) 1 _ _)).trans (fr_set (p + 1) 2 _ _)).trans (Fr.of_below (kp_drew _))
              have hr2 := row_fr hr f3 (fun j hj q => by have h1 := (hr.lt j hj).1; have h2 := HLT.out; unfold On at q; omega)
              refine ⟨hr2.1, ?_⟩
              rcases hr2.2 with q | ⟨g, cap, cur, q1, q2, q3⟩
              · exact .inl q
              · exact .inr ⟨g, cap, cur, q1, Nat.le_trans H2.out.1.size q2, q3⟩
            go_upto_region 11 with fail
            go_region
            change Exit.then _ _ _ _ (((w5.setCell ⟨p + 1, 0, none⟩ (.slice ca C cc)).setCell ⟨p + 1, 1, none⟩ (.int .i64 r)).setCell ⟨p + 1, 2, none⟩ (.bool true)).drew
            generalize (((w5.setCell ⟨p + 1, 0, none⟩ (.slice ca C cc)).setCell ⟨p + 1, 1, none⟩ (.int .i64 r)).setCell ⟨p + 1, 2, none⟩ (.bool true)).drew = w6 at HZ ⊢
            clear b0 b1 b2 f0 f1 f2 c4 c5 c6 e3
            go_wp2_with fail
            (try simp only [Exit.inBlock, Exit.then])
            refine bodyPost_ret (results_box2 rfl rfl HZ.out.1 hT1 hT2 sizeProg) rfl ?_
            rw [HRX.out]
            exact ⟨HZ.out.2.1, _, by rw [HRR.out]; rfl, by rw [HC.out]; exact HZ.out.2.2⟩
          · have i1 : (cs == 1) = false := by simp; omega
            have HRX : Hid (R = (0, x2.c, x2.r, false)) := by
              show _ = _
              rw [HR.out]; unfold cmpE; rw [if_neg (by rw [HSB.out]; simp), HX2.out.1, if_neg (by rw [HG.out, HC.out]; simp; omega), if_neg s0, i1]
            have HZ : Hid (Lc 32 (p + 1) [.slice ca C cc, .int .i64 r, .bool false] (((w5.setCell ⟨p + 1, 0, none⟩ (.slice ca C cc)).setCell ⟨p + 1, 1, none⟩ (.int .i64 r)).setCell ⟨p + 1, 2, none⟩ (.bool false)).drew ∧ Kp w (((w5.setCell ⟨p + 1, 0, none⟩ (.slice ca C cc)).setCell ⟨p + 1, 1, none⟩ (.int .i64 r)).setCell ⟨p + 1, 2, none⟩ (.bool false)).drew ∧ ((((w5.setCell ⟨p + 1, 0, none⟩ (.slice ca C cc)).setCell ⟨p + 1, 1, none⟩ (.int .i64 r)).setCell ⟨p + 1, 2, none⟩ (.bool false)).drew).ownsRow w.heap.size 110 8 (.slice ca C cc) C (flatI x2.c)) := by
              have hn : w.heap.size ≤ p + 1 := by have := HPW.out; omega
              refine ⟨(((HBX.out.set 0 (.slice ca C cc)).set 1 (.int .i64 r)).set 2 (.bool false)).kp (kp_drew _), kp_trans (kp_new (kp_new (kp_new HK5.out hn) hn) hn) (kp_drew _), ?_⟩
              have hr := H5.out.row
              rw [HC.out] at hr
              have f3 : Fr (On (p + 1)) w5 (((w5.setCell ⟨p + 1, 0, none⟩ (.slice ca C cc)).setCell ⟨p + 1, 1, none⟩ (.int .i64 r)).setCell ⟨p + 1, 2, none⟩ (.bool false)).drew := (((fr_set (p + 1) 0 _ w5).trans (fr_set (p + 1) 1 _ _)).trans (fr_set (p + 1) 2 _ _)).trans (Fr.of_below (kp_drew _))
              have hr2 := row_fr hr f3 (fun j hj q => by have h1 := (hr.lt j hj).1; have h2 := HLT.out; unfold On at q; omega)
              refine ⟨hr2.1, ?_⟩
              rcases hr2.2 with q | ⟨g, cap, cur, q1, q2, q3⟩
              · exact .inl q
              · exact .inr ⟨g, cap, cur, q1, Nat.le_trans H2.out.1.size q2, q3⟩
            go_upto_region 11 with fail
            go_region
            change Exit.then _ _ _ _ (((w5.setCell ⟨p + 1, 0, none⟩ (.slice ca C cc)).setCell ⟨p + 1, 1, none⟩ (.int .i64 r)).setCell ⟨p + 1, 2, none⟩ (.bool false)).drew
            generalize (((w5.setCell ⟨p + 1, 0, none⟩ (.slice ca C cc)).setCell ⟨p + 1, 1, none⟩ (.int .i64 r)).setCell ⟨p + 1, 2, none⟩ (.bool false)).drew = w6 at HZ ⊢
            clear b0 b1 b2 f0 f1 f2 c4 c5 c6 e3
            go_wp2_with fail
            (try simp only [Exit.inBlock, Exit.then])
            refine bodyPost_ret (results_box2 rfl rfl HZ.out.1 hT1 hT2 sizeProg) rfl ?_
            rw [HRX.out]
            exact ⟨HZ.out.2.1, _, by rw [HRR.out]; rfl, by rw [HC.out]; exact HZ.out.2.2⟩
end
end Go.Proofs.YtalmajiflmejcaaGreat
/- The statements' own 'compiled': a pattern's program, by the document. -/
namespace Go.Proofs.YtalmajiflmejcaaGreat
open Go.ChangeShapes Go.WideShapes Go.ChangeAt Go.RowKit
set_option linter.unusedVariables false
set_option linter.unusedSimpArgs false
/-- Code, rounds, fold; of what is no pattern nothing. -/
def cpdE (s : ByteArray) (fold : Bool) : List Ins × Nat × Bool :=
  match refF s ⟨#[]⟩ with
  | .error _ => ([], 0, false)
  | .ok (root, r) => (cmpE (r.nds.map Nd.q) root r.g r.cs fold).2
def CpdP (w : World) (X : List Ins × Nat × Bool) (e : Ending) (w' : World) : Prop :=
  Kp w w' ∧ ∃ cv, e = .returned (.agg #[cv, .int .i64 X.2.1, .bool X.2.2]) ∧ w'.ownsRow w.heap.size 110 8 cv X.1.length (flatI X.1)
theorem refF_err {s last : ByteArray} {n p : Nat} (h : refF s last = .error (n, p)) : n ≠ 0 := by
  unfold refF at h
  split at h
  · injection h with h; injection h with h1 h2; omega
  simp only at h
  split at h
  · rename_i q; injection h with h; injection h with h1 h2; rw [← h1]; exact q
  split at h
  · injection h with h; injection h with h1 h2; omega
  · cases h
theorem refF_len {s last : ByteArray} {X : Nat × FS} (h : refF s last = .ok X) : X.2.nds.length ≤ 400 := by
  unfold refF at h
  split at h
  · cases h
  simp only at h
  split at h
  · cases h
  split at h
  · cases h
  · rename_i q; injection h with h; rw [← h]; omega
section
variable {w : World}
set_option maxHeartbeats 4000000 in
set_option maxRecDepth 100000 in
theorem compiled_any (s : ByteArray) (fold : Bool) (w : World) : Calls Tryz.prog 21 #[.string s, .bool fold] w (CpdP w (cpdE s fold)) := by
  obtain ⟨R, hR⟩ : ∃ R, cpdE s fold = R := ⟨_, rfl⟩
  rw [hR]
  obtain ⟨dT, hT1, hT2⟩ : ∃ d, Tryz.prog.underlying 32 = some d ∧ d.isRow = true := ⟨_, Tryz.underlying32, rfl⟩
  obtain ⟨PR, hPR⟩ : ∃ PR, refF s ⟨#[]⟩ = PR := ⟨_, rfl⟩
  obtain ⟨p, hp⟩ : ∃ p, w.heap.size = p := ⟨_, rfl⟩
  have HPW : Hid (w.heap.size = p) := hp
  obtain ⟨W1, hW1⟩ : ∃ W1, w.alloc (.cells #[.slice none 0 0, .int .i64 0, .bool false] 32) = W1 := ⟨_, rfl⟩
  have H1 : Hid (Kp w W1 ∧ Lc 32 p [.slice none 0 0, .int .i64 0, .bool false] W1) := by
    rw [← hW1, ← hp]
    exact ⟨kp_alloc _ _, Lc.new w [.slice none 0 0, .int .i64 0, .bool false] _⟩
  have HC1 : Hid (Calls Tryz.prog 50 #[.string s, .string ⟨#[]⟩] W1 (RefP W1 PR)) := by rw [← hPR]; exact refparse_any s ⟨#[]⟩ W1
  have HPR : Hid (refF s ⟨#[]⟩ = PR) := hPR
  have HR : Hid (cpdE s fold = R) := hR
  clear hPR hR
  go_enter Tryz.func21, Tryz.ntmps21
  go_upto_region 1 with fail
  try rw [hW1]
  try rw [hp]
  clear hW1 hp
  cases PR with
  | error E =>
    obtain ⟨n, pl⟩ := E
    have HNZ : Hid (n ≠ 0) := refF_err HPR.out
    have HRX : Hid (R = ([], 0, false)) := by show _ = _; rw [← HR.out]; unfold cpdE; rw [HPR.out]
    have i0 : ((n : Int) != 0) = true := by have := HNZ.out; simp; omega
    go_upto_region 3 with (go_at_call 50; refine Calls.mono HC1.out ?_; rintro e w2 ⟨q1, q2⟩; simp only at q2; subst q2; unfold patZ; have H2 : Hid (Kp w (w2.alloc (.cells #[.slice none 0 0, .int .i64 0, .int .i64 0, .int .u8 0] 92)) ∧ Lc 32 p [.slice none 0 0, .int .i64 0, .bool false] (w2.alloc (.cells #[.slice none 0 0, .int .i64 0, .int .i64 0, .int .u8 0] 92))) := ⟨kp_trans (kp_trans H1.out.1 q1) (kp_alloc _ _), (H1.out.2.kp q1).kp (kp_alloc _ _)⟩; clear q1)
    generalize w2.alloc (.cells #[.slice none 0 0, .int .i64 0, .int .i64 0, .int .u8 0] 92) = W2 at H2 ⊢
    go_wp2_with (refine wpList_store_box H2.out.2 0 [.slice none 0 0, .int .i64 0, .bool false] rfl 32 (.tmp 4) (.tmp 18) rfl rfl rfl (Nat.le_refl 3) sizeProg (by intro v hv; simp only [List.mem_cons, List.not_mem_nil, or_false] at hv; rcases hv with rfl | rfl | rfl <;> rfl) (l' := [.slice none 0 0, .int .i64 0, .bool false]) rfl ?_; intro w3 q1 q2 q3; have H3 : Hid (Lc 32 p [.slice none 0 0, .int .i64 0, .bool false] w3 ∧ Fr (On p) W2 w3) := ⟨q1, q2⟩; clear q1 q2 q3)
    (try simp only [Exit.inBlock, Exit.then])
    refine bodyPost_ret (results_box1 rfl rfl H3.out.1 hT1 hT2 sizeProg) rfl ?_
    rw [HRX.out]
    exact ⟨H2.out.1.trans (H3.out.2.below H2.out.1.size fun k hk q => by unfold On at q; have := HPW.out; omega), _, rfl, World.ownsRow_nil _ _ _ _⟩
  | ok X =>
    obtain ⟨root, r⟩ := X
    have HLN : Hid ((r.nds.map Nd.q).length ≤ 1000000) := by have := refF_len HPR.out; simp only at this; show _ ≤ _; simp only [List.length_map]; omega
    obtain ⟨C, hC⟩ : ∃ C, cmpE (r.nds.map Nd.q) root r.g r.cs fold = C := ⟨_, rfl⟩
    have HRX : Hid (R = C.2) := by show _ = _; rw [← HR.out, ← hC]; unfold cpdE; rw [HPR.out]
    have HCC : Hid (cmpE (r.nds.map Nd.q) root r.g r.cs fold = C) := hC
    clear hC
    go_upto_region 2 with (go_at_call 50; refine Calls.mono HC1.out ?_; rintro e w2 ⟨q1, v, q2, q3⟩; obtain ⟨va, vc, rfl, u1, u2, u3⟩ := id q3; clear u3; obtain ⟨N, hN⟩ : ∃ N, (r.nds.map Nd.q).length = N := ⟨_, rfl⟩; rw [hN] at q2 q3 u1; subst q2; have H2 : Hid (Kp w (w2.alloc (.cells #[.slice va N vc, .int .i64 root, .int .i64 r.g, .int .u8 r.cs] 92)) ∧ Lc 32 p [.slice none 0 0, .int .i64 0, .bool false] (w2.alloc (.cells #[.slice va N vc, .int .i64 root, .int .i64 r.g, .int .u8 r.cs] 92)) ∧ Lc 92 w2.heap.size [.slice va N vc, .int .i64 root, .int .i64 r.g, .int .u8 r.cs] (w2.alloc (.cells #[.slice va N vc, .int .i64 root, .int .i64 r.g, .int .u8 r.cs] 92)) ∧ Pt (w2.alloc (.cells #[.slice va N vc, .int .i64 root, .int .i64 r.g, .int .u8 r.cs] 92)) (.slice va N vc) (r.nds.map Nd.q)) := ⟨kp_trans (kp_trans H1.out.1 q1) (kp_alloc _ _), (H1.out.2.kp q1).kp (kp_alloc _ _), Lc.new w2 [.slice va N vc, .int .i64 root, .int .i64 r.g, .int .u8 r.cs] _, q3.kp (kp_alloc _ _)⟩; clear q1 q3 hN)
    obtain ⟨b, hb⟩ : ∃ b, w2.heap.size = b := ⟨_, rfl⟩
    generalize w2.alloc (.cells #[.slice va N vc, .int .i64 root, .int .i64 r.g, .int .u8 r.cs] 92) = W2 at H2 ⊢
    rw [hb] at H2 ⊢
    clear hb
    have a0 : W2.cell? ⟨b, 0, none⟩ = some (.slice va N vc) := H2.out.2.2.1.at rfl
    have a1 : W2.cell? ⟨b, 1, none⟩ = some (.int .i64 root) := H2.out.2.2.1.at rfl
    have a2 : W2.cell? ⟨b, 2, none⟩ = some (.int .i64 r.g) := H2.out.2.2.1.at rfl
    have a3 : W2.cell? ⟨b, 3, none⟩ = some (.int .u8 r.cs) := H2.out.2.2.1.at rfl
    have HC2 : Hid (Calls Tryz.prog 51 #[.agg #[.slice va N vc, .int .i64 root, .int .i64 r.g, .int .u8 r.cs], .bool fold] W2 (CmpP W2 C)) := by
      have := dcompile_any (root := root) (G := r.g) (cs := r.cs) H2.out.2.2.2 HLN.out fold
      rw [HCC.out] at this
      exact this
    obtain ⟨ce, cc, cr, cf⟩ := C
    go_upto_region 5 with (go_at_call 51; refine Calls.mono HC2.out ?_; rintro e w4 ⟨q1, cv, q2, q3⟩; simp only at q2 q3; subst q2; obtain ⟨ka, kc, rfl, u3, u4⟩ := owns_form q3; obtain ⟨M, hM⟩ : ∃ M, cc.length = M := ⟨_, rfl⟩; rw [hM] at q3 u3 ⊢; have HM : Hid (cc.length = M) := hM; have H4 : Hid (Kp w (w4.alloc (.cells #[.slice ka M kc, .int .i64 cr, .bool cf] 32)) ∧ Lc 32 p [.slice none 0 0, .int .i64 0, .bool false] (w4.alloc (.cells #[.slice ka M kc, .int .i64 cr, .bool cf] 32)) ∧ Lc 32 w4.heap.size [.slice ka M kc, .int .i64 cr, .bool cf] (w4.alloc (.cells #[.slice ka M kc, .int .i64 cr, .bool cf] 32)) ∧ (w4.alloc (.cells #[.slice ka M kc, .int .i64 cr, .bool cf] 32)).ownsRow W2.heap.size 110 8 (.slice ka M kc) M (flatI cc)) := ⟨kp_trans (kp_trans H2.out.1 q1) (kp_alloc _ _), (H2.out.2.1.kp q1).kp (kp_alloc _ _), Lc.new w4 [.slice ka M kc, .int .i64 cr, .bool cf] _, row_kp q3 (kp_alloc _ _)⟩; clear q1 q3 hM a0 a1 a2 a3)
    obtain ⟨b8, hb⟩ : ∃ b, w4.heap.size = b := ⟨_, rfl⟩
    generalize w4.alloc (.cells #[.slice ka M kc, .int .i64 cr, .bool cf] 32) = W4 at H4 ⊢
    rw [hb] at H4 ⊢
    clear hb
    have e0 : W4.cell? ⟨b8, 0, none⟩ = some (.slice ka M kc) := H4.out.2.2.1.at rfl
    have e1 : W4.cell? ⟨b8, 1, none⟩ = some (.int .i64 cr) := H4.out.2.2.1.at rfl
    have e2 : W4.cell? ⟨b8, 2, none⟩ = some (.bool cf) := H4.out.2.2.1.at rfl
    go_wp2_with (refine wpList_store_box H4.out.2.1 0 [.slice ka M kc, .int .i64 cr, .bool cf] rfl 32 (.tmp 4) (.tmp 25) rfl rfl rfl (Nat.le_refl 3) sizeProg (by intro v hv; simp only [List.mem_cons, List.not_mem_nil, or_false] at hv; rcases hv with rfl | rfl | rfl <;> rfl) (l' := [.slice ka M kc, .int .i64 cr, .bool cf]) rfl ?_; intro w5 q1 q2 q3; have H5 : Hid (Lc 32 p [.slice ka M kc, .int .i64 cr, .bool cf] w5 ∧ Fr (On p) W4 w5) := ⟨q1, q2⟩; clear q1 q2 q3 e0 e1 e2)
    (try simp only [Exit.inBlock, Exit.then])
    refine bodyPost_ret (results_box1 rfl rfl H5.out.1 hT1 hT2 sizeProg) rfl ?_
    rw [HRX.out]
    refine ⟨H4.out.1.trans (H5.out.2.below H4.out.1.size fun k hk q => by unfold On at q; have := HPW.out; omega), _, rfl, ?_⟩
    have hr2 := row_fr H4.out.2.2.2 H5.out.2 (fun j hj q => by have h1 := (H4.out.2.2.2.lt j hj).1; have h2 := H2.out.2.1.lt; unfold On at q; omega)
    simp only [HM.out]
    refine ⟨hr2.1, ?_⟩
    rcases hr2.2 with q | ⟨g, cap, cur, q1, q2, q3⟩
    · exact .inl q
    · exact .inr ⟨g, cap, cur, q1, Nat.le_trans H2.out.1.size q2, q3⟩
end
end Go.Proofs.YtalmajiflmejcaaGreat
/- The matcher's small calls: within, placeOr, isWord. -/
namespace Go.Proofs.YtalmajiflmejcaaGreat
open Go.ChangeShapes Go.WideShapes Go.ChangeAt Go.RowKit
set_option linter.unusedVariables false
set_option linter.unusedSimpArgs false
section
theorem within_any (n m : Int) (w : World) : Calls Tryz.prog 73 #[.int .i64 n, .int .i64 m] w fun e w' => e = .returned (.bool (decide (0 ≤ n ∧ n ≤ m))) ∧ w' = w := by
  by_cases h1 : 0 ≤ n
  · have d1 : decide (n ≥ 0) = true := decide_eq_true h1
    have d1' : decide (0 ≤ n) = true := decide_eq_true h1
    have e : decide (0 ≤ n ∧ n ≤ m) = decide (n ≤ m) := by rw [decide_eq_decide]; omega
    rw [e]
    clear e
    go_enter Tryz.func73, Tryz.ntmps73
    go_wp2_with fail
    go_ret
    exact ⟨rfl, rfl⟩
  · have d1 : decide (n ≥ 0) = false := decide_eq_false h1
    have d1' : decide (0 ≤ n) = false := decide_eq_false h1
    have e : decide (0 ≤ n ∧ n ≤ m) = false := decide_eq_false (by omega)
    rw [e]
    clear e
    go_enter Tryz.func73, Tryz.ntmps73
    go_wp2_with fail
    go_ret
    exact ⟨rfl, rfl⟩
theorem placeOr_any (a b : Int) (w : World) : Calls Tryz.prog 110 #[.int .i64 a, .int .i64 b] w fun e w' => e = .returned (.int .i64 (if a = -1 then b else a)) ∧ w' = w := by
  by_cases h1 : a = -1
  · subst h1
    rw [if_pos rfl]
    go_enter Tryz.func110, Tryz.ntmps110
    go_wp2_with fail
    go_ret
    exact ⟨rfl, rfl⟩
  · rw [if_neg h1]
    have d1 : (a == -1) = false := by simpa using h1
    go_enter Tryz.func110, Tryz.ntmps110
    go_wp2_with fail
    go_ret
    exact ⟨rfl, rfl⟩
/-- Is there a byte of a word at a place? -/
def wrdAt (s : ByteArray) (k : Int) : Bool := decide (0 ≤ k) && (decide (k < (s.size : Int)) && isB 119 ((s[k.toNat]?.getD 0).toNat : Int))
set_option maxHeartbeats 2000000 in
theorem isWord_m (s : ByteArray) (fo : Bool) (k : Int) (w : World) : Calls Tryz.prog 185 #[.agg #[.string s, .bool fo], .int .i64 k] w fun e w' => e = .returned (.bool (wrdAt s k)) ∧ Kp w w' := by
  unfold wrdAt
  obtain ⟨Z, hZ⟩ : ∃ Z, s.size = Z := ⟨_, rfl⟩
  by_cases h1 : 0 ≤ k
  · have d1 : decide (k ≥ 0) = true := decide_eq_true h1
    have d1' : decide (0 ≤ k) = true := decide_eq_true h1
    rw [d1', Bool.true_and]
    by_cases h2 : k < (Z : Int)
    · obtain ⟨n, rfl⟩ : ∃ n : Nat, k = (n : Int) := ⟨k.toNat, by omega⟩
      have hn : n < s.size := by omega
      have d2 : decide ((n : Int) < (s.size : Int)) = true := decide_eq_true (by omega)
      have d2n : decide (n < s.size) = true := decide_eq_true hn
      have d3 : decide ((n : Int) < (Z : Int)) = true := decide_eq_true h2
      rw [hZ, d3, Bool.true_and, Int.toNat_natCast]
      have e : (s[n]?.getD 0).toNat = (s[n]).toNat := by rw [getElem?_pos s n hn]; rfl
      rw [e]
      obtain ⟨c, hc⟩ : ∃ c, (s[n]).toNat = c := ⟨_, rfl⟩
      rw [hc]
      have HK : Hid (∀ x, Calls Tryz.prog 205 #[.int .u8 119, .int .u8 (c : Int)] x fun e w' => e = .returned (.bool (isB 119 (c : Int))) ∧ Kp x w') := fun x => kIs_any 119 _ x
      generalize isB 119 (c : Int) = RB at HK ⊢
      clear e hZ h2 d3
      go_enter Tryz.func185, Tryz.ntmps185
      go_wp2_with fail
      refine Calls.mono (HK.out _) ?_
      rintro e w5 ⟨rfl, q1⟩
      have H5 : Hid (Kp w w5) := kp_trans (kp_alloc _ _) q1
      clear q1
      go_wp2_with fail
      go_ret
      exact ⟨rfl, H5.out⟩
    · have d2 : decide (k < (s.size : Int)) = false := decide_eq_false (by omega)
      rw [hZ, decide_eq_false h2, Bool.false_and]
      clear hZ h2
      go_enter Tryz.func185, Tryz.ntmps185
      go_wp2_with fail
      go_ret
      exact ⟨rfl, kp_alloc _ _⟩
  · have d1 : decide (k ≥ 0) = false := decide_eq_false h1
    have d1' : decide (0 ≤ k) = false := decide_eq_false h1
    rw [d1', Bool.false_and]
    go_enter Tryz.func185, Tryz.ntmps185
    go_wp2_with fail
    go_ret
    exact ⟨rfl, kp_alloc _ _⟩
end
end Go.Proofs.YtalmajiflmejcaaGreat
/- The matcher: repeats. -/
namespace Go.Proofs.YtalmajiflmejcaaGreat
open Go.ChangeShapes Go.WideShapes Go.ChangeAt Go.RowKit
set_option linter.unusedVariables false
set_option linter.unusedSimpArgs false
def smeB (fo : Bool) (a b : Int) : Bool := a == b || fo && smI a == smI b
def byt (s : ByteArray) (k : Nat) : Nat := (s[k]?.getD 0).toNat
theorem byt_eq {s : ByteArray} {k : Nat} (h : k < s.size) : byt s k = (s[k]).toNat := by unfold byt; rw [getElem?_pos s k h]; rfl
/-- Do so many bytes from a place on come at another, too? -/
def rptL (s : ByteArray) (fo : Bool) : Nat → Nat → Nat → Bool
  | _, _, 0 => true
  | a, k, n + 1 => smeB fo (byt s a) (byt s k) && rptL s fo (a + 1) (k + 1) n
def rptB (s : ByteArray) (fo : Bool) (a b k : Nat) : Bool := if s.size - k < b - a then false else rptL s fo a k (b - a)
set_option maxHeartbeats 4000000 in
theorem repeats_m (s : ByteArray) (fo : Bool) {a b k : Nat} (hab : a ≤ b) (hb : b ≤ s.size) (hk : k ≤ s.size) (hs : s.size ≤ 1000000) (w : World) : Calls Tryz.prog 204 #[.agg #[.string s, .bool fo], .int .i64 a, .int .i64 b, .int .i64 k] w fun e w' => e = .returned (.bool (rptB s fo a b k)) ∧ Kp w w' := by
  obtain ⟨R, hR⟩ : ∃ R, rptB s fo a b k = R := ⟨_, rfl⟩
  rw [hR]
  have HR : Hid (rptB s fo a b k = R) := hR
  clear hR
  have hI : (a : Int) ≤ (b : Int) ∧ (b : Int) ≤ (s.size : Int) ∧ (k : Int) ≤ (s.size : Int) ∧ (s.size : Int) ≤ 1000000 := by omega
  by_cases h1 : s.size - k < b - a
  · have HRX : Hid (R = false) := by show _ = _; rw [← HR.out]; unfold rptB; rw [if_pos h1]
    have d1 : decide ((b : Int) - (a : Int) > (s.size : Int) - (k : Int)) = true := decide_eq_true (by omega)
    have d1' : decide ((s.size : Int) - (k : Int) < (b : Int) - (a : Int)) = true := decide_eq_true (by omega)
    go_enter Tryz.func204, Tryz.ntmps204
    go_wp2_with fail
    go_ret
    rw [HRX.out]
    exact ⟨rfl, kp_alloc _ _⟩
  · have HRX : Hid (rptL s fo a k (b - a) = R) := by show _ = _; rw [← HR.out]; unfold rptB; rw [if_neg h1]
    have d1 : decide ((b : Int) - (a : Int) > (s.size : Int) - (k : Int)) = false := decide_eq_false (by omega)
    have d1' : decide ((s.size : Int) - (k : Int) < (b : Int) - (a : Int)) = false := decide_eq_false (by omega)
    have HL : Hid _ := Lc.new w [.string s, .bool fo] 154
    obtain ⟨m, hm⟩ : ∃ m, w.heap.size = m := ⟨_, rfl⟩
    obtain ⟨W1, hW1⟩ : ∃ W1, w.alloc (.cells #[.string s, .bool fo] 154) = W1 := ⟨_, rfl⟩
    have H1 : Hid (Lc 154 m [.string s, .bool fo] W1 ∧ Kp w W1) := by
      rw [← hW1, ← hm]; exact ⟨HL.out, kp_alloc _ _⟩
    clear HL HR
    go_enter Tryz.func204, Tryz.ntmps204
    go_upto_region 1 with fail
    try rw [hW1]
    try rw [hm]
    clear hW1 hm
    have t0 : W1.cell? ⟨m, 0, none⟩ = some (.string s) := H1.out.1.at rfl
    go_wp2_with fail
    clear t0
    go_loopw [22] (fun v wr => ∃ i : Nat, i ≤ b - a ∧ v = .int .i64 i ∧ Hid (Kp W1 wr ∧ rptL s fo (a + i) (k + i) (b - a - i) = R)) (fun v _ => (b - a) - (intOf v).toNat)
    case atStart => exact ⟨0, Nat.zero_le _, rfl, Below.refl _ _, HRX.out⟩
    case round =>
      obtain ⟨i, hi, rfl, hq⟩ := hrel
      have HQ : Hid (Kp W1 wr ∧ rptL s fo (a + i) (k + i) (b - a - i) = R) := hq
      clear hq d1 d1'
      have t0 : wr.cell? ⟨m, 0, none⟩ = some (.string s) := (H1.out.1.kp HQ.out.1).at rfl
      have t1 : wr.cell? ⟨m, 1, none⟩ = some (.bool fo) := (H1.out.1.kp HQ.out.1).at rfl
      by_cases hlt : i < b - a
      · have dl : decide ((i : Int) < (b : Int) - (a : Int)) = true := decide_eq_true (by omega)
        obtain ⟨p, hp⟩ : ∃ p, a + i = p := ⟨_, rfl⟩
        obtain ⟨q, hq⟩ : ∃ q, k + i = q := ⟨_, rfl⟩
        have hp2 : p < s.size := by omega
        have hq2 : q < s.size := by omega
        have ep : (a : Int) + (i : Int) = (p : Int) := by omega
        have eq : (k : Int) + (i : Int) = (q : Int) := by omega
        have hpi : (0 : Int) ≤ (p : Int) ∧ (p : Int) < (s.size : Int) := by omega
        have hqi : (0 : Int) ≤ (q : Int) ∧ (q : Int) < (s.size : Int) := by omega
        obtain ⟨x, hx⟩ : ∃ x, (s[p]).toNat = x := ⟨_, rfl⟩
        obtain ⟨y, hy⟩ : ∃ y, (s[q]).toNat = y := ⟨_, rfl⟩
        obtain ⟨SB, hSB⟩ : ∃ SB, smeB fo x y = SB := ⟨_, rfl⟩
        have HK : Hid (∀ z, Calls Tryz.prog 216 #[.int .u8 (x : Int), .int .u8 (y : Int), .bool fo] z fun e w' => e = .returned (.bool SB) ∧ w' = z) := fun z => by rw [← hSB]; exact kSame_any _ _ _ z
        have HE : Hid ((SB && rptL s fo (a + (i + 1)) (k + (i + 1)) (b - a - (i + 1))) = R) := by
          have e := HQ.out.2
          rw [show b - a - i = (b - a - (i + 1)) + 1 by omega, rptL, hp, hq, byt_eq hp2, byt_eq hq2, hx, hy, hSB] at e
          rw [show a + (i + 1) = p + 1 by omega, show k + (i + 1) = q + 1 by omega]
          exact e
        clear hSB hp hq
        go_upto_region 6 with fail
        go_quiet ((go_at_call 216; exact Calls.quiet_of_same (HK.out _)))
        cases SB with
        | true =>
          go_wp2_with fail
          go_roundw
          case rel => exact ⟨i + 1, by omega, by go_num, kp_trans HQ.out.1 (kp_drewN _ _), HE.out⟩
          case measure => simp only [intOf]; omega
        | false =>
          have HRY : Hid (R = false) := HE.out.symm
          go_wp2_with fail
          go_ret
          rw [HRY.out]
          exact ⟨rfl, kp_trans (kp_trans H1.out.2 HQ.out.1) (kp_drewN _ _)⟩
      · have dl : decide ((i : Int) < (b : Int) - (a : Int)) = false := decide_eq_false (by omega)
        have HRY : Hid (R = true) := by
          have e := HQ.out.2
          rw [show b - a - i = 0 by omega, rptL] at e
          exact e.symm
        go_wp2_with fail
        go_ret
        rw [HRY.out]
        exact ⟨rfl, kp_trans H1.out.2 HQ.out.1⟩
end Go.Proofs.YtalmajiflmejcaaGreat
