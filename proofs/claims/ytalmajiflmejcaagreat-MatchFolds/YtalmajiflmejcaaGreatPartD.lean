/- Texts that the proof of the law stands on: Fy1, Fy2, Fy3, Fg1, Fi1, Fh1, Fj0, Rh0. -/
import Derived.Test.YtalmajiflmejcaaGreatPartC
import Derived.Test.YtalmajiflmejcaaGreatPartB
import Derived.Test.YtalmajiflmejcaaGreatPartA
import Derived.Deep.RegionHeld3
/- The document's reader: many, of a piece that is there. -/
namespace Go.Proofs.YtalmajiflmejcaaGreat
open Go.ChangeShapes Go.WideShapes Go.ChangeAt Go.RowKit
set_option linter.unusedVariables false
set_option linter.unusedSimpArgs false
section
variable {B rb bb : Nat} {s last : ByteArray} {r r' : FS} {vn vn1 vn2 : Qv} {kv kv1 kv2 : Value} {b : Bs} {w w1 w2 : World}
/-- A piece is put in another's place. -/
theorem Bb.swap (h : Bb B rb bb vn kv b w) (hr : Fq B rb s last r vn w) {kb L cap i : Nat} (hkv : kv = .slice (some ⟨kb, 0, none⟩) (L + 1) cap) (hL : b.ks.length = L + 1) :
    Fq B rb s last r vn ((w.setCell ⟨kb, L, none⟩ (.int .i64 i)).setCell ⟨bb, 1, none⟩ (.bool false)) ∧ Bb B rb bb vn kv ⟨b.ks.dropLast ++ [i], false⟩ ((w.setCell ⟨kb, L, none⟩ (.int .i64 i)).setCell ⟨bb, 1, none⟩ (.bool false)) ∧
      AdvB rb bb vn kv w vn kv ((w.setCell ⟨kb, L, none⟩ (.int .i64 i)).setCell ⟨bb, 1, none⟩ (.bool false)) := by
  have hob : kv.ownBlock = some kb := by rw [hkv]; rfl
  have hne : kb ≠ bb := fun e => h.ob (by rw [hob, e])
  have f : Fr (fun j => j = bb ∨ kv.ownBlock = some j) w ((w.setCell ⟨kb, L, none⟩ (.int .i64 i)).setCell ⟨bb, 1, none⟩ (.bool false)) := (Fr.setCell (S := fun j => j = bb ∨ kv.ownBlock = some j) (.inr hob) w).trans (Fr.setCell (.inl rfl) _)
  refine ⟨hr.off (fun j hj => ?_) f, ⟨h.ge, (h.box.other hne).set 1 _, ?_, h.off, h.bo, h.ob⟩, f.mono (fun j _ q => .inr q), .inl rfl, fun _ _ q => q, .inl rfl⟩
  · rcases hj with rfl | hj
    · exact h.bo
    · exact h.off j hj
  · have hrow := h.row
    unfold KRow at hrow ⊢
    have hl2 : (b.ks.dropLast ++ [i]).length = b.ks.length := by simp [hL]
    rw [hl2]
    refine ⟨by simp [nums, hL], ?_⟩
    rcases hrow.2 with ⟨q, _⟩ | ⟨c, cp, cur, e, hb, hg, h1, h2, h3, h4⟩
    · rw [hkv] at q; cases q
    · have hcb : c = kb := by rw [hkv] at e; injection e with e _ _; injection e with e; injection e with e _ _; exact e.symm
      subst hcb
      refine .inr ⟨c, cp, cur.setIfInBounds L (.int .i64 i), e, hb, ?_, h1, h2, by simpa using h3, ?_⟩
      · rw [heap_setCell_other hne]; exact heap_setCell hg
      · rw [Array.toList_setIfInBounds, List.take_set, h4]
        have hn : nums b.ks = nums b.ks.dropLast ++ nums [b.ks.getLast (by intro q; rw [q] at hL; cases hL)] := by
          unfold nums; rw [← List.map_append, List.dropLast_concat_getLast]
        have hl3 : (nums b.ks.dropLast).length = L := by simp [nums, hL]
        rw [hn, List.set_append_right _ _ (by omega), hl3, Nat.sub_self]
        simp [nums]
/-- A call that makes one block kids leaves a branch that is not there alone. -/
theorem Bb.advx {q : Nat} (h : Bb B rb bb vn kv b w) (a : AdvX (some q) rb vn w vn1 w1) (hq : bb ≠ q) (hk : ∀ j, kv.ownBlock = some j → j ≠ q) : Bb B rb bb vn1 kv b w1 := by
  obtain ⟨q1, q2⟩ := row_advK h.row h.off.k a
  have hl := h.box.lt
  refine ⟨h.ge, h.box.fr a.fr (fun z => ?_), q1, fun j hj => ⟨q2 j hj, fun z => ?_⟩, ⟨⟨h.bo.1.1, ?_⟩, fun z => ?_⟩, h.ob⟩
  · rcases z with z | z
    · exact h.bo.1.1 z
    · exact h.bo.1.2 z
  · rcases a.kbs j (h.row.lt j hj).2 z with z | z
    · exact (h.off j hj).2 z
    · injection z with z; exact hk j hj z.symm
  · rcases a.own with e | e
    · rw [e]; exact h.bo.1.2
    · intro z; have := e _ z; omega
  · rcases a.kbs _ hl z with z | z
    · exact h.bo.2 z
    · injection z with z; exact hq z.symm
/-- What stands behind the node's kid: the box has its kids now. -/
theorem kid_node {m q p : Nat} {d : Nd} {x : World} (h : Mz B rb bb m s last r vn kv b w d x) (h0 : Fq B rb s last r vn w) (hb : Bb B rb bb vn kv b w) (hq : x.heap.size = q) :
    My B rb bb s last r vn kv b w ((x.setCell ⟨m, 10, none⟩ (.slice (some ⟨q, 0, none⟩) 1 1)).alloc (.cells #[.int .i64 p] 3)) ∧ Lc 195 m (d.cells (.slice (some ⟨q, 0, none⟩) 1 1)) ((x.setCell ⟨m, 10, none⟩ (.slice (some ⟨q, 0, none⟩) 1 1)).alloc (.cells #[.int .i64 p] 3)) ∧
      KRow B ((x.setCell ⟨m, 10, none⟩ (.slice (some ⟨q, 0, none⟩) 1 1)).alloc (.cells #[.int .i64 p] 3)) (.slice (some ⟨q, 0, none⟩) 1 1) [p] ∧ OffK rb vn (.slice (some ⟨q, 0, none⟩) 1 1) ∧ w.heap.size ≤ q := by
  subst hq
  have hsz := h.my.adv.fr.size
  have hm : m < x.heap.size := h.box.lt
  have hB := h.my.rr.hB
  refine ⟨(h.my.new (fr_set m 10 _ _) (by rw [h.eq]; exact Nat.le_refl _) h0 hb).kp (kp_alloc _ _), (h.box.set 10 _).kp (kp_alloc _ _), ⟨rfl, .inr ⟨x.heap.size, 1, #[.int .i64 p], rfl, hB, ?_, by simp, by simp [maxLen], rfl, rfl⟩⟩, fun j hj => ?_, hsz⟩
  · have := alloc_new (x.setCell ⟨m, 10, none⟩ (.slice (some ⟨x.heap.size, 0, none⟩) 1 1)) (.cells #[.int .i64 p] 3)
    rw [size_setCell] at this; exact this
  · simp only [Value.ownBlock, Option.some.injEq] at hj
    subst hj
    have := h.my.rr.lt
    exact ⟨by omega, fun q => by have := (h.my.rr.own _ q).2; omega⟩
end
end Go.Proofs.YtalmajiflmejcaaGreat
/- The document's reader: many, of a piece that is there. -/
namespace Go.Proofs.YtalmajiflmejcaaGreat
open Go.ChangeShapes Go.WideShapes Go.ChangeAt Go.RowKit
set_option linter.unusedVariables false
set_option linter.unusedSimpArgs false
section
variable {B rb bb : Nat} {s last : ByteArray} {r r' : FS} {vn vn1 vn2 : Qv} {kv kv1 kv2 : Value} {b : Bs} {w w1 w2 : World}
set_option maxHeartbeats 8000000 in
set_option maxRecDepth 100000 in
theorem many_go (h : Fq B rb s last r vn w) (hb : Bb B rb bb vn kv b w) (hm : b.may = true) (hne : b.ks ≠ []) (hl : b.ks.length < 50000) {sg : Nat} (hsg : sg ≠ 123) (at_ nx : Nat) :
    Calls Tryz.prog 168 #[.pointer (some ⟨rb, 0, none⟩), .pointer (some ⟨bb, 0, none⟩), .int .u8 sg, .int .i64 at_, .int .i64 nx] w (RetB B rb bb s last vn kv w (mnyF s sg at_ nx r b)) := by
  obtain ⟨p, hp⟩ : ∃ p, b.ks.getLastD 0 = p := ⟨_, rfl⟩
  have e : mnyF s sg at_ nx r b = ({ (nodeF { mnyN sg with kids := [p] } r).2 with k := nx }, ⟨b.ks.dropLast ++ [(nodeF { mnyN sg with kids := [p] } r).1], false⟩) := by
    unfold mnyF
    rw [if_neg (by rw [hm]; simp), if_neg hsg, hp]
    rfl
  rw [e]
  obtain ⟨L, hL⟩ : ∃ L, b.ks.length = L + 1 := ⟨b.ks.length - 1, by have := List.length_pos_iff.2 hne; omega⟩
  obtain ⟨ka, cap, hkv, v1, v2⟩ := owns_form hb.row
  rw [hL] at hkv v1
  have hgl : b.ks[L]? = some p := by
    rw [← hp, List.getLastD_eq_getLast?, List.getLast?_eq_getElem?, hL]
    simp only [Nat.add_sub_cancel]
    rw [List.getElem?_eq_getElem (by omega)]; rfl
  subst hkv
  obtain ⟨kb, rfl, _, _⟩ := krow_cell (v := .slice ka (L + 1) cap) hb.row hgl
  have H0 : Hid (Fq B rb s last r vn w ∧ Bb B rb bb vn (.slice (some ⟨kb, 0, none⟩) (L + 1) cap) b w) := ⟨h, hb⟩
  have HZ : Hid (Mz B rb bb w.heap.size s last r vn (.slice (some ⟨kb, 0, none⟩) (L + 1) cap) b w { op := 7, mx := -1 } (w.alloc (.cells (Nd.cells { op := 7, mx := -1 } (.slice none 0 0)).toArray 195))) := ⟨(My.start h hb).kp (kp_alloc _ _), Lc.new _ _ _, rfl⟩
  obtain ⟨m, hmm⟩ : ∃ m, w.heap.size = m := ⟨_, rfl⟩
  have k123 : ((sg : Int) == 123) = false := by simp; omega
  have HM : Hid (b.may = true ∧ b.ks[L]? = some p ∧ b.ks.length = L + 1) := ⟨hm, hgl, hL⟩
  have hL5 : L < 50000 := by omega
  obtain ⟨i9, hi9, z0, z1, z2⟩ := info_parts infoInt
  obtain ⟨dT, hT1, hT2⟩ := rowNd
  unfold maxLen at v2
  clear h hb e hm hsg hne hl hp hgl hL
  go_enter Tryz.func168, Tryz.ntmps168
  go_upto_region 1 with fail
  change Code.wp _ _ _ _ (w.alloc (.cells (Nd.cells { op := 7, mx := -1 } (.slice none 0 0)).toArray 195))
  rw [hmm] at HZ
  generalize w.alloc (.cells (Nd.cells { op := 7, mx := -1 } (.slice none 0 0)).toArray 195) = W1 at HZ ⊢
  clear hmm
  have b6 : W1.cell? ⟨m, 6, none⟩ = some (.int .i64 0) := HZ.out.box.at rfl
  have b7 : W1.cell? ⟨m, 7, none⟩ = some (.int .i64 (-1)) := HZ.out.box.at rfl
  have f6 := HZ.out.box.fz 6
  have f7 := HZ.out.box.fz 7
  by_cases s1 : sg = 43
  · have q1 : ((sg : Int) == 43) = true := by simp; omega
    have hd : mnyN sg = { op := 7, mn := 1, mx := -1 } := by unfold mnyN; rw [if_pos s1, if_neg (by omega)]
    have H2 : Hid (Mz B rb bb m s last r vn (.slice (some ⟨kb, 0, none⟩) (L + 1) cap) b w (mnyN sg) (W1.setCell ⟨m, 6, none⟩ (.int .i64 1))) := by rw [hd]; exact HZ.out.turn H0.out.1 H0.out.2 (fr_set _ _ _ _) (HZ.out.box.set 6 _)
    clear hd s1
    go_upto_region 7 with fail
    generalize (W1.setCell ⟨m, 6, none⟩ (.int .i64 1)) = wc at H2 ⊢
    try clear HZ
    try clear b6 b7 f6 f7
    obtain ⟨e0, e1, g0, g1⟩ := H2.out.my.br.cells
    rw [HM.out.1] at e1
    obtain ⟨kb', hkb, ep, fp⟩ := krow_cell (v := .slice (some ⟨kb, 0, none⟩) (L + 1) cap) (by have := H2.out.my.br.row; exact this) HM.out.2.1
    injection hkb with hkb
    injection hkb with hkb _ _
    subst hkb
    have d10 : wc.cell? ⟨m, 10, none⟩ = some (.slice none 0 0) := H2.out.box.at rfl
    have f10 := H2.out.box.fz 10
    have HQ : Hid _ := fun (p' : Nat) => kid_node (p := p') H2.out H0.out.1 H0.out.2 rfl
    obtain ⟨q, hq⟩ : ∃ q, wc.heap.size = q := ⟨_, rfl⟩
    have hmq : m < q := by rw [← hq]; exact H2.out.box.lt
    have hbq : bb < q := by rw [← hq]; exact H2.out.my.br.lt
    have d10a : ∀ ob, (wc.alloc ob).cell? ⟨m, 10, none⟩ = some (.slice none 0 0) := fun ob => (H2.out.box.kp (kp_alloc wc ob)).at rfl
    have f10a : ∀ ob, (wc.alloc ob).frozen? ⟨m, 10, none⟩ = false := fun ob => (H2.out.box.kp (kp_alloc wc ob)).fz 10
    clear d10 f10
    go_upto_region 20 with fail
    obtain ⟨W3, hW3⟩ : ∃ W3, (wc.setCell ⟨m, 10, none⟩ (.slice (some ⟨q, 0, none⟩) 1 1)).alloc (.cells #[.int .i64 p] 3) = W3 := ⟨_, rfl⟩
    have hk := HQ.out p
    rw [hq, hW3] at hk
    rw [hW3]
    have HK : Hid _ := hk
    have HN : Hid (∀ x, Kp W3 x → Calls Tryz.prog 142 #[.pointer (some ⟨rb, 0, none⟩), .agg (Nd.cells (mnyN sg) (.slice (some ⟨q, 0, none⟩) 1 1)).toArray] x (FAdd B rb s last (nodeF { mnyN sg with kids := [p] } r) vn (some q) x)) := fun x k => fnode_any (HK.out.1.rr.kp k) { mnyN sg with kids := [p] } (kv := .slice (some ⟨q, 0, none⟩) 1 1) (row_kp HK.out.2.2.1 k) HK.out.2.2.2.1
    have r0 : W3.cell? ⟨bb, 0, none⟩ = some (.slice (some ⟨kb, 0, none⟩) (L + 1) cap) := HK.out.1.br.cells.1
    have n0 := fun j v => HK.out.2.1.at (j := j) (v := v)
    have c0 := n0 0 _ rfl
    have c1 := n0 1 _ rfl
    have c2 := n0 2 _ rfl
    have c3 := n0 3 _ rfl
    have c4 := n0 4 _ rfl
    have c5 := n0 5 _ rfl
    have c6 := n0 6 _ rfl
    have c7 := n0 7 _ rfl
    have c8 := n0 8 _ rfl
    have c9 := n0 9 _ rfl
    have c10 := n0 10 _ rfl
    have HL3 : Hid (bb ≠ q ∧ kb ≠ q) := ⟨by omega, by have := (H0.out.2.row.lt kb rfl).2; have := HK.out.2.2.2.2; omega⟩
    clear n0 hW3 hk e0 e1 g0 g1 ep fp d10a f10a hq HQ H2
    obtain ⟨⟨ni, r2⟩, hnr⟩ : ∃ N, nodeF { mnyN sg with kids := [p] } r = N := ⟨_, rfl⟩
    rw [hnr] at HN
    have HNR : Hid (nodeF { mnyN sg with kids := [p] } r = (ni, r2)) := hnr
    clear hnr
    generalize mnyN sg = D at *
    unfold Nd.cells at HN
    go_region_with (go_at_call 142; refine Calls.mono (HN.out _ (by first | exact Below.refl _ _ | exact kp_drew _)) ?_; rintro e w5 ⟨rfl, vn5, q1, q2⟩; have H5 : Hid (Fq B rb s last r2 vn5 w5 ∧ Bb B rb bb vn5 (.slice (some ⟨kb, 0, none⟩) (L + 1) cap) b w5 ∧ Adv rb vn w vn5 w5) := ⟨q1, (HK.out.1.kp (by first | exact Below.refl _ _ | exact kp_drew _)).br.advx q2 HL3.out.1 (fun j hj => by injection hj with hj; exact hj ▸ HL3.out.2), ⟨(AdvX.trans (HK.out.1.kp (by first | exact Below.refl _ _ | exact kp_drew _)).adv q2).fr, (AdvX.trans (HK.out.1.kp (by first | exact Below.refl _ _ | exact kp_drew _)).adv q2).own, fun j hj hq => ((AdvX.trans (HK.out.1.kp (by first | exact Below.refl _ _ | exact kp_drew _)).adv q2).kbs j hj hq).elim .inl fun z => by injection z with z; have := HK.out.2.2.2.2; omega⟩⟩; clear q1 q2; obtain ⟨kb2, hkb2, u3, u4⟩ := krow_cell (v := .slice (some ⟨kb, 0, none⟩) (L + 1) cap) (by have := H5.out.2.1.row; exact this) HM.out.2.1; injection hkb2 with hkb2; injection hkb2 with hkb2 _ _; subst hkb2; have u5 := H5.out.2.1.cells.1)
    all_goals
      have hs := H5.out.2.1.swap (i := ni) H5.out.1 rfl HM.out.2.2
      have hne : kb ≠ bb := fun e => H5.out.2.1.ob (by rw [← e]; rfl)
      have hob := H5.out.2.1.bo.1.1
      have y1 : (w5.setCell ⟨kb, L, none⟩ (.int .i64 ni)).cell? ⟨bb, 1, none⟩ = some (.bool b.may) := (H5.out.2.1.box.other hne).at rfl
      have y2 := (H5.out.2.1.box.other hne (off := L) (v := .int .i64 ni)).fz 1
      rw [HM.out.1] at y1
      obtain ⟨W6, hW6⟩ : ∃ W6, w5.setCell ⟨kb, L, none⟩ (.int .i64 ni) = W6 := ⟨_, rfl⟩
      rw [hW6] at hs y1 y2 ⊢
      have HS : Hid _ := hs
      have y3 := hs.1.c1
      have y4 := hs.1.fz 1
      have H7 : Hid (Fq B rb s last { r2 with k := nx } vn5 ((W6.setCell ⟨bb, 1, none⟩ (.bool false)).setCell ⟨rb, 1, none⟩ (.int .i64 nx)) ∧ Bb B rb bb vn5 (.slice (some ⟨kb, 0, none⟩) (L + 1) cap) ⟨b.ks.dropLast ++ [ni], false⟩ ((W6.setCell ⟨bb, 1, none⟩ (.bool false)).setCell ⟨rb, 1, none⟩ (.int .i64 nx)) ∧ AdvB rb bb vn (.slice (some ⟨kb, 0, none⟩) (L + 1) cap) w vn5 (.slice (some ⟨kb, 0, none⟩) (L + 1) cap) ((W6.setCell ⟨bb, 1, none⟩ (.bool false)).setCell ⟨rb, 1, none⟩ (.int .i64 nx))) := ⟨hs.1.setK nx, hs.2.1.adv (Adv.on vn5 (fr_set _ _ _ _)), ((AdvB.of H5.out.2.2 bb _).trans hs.2.2).trans (AdvB.of (Adv.on vn5 (fr_set _ _ _ _)) bb _)⟩
      have y5 : W6.cell? ⟨rb, 1, none⟩ = some (.int .i64 r2.k) := by have := hs.1.c1; rw [World.cell?_setCell_other _ _ _ _ (by intro q; injection q with q; exact hob q)] at this; exact this
      clear hs hW6 hne u3 u4 u5
      go_wp2_with fail
      go_end0
      refine ⟨rfl, vn5, (.slice (some ⟨kb, 0, none⟩) (L + 1) cap), ?_⟩
      rw [HNR.out]
      exact H7.out
  have q1 : ((sg : Int) == 43) = false := by simp; omega
  by_cases s2 : sg = 61
  · have q2 : ((sg : Int) == 61) = true := by simp; omega
    have hd : mnyN sg = { op := 7, mn := 0, mx := 1 } := by unfold mnyN; rw [if_neg s1, if_pos (.inl s2)]
    have H2 : Hid (Mz B rb bb m s last r vn (.slice (some ⟨kb, 0, none⟩) (L + 1) cap) b w (mnyN sg) (W1.setCell ⟨m, 7, none⟩ (.int .i64 1))) := by rw [hd]; exact HZ.out.turn H0.out.1 H0.out.2 (fr_set _ _ _ _) (HZ.out.box.set 7 _)
    clear hd s1 s2
    go_upto_region 7 with fail
    generalize (W1.setCell ⟨m, 7, none⟩ (.int .i64 1)) = wc at H2 ⊢
    try clear HZ
    try clear b6 b7 f6 f7
    obtain ⟨e0, e1, g0, g1⟩ := H2.out.my.br.cells
    rw [HM.out.1] at e1
    obtain ⟨kb', hkb, ep, fp⟩ := krow_cell (v := .slice (some ⟨kb, 0, none⟩) (L + 1) cap) (by have := H2.out.my.br.row; exact this) HM.out.2.1
    injection hkb with hkb
    injection hkb with hkb _ _
    subst hkb
    have d10 : wc.cell? ⟨m, 10, none⟩ = some (.slice none 0 0) := H2.out.box.at rfl
    have f10 := H2.out.box.fz 10
    have HQ : Hid _ := fun (p' : Nat) => kid_node (p := p') H2.out H0.out.1 H0.out.2 rfl
    obtain ⟨q, hq⟩ : ∃ q, wc.heap.size = q := ⟨_, rfl⟩
    have hmq : m < q := by rw [← hq]; exact H2.out.box.lt
    have hbq : bb < q := by rw [← hq]; exact H2.out.my.br.lt
    have d10a : ∀ ob, (wc.alloc ob).cell? ⟨m, 10, none⟩ = some (.slice none 0 0) := fun ob => (H2.out.box.kp (kp_alloc wc ob)).at rfl
    have f10a : ∀ ob, (wc.alloc ob).frozen? ⟨m, 10, none⟩ = false := fun ob => (H2.out.box.kp (kp_alloc wc ob)).fz 10
    clear d10 f10
    go_upto_region 20 with fail
    obtain ⟨W3, hW3⟩ : ∃ W3, (wc.setCell ⟨m, 10, none⟩ (.slice (some ⟨q, 0, none⟩) 1 1)).alloc (.cells #[.int .i64 p] 3) = W3 := ⟨_, rfl⟩
    have hk := HQ.out p
    rw [hq, hW3] at hk
    rw [hW3]
    have HK : Hid _ := hk
    have HN : Hid (∀ x, Kp W3 x → Calls Tryz.prog 142 #[.pointer (some ⟨rb, 0, none⟩), .agg (Nd.cells (mnyN sg) (.slice (some ⟨q, 0, none⟩) 1 1)).toArray] x (FAdd B rb s last (nodeF { mnyN sg with kids := [p] } r) vn (some q) x)) := fun x k => fnode_any (HK.out.1.rr.kp k) { mnyN sg with kids := [p] } (kv := .slice (some ⟨q, 0, none⟩) 1 1) (row_kp HK.out.2.2.1 k) HK.out.2.2.2.1
    have r0 : W3.cell? ⟨bb, 0, none⟩ = some (.slice (some ⟨kb, 0, none⟩) (L + 1) cap) := HK.out.1.br.cells.1
    have n0 := fun j v => HK.out.2.1.at (j := j) (v := v)
    have c0 := n0 0 _ rfl
    have c1 := n0 1 _ rfl
    have c2 := n0 2 _ rfl
    have c3 := n0 3 _ rfl
    have c4 := n0 4 _ rfl
    have c5 := n0 5 _ rfl
    have c6 := n0 6 _ rfl
    have c7 := n0 7 _ rfl
    have c8 := n0 8 _ rfl
    have c9 := n0 9 _ rfl
    have c10 := n0 10 _ rfl
    have HL3 : Hid (bb ≠ q ∧ kb ≠ q) := ⟨by omega, by have := (H0.out.2.row.lt kb rfl).2; have := HK.out.2.2.2.2; omega⟩
    clear n0 hW3 hk e0 e1 g0 g1 ep fp d10a f10a hq HQ H2
    obtain ⟨⟨ni, r2⟩, hnr⟩ : ∃ N, nodeF { mnyN sg with kids := [p] } r = N := ⟨_, rfl⟩
    rw [hnr] at HN
    have HNR : Hid (nodeF { mnyN sg with kids := [p] } r = (ni, r2)) := hnr
    clear hnr
    generalize mnyN sg = D at *
    unfold Nd.cells at HN
    go_region_with (go_at_call 142; refine Calls.mono (HN.out _ (by first | exact Below.refl _ _ | exact kp_drew _)) ?_; rintro e w5 ⟨rfl, vn5, q1, q2⟩; have H5 : Hid (Fq B rb s last r2 vn5 w5 ∧ Bb B rb bb vn5 (.slice (some ⟨kb, 0, none⟩) (L + 1) cap) b w5 ∧ Adv rb vn w vn5 w5) := ⟨q1, (HK.out.1.kp (by first | exact Below.refl _ _ | exact kp_drew _)).br.advx q2 HL3.out.1 (fun j hj => by injection hj with hj; exact hj ▸ HL3.out.2), ⟨(AdvX.trans (HK.out.1.kp (by first | exact Below.refl _ _ | exact kp_drew _)).adv q2).fr, (AdvX.trans (HK.out.1.kp (by first | exact Below.refl _ _ | exact kp_drew _)).adv q2).own, fun j hj hq => ((AdvX.trans (HK.out.1.kp (by first | exact Below.refl _ _ | exact kp_drew _)).adv q2).kbs j hj hq).elim .inl fun z => by injection z with z; have := HK.out.2.2.2.2; omega⟩⟩; clear q1 q2; obtain ⟨kb2, hkb2, u3, u4⟩ := krow_cell (v := .slice (some ⟨kb, 0, none⟩) (L + 1) cap) (by have := H5.out.2.1.row; exact this) HM.out.2.1; injection hkb2 with hkb2; injection hkb2 with hkb2 _ _; subst hkb2; have u5 := H5.out.2.1.cells.1)
    all_goals
      have hs := H5.out.2.1.swap (i := ni) H5.out.1 rfl HM.out.2.2
      have hne : kb ≠ bb := fun e => H5.out.2.1.ob (by rw [← e]; rfl)
      have hob := H5.out.2.1.bo.1.1
      have y1 : (w5.setCell ⟨kb, L, none⟩ (.int .i64 ni)).cell? ⟨bb, 1, none⟩ = some (.bool b.may) := (H5.out.2.1.box.other hne).at rfl
      have y2 := (H5.out.2.1.box.other hne (off := L) (v := .int .i64 ni)).fz 1
      rw [HM.out.1] at y1
      obtain ⟨W6, hW6⟩ : ∃ W6, w5.setCell ⟨kb, L, none⟩ (.int .i64 ni) = W6 := ⟨_, rfl⟩
      rw [hW6] at hs y1 y2 ⊢
      have HS : Hid _ := hs
      have y3 := hs.1.c1
      have y4 := hs.1.fz 1
      have H7 : Hid (Fq B rb s last { r2 with k := nx } vn5 ((W6.setCell ⟨bb, 1, none⟩ (.bool false)).setCell ⟨rb, 1, none⟩ (.int .i64 nx)) ∧ Bb B rb bb vn5 (.slice (some ⟨kb, 0, none⟩) (L + 1) cap) ⟨b.ks.dropLast ++ [ni], false⟩ ((W6.setCell ⟨bb, 1, none⟩ (.bool false)).setCell ⟨rb, 1, none⟩ (.int .i64 nx)) ∧ AdvB rb bb vn (.slice (some ⟨kb, 0, none⟩) (L + 1) cap) w vn5 (.slice (some ⟨kb, 0, none⟩) (L + 1) cap) ((W6.setCell ⟨bb, 1, none⟩ (.bool false)).setCell ⟨rb, 1, none⟩ (.int .i64 nx))) := ⟨hs.1.setK nx, hs.2.1.adv (Adv.on vn5 (fr_set _ _ _ _)), ((AdvB.of H5.out.2.2 bb _).trans hs.2.2).trans (AdvB.of (Adv.on vn5 (fr_set _ _ _ _)) bb _)⟩
      have y5 : W6.cell? ⟨rb, 1, none⟩ = some (.int .i64 r2.k) := by have := hs.1.c1; rw [World.cell?_setCell_other _ _ _ _ (by intro q; injection q with q; exact hob q)] at this; exact this
      clear hs hW6 hne u3 u4 u5
      go_wp2_with fail
      go_end0
      refine ⟨rfl, vn5, (.slice (some ⟨kb, 0, none⟩) (L + 1) cap), ?_⟩
      rw [HNR.out]
      exact H7.out
  have q2 : ((sg : Int) == 61) = false := by simp; omega
  by_cases s3 : sg = 63
  · have q3 : ((sg : Int) == 63) = true := by simp; omega
    have hd : mnyN sg = { op := 7, mn := 0, mx := 1 } := by unfold mnyN; rw [if_neg s1, if_pos (.inr s3)]
    have H2 : Hid (Mz B rb bb m s last r vn (.slice (some ⟨kb, 0, none⟩) (L + 1) cap) b w (mnyN sg) (W1.setCell ⟨m, 7, none⟩ (.int .i64 1))) := by rw [hd]; exact HZ.out.turn H0.out.1 H0.out.2 (fr_set _ _ _ _) (HZ.out.box.set 7 _)
    clear hd s1 s2 s3
    go_upto_region 7 with fail
    generalize (W1.setCell ⟨m, 7, none⟩ (.int .i64 1)) = wc at H2 ⊢
    try clear HZ
    try clear b6 b7 f6 f7
    obtain ⟨e0, e1, g0, g1⟩ := H2.out.my.br.cells
    rw [HM.out.1] at e1
    obtain ⟨kb', hkb, ep, fp⟩ := krow_cell (v := .slice (some ⟨kb, 0, none⟩) (L + 1) cap) (by have := H2.out.my.br.row; exact this) HM.out.2.1
    injection hkb with hkb
    injection hkb with hkb _ _
    subst hkb
    have d10 : wc.cell? ⟨m, 10, none⟩ = some (.slice none 0 0) := H2.out.box.at rfl
    have f10 := H2.out.box.fz 10
    have HQ : Hid _ := fun (p' : Nat) => kid_node (p := p') H2.out H0.out.1 H0.out.2 rfl
    obtain ⟨q, hq⟩ : ∃ q, wc.heap.size = q := ⟨_, rfl⟩
    have hmq : m < q := by rw [← hq]; exact H2.out.box.lt
    have hbq : bb < q := by rw [← hq]; exact H2.out.my.br.lt
    have d10a : ∀ ob, (wc.alloc ob).cell? ⟨m, 10, none⟩ = some (.slice none 0 0) := fun ob => (H2.out.box.kp (kp_alloc wc ob)).at rfl
    have f10a : ∀ ob, (wc.alloc ob).frozen? ⟨m, 10, none⟩ = false := fun ob => (H2.out.box.kp (kp_alloc wc ob)).fz 10
    clear d10 f10
    go_upto_region 20 with fail
    obtain ⟨W3, hW3⟩ : ∃ W3, (wc.setCell ⟨m, 10, none⟩ (.slice (some ⟨q, 0, none⟩) 1 1)).alloc (.cells #[.int .i64 p] 3) = W3 := ⟨_, rfl⟩
    have hk := HQ.out p
    rw [hq, hW3] at hk
    rw [hW3]
    have HK : Hid _ := hk
    have HN : Hid (∀ x, Kp W3 x → Calls Tryz.prog 142 #[.pointer (some ⟨rb, 0, none⟩), .agg (Nd.cells (mnyN sg) (.slice (some ⟨q, 0, none⟩) 1 1)).toArray] x (FAdd B rb s last (nodeF { mnyN sg with kids := [p] } r) vn (some q) x)) := fun x k => fnode_any (HK.out.1.rr.kp k) { mnyN sg with kids := [p] } (kv := .slice (some ⟨q, 0, none⟩) 1 1) (row_kp HK.out.2.2.1 k) HK.out.2.2.2.1
    have r0 : W3.cell? ⟨bb, 0, none⟩ = some (.slice (some ⟨kb, 0, none⟩) (L + 1) cap) := HK.out.1.br.cells.1
    have n0 := fun j v => HK.out.2.1.at (j := j) (v := v)
    have c0 := n0 0 _ rfl
    have c1 := n0 1 _ rfl
    have c2 := n0 2 _ rfl
    have c3 := n0 3 _ rfl
    have c4 := n0 4 _ rfl
    have c5 := n0 5 _ rfl
    have c6 := n0 6 _ rfl
    have c7 := n0 7 _ rfl
    have c8 := n0 8 _ rfl
    have c9 := n0 9 _ rfl
    have c10 := n0 10 _ rfl
    have HL3 : Hid (bb ≠ q ∧ kb ≠ q) := ⟨by omega, by have := (H0.out.2.row.lt kb rfl).2; have := HK.out.2.2.2.2; omega⟩
    clear n0 hW3 hk e0 e1 g0 g1 ep fp d10a f10a hq HQ H2
    obtain ⟨⟨ni, r2⟩, hnr⟩ : ∃ N, nodeF { mnyN sg with kids := [p] } r = N := ⟨_, rfl⟩
    rw [hnr] at HN
    have HNR : Hid (nodeF { mnyN sg with kids := [p] } r = (ni, r2)) := hnr
    clear hnr
    generalize mnyN sg = D at *
    unfold Nd.cells at HN
    go_region_with (go_at_call 142; refine Calls.mono (HN.out _ (by first | exact Below.refl _ _ | exact kp_drew _)) ?_; rintro e w5 ⟨rfl, vn5, q1, q2⟩; have H5 : Hid (Fq B rb s last r2 vn5 w5 ∧ Bb B rb bb vn5 (.slice (some ⟨kb, 0, none⟩) (L + 1) cap) b w5 ∧ Adv rb vn w vn5 w5) := ⟨q1, (HK.out.1.kp (by first | exact Below.refl _ _ | exact kp_drew _)).br.advx q2 HL3.out.1 (fun j hj => by injection hj with hj; exact hj ▸ HL3.out.2), ⟨(AdvX.trans (HK.out.1.kp (by first | exact Below.refl _ _ | exact kp_drew _)).adv q2).fr, (AdvX.trans (HK.out.1.kp (by first | exact Below.refl _ _ | exact kp_drew _)).adv q2).own, fun j hj hq => ((AdvX.trans (HK.out.1.kp (by first | exact Below.refl _ _ | exact kp_drew _)).adv q2).kbs j hj hq).elim .inl fun z => by injection z with z; have := HK.out.2.2.2.2; omega⟩⟩; clear q1 q2; obtain ⟨kb2, hkb2, u3, u4⟩ := krow_cell (v := .slice (some ⟨kb, 0, none⟩) (L + 1) cap) (by have := H5.out.2.1.row; exact this) HM.out.2.1; injection hkb2 with hkb2; injection hkb2 with hkb2 _ _; subst hkb2; have u5 := H5.out.2.1.cells.1)
    all_goals
      have hs := H5.out.2.1.swap (i := ni) H5.out.1 rfl HM.out.2.2
      have hne : kb ≠ bb := fun e => H5.out.2.1.ob (by rw [← e]; rfl)
      have hob := H5.out.2.1.bo.1.1
      have y1 : (w5.setCell ⟨kb, L, none⟩ (.int .i64 ni)).cell? ⟨bb, 1, none⟩ = some (.bool b.may) := (H5.out.2.1.box.other hne).at rfl
      have y2 := (H5.out.2.1.box.other hne (off := L) (v := .int .i64 ni)).fz 1
      rw [HM.out.1] at y1
      obtain ⟨W6, hW6⟩ : ∃ W6, w5.setCell ⟨kb, L, none⟩ (.int .i64 ni) = W6 := ⟨_, rfl⟩
      rw [hW6] at hs y1 y2 ⊢
      have HS : Hid _ := hs
      have y3 := hs.1.c1
      have y4 := hs.1.fz 1
      have H7 : Hid (Fq B rb s last { r2 with k := nx } vn5 ((W6.setCell ⟨bb, 1, none⟩ (.bool false)).setCell ⟨rb, 1, none⟩ (.int .i64 nx)) ∧ Bb B rb bb vn5 (.slice (some ⟨kb, 0, none⟩) (L + 1) cap) ⟨b.ks.dropLast ++ [ni], false⟩ ((W6.setCell ⟨bb, 1, none⟩ (.bool false)).setCell ⟨rb, 1, none⟩ (.int .i64 nx)) ∧ AdvB rb bb vn (.slice (some ⟨kb, 0, none⟩) (L + 1) cap) w vn5 (.slice (some ⟨kb, 0, none⟩) (L + 1) cap) ((W6.setCell ⟨bb, 1, none⟩ (.bool false)).setCell ⟨rb, 1, none⟩ (.int .i64 nx))) := ⟨hs.1.setK nx, hs.2.1.adv (Adv.on vn5 (fr_set _ _ _ _)), ((AdvB.of H5.out.2.2 bb _).trans hs.2.2).trans (AdvB.of (Adv.on vn5 (fr_set _ _ _ _)) bb _)⟩
      have y5 : W6.cell? ⟨rb, 1, none⟩ = some (.int .i64 r2.k) := by have := hs.1.c1; rw [World.cell?_setCell_other _ _ _ _ (by intro q; injection q with q; exact hob q)] at this; exact this
      clear hs hW6 hne u3 u4 u5
      go_wp2_with fail
      go_end0
      refine ⟨rfl, vn5, (.slice (some ⟨kb, 0, none⟩) (L + 1) cap), ?_⟩
      rw [HNR.out]
      exact H7.out
  · have q3 : ((sg : Int) == 63) = false := by simp; omega
    have hd : mnyN sg = { op := 7, mn := 0, mx := -1 } := by unfold mnyN; rw [if_neg s1, if_neg (by omega)]
    have H2 : Hid (Mz B rb bb m s last r vn (.slice (some ⟨kb, 0, none⟩) (L + 1) cap) b w (mnyN sg) W1) := by rw [hd]; exact HZ.out
    clear hd s1 s2 s3
    go_upto_region 7 with fail
    generalize W1 = wc at H2 ⊢
    try clear HZ
    try clear b6 b7 f6 f7
    obtain ⟨e0, e1, g0, g1⟩ := H2.out.my.br.cells
    rw [HM.out.1] at e1
    obtain ⟨kb', hkb, ep, fp⟩ := krow_cell (v := .slice (some ⟨kb, 0, none⟩) (L + 1) cap) (by have := H2.out.my.br.row; exact this) HM.out.2.1
    injection hkb with hkb
    injection hkb with hkb _ _
    subst hkb
    have d10 : wc.cell? ⟨m, 10, none⟩ = some (.slice none 0 0) := H2.out.box.at rfl
    have f10 := H2.out.box.fz 10
    have HQ : Hid _ := fun (p' : Nat) => kid_node (p := p') H2.out H0.out.1 H0.out.2 rfl
    obtain ⟨q, hq⟩ : ∃ q, wc.heap.size = q := ⟨_, rfl⟩
    have hmq : m < q := by rw [← hq]; exact H2.out.box.lt
    have hbq : bb < q := by rw [← hq]; exact H2.out.my.br.lt
    have d10a : ∀ ob, (wc.alloc ob).cell? ⟨m, 10, none⟩ = some (.slice none 0 0) := fun ob => (H2.out.box.kp (kp_alloc wc ob)).at rfl
    have f10a : ∀ ob, (wc.alloc ob).frozen? ⟨m, 10, none⟩ = false := fun ob => (H2.out.box.kp (kp_alloc wc ob)).fz 10
    clear d10 f10
    go_upto_region 20 with fail
    obtain ⟨W3, hW3⟩ : ∃ W3, (wc.setCell ⟨m, 10, none⟩ (.slice (some ⟨q, 0, none⟩) 1 1)).alloc (.cells #[.int .i64 p] 3) = W3 := ⟨_, rfl⟩
    have hk := HQ.out p
    rw [hq, hW3] at hk
    rw [hW3]
    have HK : Hid _ := hk
    have HN : Hid (∀ x, Kp W3 x → Calls Tryz.prog 142 #[.pointer (some ⟨rb, 0, none⟩), .agg (Nd.cells (mnyN sg) (.slice (some ⟨q, 0, none⟩) 1 1)).toArray] x (FAdd B rb s last (nodeF { mnyN sg with kids := [p] } r) vn (some q) x)) := fun x k => fnode_any (HK.out.1.rr.kp k) { mnyN sg with kids := [p] } (kv := .slice (some ⟨q, 0, none⟩) 1 1) (row_kp HK.out.2.2.1 k) HK.out.2.2.2.1
    have r0 : W3.cell? ⟨bb, 0, none⟩ = some (.slice (some ⟨kb, 0, none⟩) (L + 1) cap) := HK.out.1.br.cells.1
    have n0 := fun j v => HK.out.2.1.at (j := j) (v := v)
    have c0 := n0 0 _ rfl
    have c1 := n0 1 _ rfl
    have c2 := n0 2 _ rfl
    have c3 := n0 3 _ rfl
    have c4 := n0 4 _ rfl
    have c5 := n0 5 _ rfl
    have c6 := n0 6 _ rfl
    have c7 := n0 7 _ rfl
    have c8 := n0 8 _ rfl
    have c9 := n0 9 _ rfl
    have c10 := n0 10 _ rfl
    have HL3 : Hid (bb ≠ q ∧ kb ≠ q) := ⟨by omega, by have := (H0.out.2.row.lt kb rfl).2; have := HK.out.2.2.2.2; omega⟩
    clear n0 hW3 hk e0 e1 g0 g1 ep fp d10a f10a hq HQ H2
    obtain ⟨⟨ni, r2⟩, hnr⟩ : ∃ N, nodeF { mnyN sg with kids := [p] } r = N := ⟨_, rfl⟩
    rw [hnr] at HN
    have HNR : Hid (nodeF { mnyN sg with kids := [p] } r = (ni, r2)) := hnr
    clear hnr
    generalize mnyN sg = D at *
    unfold Nd.cells at HN
    go_region_with (go_at_call 142; refine Calls.mono (HN.out _ (by first | exact Below.refl _ _ | exact kp_drew _)) ?_; rintro e w5 ⟨rfl, vn5, q1, q2⟩; have H5 : Hid (Fq B rb s last r2 vn5 w5 ∧ Bb B rb bb vn5 (.slice (some ⟨kb, 0, none⟩) (L + 1) cap) b w5 ∧ Adv rb vn w vn5 w5) := ⟨q1, (HK.out.1.kp (by first | exact Below.refl _ _ | exact kp_drew _)).br.advx q2 HL3.out.1 (fun j hj => by injection hj with hj; exact hj ▸ HL3.out.2), ⟨(AdvX.trans (HK.out.1.kp (by first | exact Below.refl _ _ | exact kp_drew _)).adv q2).fr, (AdvX.trans (HK.out.1.kp (by first | exact Below.refl _ _ | exact kp_drew _)).adv q2).own, fun j hj hq => ((AdvX.trans (HK.out.1.kp (by first | exact Below.refl _ _ | exact kp_drew _)).adv q2).kbs j hj hq).elim .inl fun z => by injection z with z; have := HK.out.2.2.2.2; omega⟩⟩; clear q1 q2; obtain ⟨kb2, hkb2, u3, u4⟩ := krow_cell (v := .slice (some ⟨kb, 0, none⟩) (L + 1) cap) (by have := H5.out.2.1.row; exact this) HM.out.2.1; injection hkb2 with hkb2; injection hkb2 with hkb2 _ _; subst hkb2; have u5 := H5.out.2.1.cells.1)
    all_goals
      have hs := H5.out.2.1.swap (i := ni) H5.out.1 rfl HM.out.2.2
      have hne : kb ≠ bb := fun e => H5.out.2.1.ob (by rw [← e]; rfl)
      have hob := H5.out.2.1.bo.1.1
      have y1 : (w5.setCell ⟨kb, L, none⟩ (.int .i64 ni)).cell? ⟨bb, 1, none⟩ = some (.bool b.may) := (H5.out.2.1.box.other hne).at rfl
      have y2 := (H5.out.2.1.box.other hne (off := L) (v := .int .i64 ni)).fz 1
      rw [HM.out.1] at y1
      obtain ⟨W6, hW6⟩ : ∃ W6, w5.setCell ⟨kb, L, none⟩ (.int .i64 ni) = W6 := ⟨_, rfl⟩
      rw [hW6] at hs y1 y2 ⊢
      have HS : Hid _ := hs
      have y3 := hs.1.c1
      have y4 := hs.1.fz 1
      have H7 : Hid (Fq B rb s last { r2 with k := nx } vn5 ((W6.setCell ⟨bb, 1, none⟩ (.bool false)).setCell ⟨rb, 1, none⟩ (.int .i64 nx)) ∧ Bb B rb bb vn5 (.slice (some ⟨kb, 0, none⟩) (L + 1) cap) ⟨b.ks.dropLast ++ [ni], false⟩ ((W6.setCell ⟨bb, 1, none⟩ (.bool false)).setCell ⟨rb, 1, none⟩ (.int .i64 nx)) ∧ AdvB rb bb vn (.slice (some ⟨kb, 0, none⟩) (L + 1) cap) w vn5 (.slice (some ⟨kb, 0, none⟩) (L + 1) cap) ((W6.setCell ⟨bb, 1, none⟩ (.bool false)).setCell ⟨rb, 1, none⟩ (.int .i64 nx))) := ⟨hs.1.setK nx, hs.2.1.adv (Adv.on vn5 (fr_set _ _ _ _)), ((AdvB.of H5.out.2.2 bb _).trans hs.2.2).trans (AdvB.of (Adv.on vn5 (fr_set _ _ _ _)) bb _)⟩
      have y5 : W6.cell? ⟨rb, 1, none⟩ = some (.int .i64 r2.k) := by have := hs.1.c1; rw [World.cell?_setCell_other _ _ _ _ (by intro q; injection q with q; exact hob q)] at this; exact this
      clear hs hW6 hne u3 u4 u5
      go_wp2_with fail
      go_end0
      refine ⟨rfl, vn5, (.slice (some ⟨kb, 0, none⟩) (L + 1) cap), ?_⟩
      rw [HNR.out]
      exact H7.out
end
end Go.Proofs.YtalmajiflmejcaaGreat
/- The document's reader: many, of a brace. -/
namespace Go.Proofs.YtalmajiflmejcaaGreat
open Go.ChangeShapes Go.WideShapes Go.ChangeAt Go.RowKit
set_option linter.unusedVariables false
set_option linter.unusedSimpArgs false
/-- What a brace comes to. -/
def mnyB (R : Option (Nat × Int × Bool × Nat)) (at_ p : Nat) (r : FS) (b : Bs) : FS × Bs :=
  match R with
  | none => (wrongF 32 at_ r, b)
  | some (mn, mx, lz, en) => ({ (nodeF { op := 7, mn := mn, mx := mx, lz := lz, kids := [p] } r).2 with k := en }, ⟨b.ks.dropLast ++ [(nodeF { op := 7, mn := mn, mx := mx, lz := lz, kids := [p] } r).1], false⟩)
section
variable {B rb bb : Nat} {s last : ByteArray} {r r' : FS} {vn vn1 vn2 : Qv} {kv kv1 kv2 : Value} {b : Bs} {w w1 w2 : World}
set_option maxHeartbeats 8000000 in
set_option maxRecDepth 100000 in
theorem many_brace (h : Fq B rb s last r vn w) (hb : Bb B rb bb vn kv b w) (hs : s.size ≤ 400) (hm : b.may = true) (hne : b.ks ≠ []) (hl : b.ks.length < 50000) (at_ nx : Nat) (hx : nx ≤ 900) :
    Calls Tryz.prog 168 #[.pointer (some ⟨rb, 0, none⟩), .pointer (some ⟨bb, 0, none⟩), .int .u8 123, .int .i64 at_, .int .i64 nx] w (RetB B rb bb s last vn kv w (mnyF s 123 at_ nx r b)) := by
  obtain ⟨p, hp⟩ : ∃ p, b.ks.getLastD 0 = p := ⟨_, rfl⟩
  obtain ⟨R, hR⟩ : ∃ R, brcF s nx = R := ⟨_, rfl⟩
  have e : mnyF s 123 at_ nx r b = mnyB R at_ p r b := by
    unfold mnyF mnyB
    rw [if_neg (by rw [hm]; simp), if_pos rfl, hp, hR]
    rfl
  rw [e]
  obtain ⟨L, hL⟩ : ∃ L, b.ks.length = L + 1 := ⟨b.ks.length - 1, by have := List.length_pos_iff.2 hne; omega⟩
  obtain ⟨ka, cap, hkv, v1, v2⟩ := owns_form hb.row
  rw [hL] at hkv v1
  have hgl : b.ks[L]? = some p := by
    rw [← hp, List.getLastD_eq_getLast?, List.getLast?_eq_getElem?, hL]
    simp only [Nat.add_sub_cancel]
    rw [List.getElem?_eq_getElem (by omega)]; rfl
  subst hkv
  obtain ⟨kb, rfl, _, _⟩ := krow_cell (v := .slice ka (L + 1) cap) hb.row hgl
  have H0 : Hid (Fq B rb s last r vn w ∧ Bb B rb bb vn (.slice (some ⟨kb, 0, none⟩) (L + 1) cap) b w) := ⟨h, hb⟩
  have HZ : Hid (Mz B rb bb w.heap.size s last r vn (.slice (some ⟨kb, 0, none⟩) (L + 1) cap) b w { op := 7, mx := -1 } (w.alloc (.cells (Nd.cells { op := 7, mx := -1 } (.slice none 0 0)).toArray 195))) := ⟨(My.start h hb).kp (kp_alloc _ _), Lc.new _ _ _, rfl⟩
  obtain ⟨m, hmm⟩ : ∃ m, w.heap.size = m := ⟨_, rfl⟩
  have HM : Hid (b.may = true ∧ b.ks[L]? = some p ∧ b.ks.length = L + 1) := ⟨hm, hgl, hL⟩
  have hL5 : L < 50000 := by omega
  obtain ⟨i9, hi9, z0, z1, z2⟩ := info_parts infoInt
  obtain ⟨dT, hT1, hT2⟩ := rowNd
  unfold maxLen at v2
  have HBR : Hid (∀ x, Fq B rb s last r vn x → Calls Tryz.prog 194 #[.pointer (some ⟨rb, 0, none⟩), .int .i64 nx] x (RetC R x)) := fun x hx' => braces_any hx'.c0 hx'.lt hs hx R hR
  have HRE : Hid (∀ mn mx lz en, R = some (mn, mx, lz, en) → en ≤ s.size) := fun mn mx lz en q => (brcF_le (hR.trans q)).2.1
  clear h hb e hm hne hl hp hgl hL hR
  go_enter Tryz.func168, Tryz.ntmps168
  go_upto_region 1 with fail
  change Code.wp _ _ _ _ (w.alloc (.cells (Nd.cells { op := 7, mx := -1 } (.slice none 0 0)).toArray 195))
  rw [hmm] at HZ
  generalize w.alloc (.cells (Nd.cells { op := 7, mx := -1 } (.slice none 0 0)).toArray 195) = W1 at HZ ⊢
  clear hmm
  have e1 : W1.cell? ⟨bb, 1, none⟩ = some (.bool true) := by have := HZ.out.my.br.cells.2.1; rw [HM.out.1] at this; exact this
  go_upto_region 13 with fail
  clear e1
  cases R with
  | none =>
    go_upto_region 14 with (go_at_call 194; refine Calls.mono (HBR.out _ HZ.out.my.rr) ?_; rintro e w2 ⟨k2, d, rfl⟩; have H2 : Hid (My B rb bb s last r vn (.slice (some ⟨kb, 0, none⟩) (L + 1) cap) b w w2) := HZ.out.my.kp k2; clear k2; unfold Nd.val)
    obtain ⟨W3, hW3⟩ : ∃ W3, w2.alloc (.cells #[.int .u8 d.op, .int .u8 d.c, .int .u64 d.set.a, .int .u64 d.set.b, .int .u64 d.set.c, .int .u64 d.set.d, .int .i64 d.mn, .int .i64 d.mx, .bool d.lz, .int .i64 d.n, .slice none 0 0] 195) = W3 := ⟨_, rfl⟩
    have H3 : Hid (My B rb bb s last r vn (.slice (some ⟨kb, 0, none⟩) (L + 1) cap) b w W3) := by rw [← hW3]; exact H2.out.kp (kp_alloc _ _)
    rw [hW3]
    have HW : Hid _ := fwrong_any H3.out.rr 32 at_
    clear hW3
    go_wp2_with fail
    refine Calls.mono HW.out ?_
    rintro e w3 ⟨rfl, q1, q2⟩
    have H4 : Hid (Fq B rb s last (wrongF 32 at_ r) vn w3 ∧ Bb B rb bb vn (.slice (some ⟨kb, 0, none⟩) (L + 1) cap) b w3 ∧ AdvB rb bb vn (.slice (some ⟨kb, 0, none⟩) (L + 1) cap) w vn (.slice (some ⟨kb, 0, none⟩) (L + 1) cap) w3) := ⟨q1, H3.out.br.adv (Adv.on vn q2), AdvB.of (H3.out.adv.trans (Adv.on vn q2)) bb (.slice (some ⟨kb, 0, none⟩) (L + 1) cap)⟩
    clear q1 q2
    go_wp2_with fail
    go_end0
    exact ⟨rfl, vn, (.slice (some ⟨kb, 0, none⟩) (L + 1) cap), H4.out⟩
  | some R =>
    obtain ⟨mn, mx, lz, en⟩ := R
    go_upto_region 14 with (go_at_call 194; refine Calls.mono (HBR.out _ HZ.out.my.rr) ?_; rintro e w2 ⟨k2, rfl⟩; have H2 : Hid (Mz B rb bb m s last r vn (.slice (some ⟨kb, 0, none⟩) (L + 1) cap) b w { op := 7, mx := -1 } w2) := ⟨HZ.out.my.kp k2, HZ.out.box.kp k2, HZ.out.eq⟩; clear k2; unfold Nd.val)
    obtain ⟨D, hD⟩ : ∃ D : Nd, { op := 7, mn := mn, mx := mx, lz := lz } = D := ⟨_, rfl⟩
    have HD : Hid (mnyB (some (mn, mx, lz, en)) at_ p r b = ({ (nodeF { D with kids := [p] } r).2 with k := en }, ⟨b.ks.dropLast ++ [(nodeF { D with kids := [p] } r).1], false⟩)) := by rw [← hD]; rfl
    have hen : en ≤ 400 := by have := HRE.out mn mx lz en rfl; omega
    obtain ⟨W3, hW3⟩ : ∃ W3, w2.alloc (.cells (Nd.cells D (.slice none 0 0)).toArray 195) = W3 := ⟨_, rfl⟩
    obtain ⟨x, hx2⟩ : ∃ x, w2.heap.size = x := ⟨_, rfl⟩
    have HB2 : Hid (Mz B rb bb m s last r vn (.slice (some ⟨kb, 0, none⟩) (L + 1) cap) b w { op := 7, mx := -1 } W3 ∧ Lc 195 x (Nd.cells D (.slice none 0 0)) W3) := by
      rw [← hW3, ← hx2]
      exact ⟨⟨H2.out.my.kp (kp_alloc _ _), H2.out.box.kp (kp_alloc _ _), H2.out.eq⟩, Lc.new _ _ _⟩
    change Code.wp _ _ _ _ (w2.alloc (.cells (Nd.cells { op := 7, mn := mn, mx := mx, lz := lz } (.slice none 0 0)).toArray 195))
    rw [hD, hW3, hx2, HD.out]
    clear hD hW3 hx2 H2 HZ HBR HRE
    go_upto_region 16 with fail
    go_upto_region 17 with (first | (refine wpList_load_box HB2.out.2 0 (Nd.cells D (.slice none 0 0)) rfl 195 (.tmp 11) rfl rfl rfl dT hT1 hT2 sizeNd2 ?_) | (refine wpList_store_box HB2.out.1.box 0 (Nd.cells D (.slice none 0 0)) rfl 195 (.tmp 10) (.tmp 59) rfl rfl rfl (Nat.le_refl 11) sizeNd2 (oneNd2 _) rfl ?_; intro wc lc fc zc; have H2 : Hid (Mz B rb bb m s last r vn (.slice (some ⟨kb, 0, none⟩) (L + 1) cap) b w D wc) := HB2.out.1.turn H0.out.1 H0.out.2 fc lc; clear lc fc zc))
    clear HB2
    obtain ⟨e0, e1, g0, g1⟩ := H2.out.my.br.cells
    rw [HM.out.1] at e1
    obtain ⟨kb', hkb, ep, fp⟩ := krow_cell (v := .slice (some ⟨kb, 0, none⟩) (L + 1) cap) (by have := H2.out.my.br.row; exact this) HM.out.2.1
    injection hkb with hkb
    injection hkb with hkb _ _
    subst hkb
    have d10 : wc.cell? ⟨m, 10, none⟩ = some (.slice none 0 0) := H2.out.box.at rfl
    have f10 := H2.out.box.fz 10
    have HQ : Hid _ := fun (p' : Nat) => kid_node (p := p') H2.out H0.out.1 H0.out.2 rfl
    obtain ⟨q, hq⟩ : ∃ q, wc.heap.size = q := ⟨_, rfl⟩
    have hmq : m < q := by rw [← hq]; exact H2.out.box.lt
    have hbq : bb < q := by rw [← hq]; exact H2.out.my.br.lt
    have d10a : ∀ ob, (wc.alloc ob).cell? ⟨m, 10, none⟩ = some (.slice none 0 0) := fun ob => (H2.out.box.kp (kp_alloc wc ob)).at rfl
    have f10a : ∀ ob, (wc.alloc ob).frozen? ⟨m, 10, none⟩ = false := fun ob => (H2.out.box.kp (kp_alloc wc ob)).fz 10
    clear d10 f10
    go_upto_region 20 with fail
    obtain ⟨W3, hW3⟩ : ∃ W3, (wc.setCell ⟨m, 10, none⟩ (.slice (some ⟨q, 0, none⟩) 1 1)).alloc (.cells #[.int .i64 p] 3) = W3 := ⟨_, rfl⟩
    have hk := HQ.out p
    rw [hq, hW3] at hk
    rw [hW3]
    have HK : Hid _ := hk
    have HN : Hid (∀ x, Kp W3 x → Calls Tryz.prog 142 #[.pointer (some ⟨rb, 0, none⟩), .agg (Nd.cells (D) (.slice (some ⟨q, 0, none⟩) 1 1)).toArray] x (FAdd B rb s last (nodeF { D with kids := [p] } r) vn (some q) x)) := fun x k => fnode_any (HK.out.1.rr.kp k) { D with kids := [p] } (kv := .slice (some ⟨q, 0, none⟩) 1 1) (row_kp HK.out.2.2.1 k) HK.out.2.2.2.1
    have r0 : W3.cell? ⟨bb, 0, none⟩ = some (.slice (some ⟨kb, 0, none⟩) (L + 1) cap) := HK.out.1.br.cells.1
    have n0 := fun j v => HK.out.2.1.at (j := j) (v := v)
    have c0 := n0 0 _ rfl
    have c1 := n0 1 _ rfl
    have c2 := n0 2 _ rfl
    have c3 := n0 3 _ rfl
    have c4 := n0 4 _ rfl
    have c5 := n0 5 _ rfl
    have c6 := n0 6 _ rfl
    have c7 := n0 7 _ rfl
    have c8 := n0 8 _ rfl
    have c9 := n0 9 _ rfl
    have c10 := n0 10 _ rfl
    have HL3 : Hid (bb ≠ q ∧ kb ≠ q) := ⟨by omega, by have := (H0.out.2.row.lt kb rfl).2; have := HK.out.2.2.2.2; omega⟩
    clear n0 hW3 hk e0 e1 g0 g1 ep fp d10a f10a hq HQ H2
    obtain ⟨⟨ni, r2⟩, hnr⟩ : ∃ N, nodeF { D with kids := [p] } r = N := ⟨_, rfl⟩
    rw [hnr] at HN
    have HNR : Hid (nodeF { D with kids := [p] } r = (ni, r2)) := hnr
    clear hnr
    unfold Nd.cells at HN
    go_region_with (go_at_call 142; refine Calls.mono (HN.out _ (by first | exact Below.refl _ _ | exact kp_drew _)) ?_; rintro e w5 ⟨rfl, vn5, q1, q2⟩; have H5 : Hid (Fq B rb s last r2 vn5 w5 ∧ Bb B rb bb vn5 (.slice (some ⟨kb, 0, none⟩) (L + 1) cap) b w5 ∧ Adv rb vn w vn5 w5) := ⟨q1, (HK.out.1.kp (by first | exact Below.refl _ _ | exact kp_drew _)).br.advx q2 HL3.out.1 (fun j hj => by injection hj with hj; exact hj ▸ HL3.out.2), ⟨(AdvX.trans (HK.out.1.kp (by first | exact Below.refl _ _ | exact kp_drew _)).adv q2).fr, (AdvX.trans (HK.out.1.kp (by first | exact Below.refl _ _ | exact kp_drew _)).adv q2).own, fun j hj hq => ((AdvX.trans (HK.out.1.kp (by first | exact Below.refl _ _ | exact kp_drew _)).adv q2).kbs j hj hq).elim .inl fun z => by injection z with z; have := HK.out.2.2.2.2; omega⟩⟩; clear q1 q2; obtain ⟨kb2, hkb2, u3, u4⟩ := krow_cell (v := .slice (some ⟨kb, 0, none⟩) (L + 1) cap) (by have := H5.out.2.1.row; exact this) HM.out.2.1; injection hkb2 with hkb2; injection hkb2 with hkb2 _ _; subst hkb2; have u5 := H5.out.2.1.cells.1)
    all_goals
      have hs := H5.out.2.1.swap (i := ni) H5.out.1 rfl HM.out.2.2
      have hne : kb ≠ bb := fun e => H5.out.2.1.ob (by rw [← e]; rfl)
      have hob := H5.out.2.1.bo.1.1
      have y1 : (w5.setCell ⟨kb, L, none⟩ (.int .i64 ni)).cell? ⟨bb, 1, none⟩ = some (.bool b.may) := (H5.out.2.1.box.other hne).at rfl
      have y2 := (H5.out.2.1.box.other hne (off := L) (v := .int .i64 ni)).fz 1
      rw [HM.out.1] at y1
      obtain ⟨W6, hW6⟩ : ∃ W6, w5.setCell ⟨kb, L, none⟩ (.int .i64 ni) = W6 := ⟨_, rfl⟩
      rw [hW6] at hs y1 y2 ⊢
      have HS : Hid _ := hs
      have y3 := hs.1.c1
      have y4 := hs.1.fz 1
      have H7 : Hid (Fq B rb s last { r2 with k := en } vn5 ((W6.setCell ⟨bb, 1, none⟩ (.bool false)).setCell ⟨rb, 1, none⟩ (.int .i64 en)) ∧ Bb B rb bb vn5 (.slice (some ⟨kb, 0, none⟩) (L + 1) cap) ⟨b.ks.dropLast ++ [ni], false⟩ ((W6.setCell ⟨bb, 1, none⟩ (.bool false)).setCell ⟨rb, 1, none⟩ (.int .i64 en)) ∧ AdvB rb bb vn (.slice (some ⟨kb, 0, none⟩) (L + 1) cap) w vn5 (.slice (some ⟨kb, 0, none⟩) (L + 1) cap) ((W6.setCell ⟨bb, 1, none⟩ (.bool false)).setCell ⟨rb, 1, none⟩ (.int .i64 en))) := ⟨hs.1.setK en, hs.2.1.adv (Adv.on vn5 (fr_set _ _ _ _)), ((AdvB.of H5.out.2.2 bb _).trans hs.2.2).trans (AdvB.of (Adv.on vn5 (fr_set _ _ _ _)) bb _)⟩
      have y5 : W6.cell? ⟨rb, 1, none⟩ = some (.int .i64 r2.k) := by have := hs.1.c1; rw [World.cell?_setCell_other _ _ _ _ (by intro q; injection q with q; exact hob q)] at this; exact this
      clear hs hW6 hne u3 u4 u5
      go_wp2_with fail
      go_end0
      refine ⟨rfl, vn5, (.slice (some ⟨kb, 0, none⟩) (L + 1) cap), ?_⟩
      rw [HD.out, HNR.out]
      exact H7.out
/-- A bound of the last piece. -/
theorem many_any (h : Fq B rb s last r vn w) (hb : Bb B rb bb vn kv b w) (hs : s.size ≤ 400) (hm : b.may = true → b.ks ≠ []) (hl : b.ks.length < 50000) (sg at_ nx : Nat) (hx : nx ≤ 900) :
    Calls Tryz.prog 168 #[.pointer (some ⟨rb, 0, none⟩), .pointer (some ⟨bb, 0, none⟩), .int .u8 sg, .int .i64 at_, .int .i64 nx] w (RetB B rb bb s last vn kv w (mnyF s sg at_ nx r b)) := by
  cases hq : b.may with
  | false =>
    by_cases h4 : sg = 42
    · subst h4; exact many_star h hb hl hq at_ nx
    · exact many_err h hb hq h4 at_ nx
  | true =>
    by_cases h4 : sg = 123
    · subst h4; exact many_brace h hb hs hq (hm hq) hl at_ nx hx
    · exact many_go h hb hq (hm hq) hl h4 at_ nx
end
end Go.Proofs.YtalmajiflmejcaaGreat
/- The document's reader: group. -/
namespace Go.Proofs.YtalmajiflmejcaaGreat
open Go.ChangeShapes Go.WideShapes Go.ChangeAt Go.RowKit
set_option linter.unusedVariables false
set_option linter.unusedSimpArgs false
/-- The reader and a branch that it leaves alone. -/
def Gs (B rb bb : Nat) (s last : ByteArray) (vn : Qv) (kv : Value) (b : Bs) (w : World) (r' : FS) (vn' : Qv) (x : World) : Prop := Fq B rb s last r' vn' x ∧ Bb B rb bb vn' kv b x ∧ AdvB rb bb vn kv w vn' kv x
section
variable {B rb bb : Nat} {s last : ByteArray} {r r' r2 : FS} {vn vn1 vn2 : Qv} {kv kv1 kv2 : Value} {b : Bs} {w w1 w2 x y : World}
theorem Gs.start (h : Fq B rb s last r vn w) (hb : Bb B rb bb vn kv b w) : Gs B rb bb s last vn kv b w r vn w := ⟨h, hb, AdvB.refl _ _ _ _ _⟩
theorem Gs.adv (h : Gs B rb bb s last vn kv b w r' vn1 x) (hq : Fq B rb s last r2 vn2 y) (a : Adv rb vn1 x vn2 y) : Gs B rb bb s last vn kv b w r2 vn2 y := ⟨hq, h.2.1.adv a, h.2.2.trans (AdvB.of a bb kv)⟩
theorem Gs.on (h : Gs B rb bb s last vn kv b w r' vn1 x) (hq : Fq B rb s last r2 vn1 y) (f : Fr (On rb) x y) : Gs B rb bb s last vn kv b w r2 vn1 y := h.adv hq (Adv.on vn1 f)
theorem Gs.kp (h : Gs B rb bb s last vn kv b w r' vn1 x) (k : Kp x y) : Gs B rb bb s last vn kv b w r' vn1 y := h.adv (h.1.kp k) (Adv.kp vn1 rb k)
theorem Gs.ret (h : Gs B rb bb s last vn kv b w r' vn1 x) : RetB B rb bb s last vn kv w (r', b) (.returned (.tuple #[])) x := ⟨rfl, vn1, kv, h⟩
/-- A box that is new has turned. -/
theorem Gs.new (h : Gs B rb bb s last vn kv b w r' vn1 x) {m : Nat} (f : Fr (On m) x y) (hm : m ≠ rb ∧ m ≠ bb ∧ w.heap.size ≤ m ∧ vn1.ownBlock ≠ some m ∧ ¬ vn1.kb m ∧ kv.ownBlock ≠ some m) : Gs B rb bb s last vn kv b w r' vn1 y := by
  refine ⟨h.1.off (P := On m) (fun j hj => by unfold On at hj; subst hj; exact ⟨⟨hm.1, hm.2.2.2.1⟩, hm.2.2.2.2.1⟩) f, ⟨h.2.1.ge, h.2.1.box.fr f (by unfold On; exact Ne.symm hm.2.1), ?_, h.2.1.off, h.2.1.bo, h.2.1.ob⟩, ⟨h.2.2.fr.trans' f fun j hj q => by unfold On at q; omega, h.2.2.own, h.2.2.kbs, h.2.2.lin⟩⟩
  have hr := h.2.1.row
  refine ⟨hr.1, ?_⟩
  rcases hr.2 with q | ⟨c, cap, cur, e, hc, hg, rest⟩
  · exact .inl q
  · refine .inr ⟨c, cap, cur, e, hc, ?_, rest⟩
    rw [f.block c (Array.getElem?_eq_some_iff.1 hg).1 (fun z => hm.2.2.2.2.2 (by unfold On at z; rw [e, ← z]; rfl))]; exact hg
/-- A node more whose kids lie in a new block. -/
theorem Gs.advx {q : Nat} (h : Gs B rb bb s last vn kv b w r' vn1 x) (hf : Fq B rb s last r2 vn2 y) (a : AdvX (some q) rb vn1 x vn2 y) (hq : w.heap.size ≤ q ∧ bb ≠ q ∧ kv.ownBlock ≠ some q) : Gs B rb bb s last vn kv b w r2 vn2 y := by
  refine ⟨hf, h.2.1.advx a hq.2.1 (fun j hj e => hq.2.2 (by rw [hj, e])), ⟨h.2.2.fr.trans' a.fr fun k hk z => ?_, ?_, fun j hj z => ?_, h.2.2.lin⟩⟩
  · rcases z with z | z
    · exact .inl (.inl z)
    · rcases h.2.2.own with e | e
      · exact .inl (.inr (by rw [← e]; exact z))
      · exact absurd (e k z) (by omega)
  · rcases a.own with e | e
    · rw [e]; exact h.2.2.own
    · exact .inr fun j hj => Nat.le_trans h.2.2.fr.size (e j hj)
  · rcases a.kbs j (Nat.lt_of_lt_of_le hj h.2.2.fr.size) z with z | z
    · exact h.2.2.kbs j hj z
    · injection z with z; omega
/-- A block of a number that is new, as kids. -/
theorem kid_new {p : Nat} (hq : Fq B rb s last r vn x) : KRow B (x.alloc (.cells #[.int .i64 p] 3)) (.slice (some ⟨x.heap.size, 0, none⟩) 1 1) [p] ∧ OffK rb vn (.slice (some ⟨x.heap.size, 0, none⟩) 1 1) := by
  have hB := hq.hB
  refine ⟨⟨rfl, .inr ⟨x.heap.size, 1, #[.int .i64 p], rfl, hB, alloc_new x _, by simp, by simp [maxLen], rfl, rfl⟩⟩, fun j hj => ?_⟩
  simp only [Value.ownBlock, Option.some.injEq] at hj
  subst hj
  have := hq.lt
  exact ⟨by omega, fun q => by have := (hq.own _ q).2; omega⟩
set_option maxHeartbeats 4000000 in
set_option maxRecDepth 100000 in
theorem group_any {BRS : FS → Nat × FS} (h : Fq B rb s last r vn w) (hb : Bb B rb bb vn kv b w) (hs : s.size ≤ 400) (hl : b.ks.length < 50000) (at_ : Nat)
    (HBR : r.g < 9 → ∀ vn x, Fq B rb s last { r with g := r.g + 1 } vn x → Calls Tryz.prog 78 #[.pointer (some ⟨rb, 0, none⟩), .bool true] x (FAdd B rb s last (BRS { r with g := r.g + 1 }) vn none x)) :
    Calls Tryz.prog 167 #[.pointer (some ⟨rb, 0, none⟩), .pointer (some ⟨bb, 0, none⟩), .int .i64 at_] w (RetB B rb bb s last vn kv w (grpF s BRS at_ r b)) := by
  obtain ⟨R, hR⟩ : ∃ R, grpF s BRS at_ r b = R := ⟨_, rfl⟩
  rw [hR]
  have H0 : Hid (Gs B rb bb s last vn kv b w r vn w) := Gs.start h hb
  have c19 := h.c19
  have f19 := h.fz 19
  by_cases hg : 9 ≤ r.g
  · have HRR : Hid (R = (wrongF 31 at_ r, b)) := by
      show _ = _
      rw [← hR]; unfold grpF; rw [if_pos hg]
    have d1 : decide ((r.g : Int) ≥ 9) = true := decide_eq_true (by omega)
    have HW : Hid _ := fwrong_any h 31 at_
    clear h hb HBR hR
    go_enter Tryz.func167, Tryz.ntmps167
    go_wp2_with fail
    refine Calls.mono HW.out ?_
    rintro e w3 ⟨rfl, q1, q2⟩
    have H4 : Hid (Gs B rb bb s last vn kv b w (wrongF 31 at_ r) vn w3) := H0.out.on q1 q2
    clear q1 q2
    go_wp2_with fail
    go_end0
    rw [HRR.out]
    exact H4.out.ret
  obtain ⟨G, hG⟩ : ∃ G, r.g = G := ⟨_, rfl⟩
  have hG9 : G < 9 := by omega
  have d1 : decide ((G : Int) ≥ 9) = false := decide_eq_false (by omega)
  have H1 : Hid (Gs B rb bb s last vn kv b w { r with g := G + 1 } vn (w.setCell ⟨rb, 19, none⟩ (.int .i64 (G + 1 : Nat)))) := H0.out.on (h.setG (G + 1)) (fr_set _ _ _ _)
  have HB : Hid (∀ vn x, Fq B rb s last { r with g := G + 1 } vn x → Calls Tryz.prog 78 #[.pointer (some ⟨rb, 0, none⟩), .bool true] x (FAdd B rb s last (BRS { r with g := G + 1 }) vn none x)) := by have := HBR (by omega); rw [hG] at this; exact this
  obtain ⟨i9, hi9, z0, z1, z2⟩ := info_parts infoInt
  rw [hG] at c19
  obtain ⟨⟨ki, r1⟩, hX⟩ : ∃ X, BRS { r with g := G + 1 } = X := ⟨_, rfl⟩
  rw [hX] at HB
  have HR : Hid (R = if r1.err ≠ 0 then (r1, b) else if s.size ≤ r1.k then (wrongF 31 at_ r1, b) else putF { op := 8, n := G + 1, kids := [ki] } true { r1 with k := (tkF s r1.md r1.cs r1.k).1.nx, dn := r1.dn.set (G + 1) true } b) := by
    show _ = _
    rw [← hR]; unfold grpF; rw [if_neg hg, hG, hX]
  have HKv : Hid (kv.ownBlock = kv.ownBlock ∧ ∀ j, kv.ownBlock = some j → j < w.heap.size) := ⟨rfl, fun j hj => (hb.row.lt j hj).2⟩
  clear h hb HBR hG hX hg hR
  go_enter Tryz.func167, Tryz.ntmps167
  go_upto_region 3 with fail
  rw [show (G : Int) + 1 = ((G + 1 : Nat) : Int) by omega]
  generalize (w.setCell ⟨rb, 19, none⟩ (.int .i64 (G + 1 : Nat))) = w1 at H1 ⊢
  clear c19 f19
  have c19 := H1.out.1.c19
  simp only at c19
  obtain ⟨N, hN⟩ : ∃ N, G + 1 = N := ⟨_, rfl⟩
  rw [hN] at c19 HB H1 HR ⊢
  have hN10 : N < 10 := by omega
  go_upto_region 5 with (go_at_call 78; refine Calls.mono (HB.out _ _ H1.out.1) ?_; rintro e w2 ⟨rfl, vn2, q1, q2⟩; have H2 : Hid (Gs B rb bb s last vn kv b w r1 vn2 w2) := H1.out.adv q1 q2; clear q1 q2)
  clear c19
  have c17 := H2.out.1.c17
  by_cases he : r1.err = 0
  · have hR2 := HR.out
    rw [if_neg (by rw [he]; simp)] at hR2
    rw [he] at c17
    have e17 : ((0 : Int) != 0) = false := rfl
    go_upto_region 6 with fail
    clear c17 e17
    have c0 := H2.out.1.c0
    have c1 := H2.out.1.c1
    obtain ⟨K, hK⟩ : ∃ K, r1.k = K := ⟨_, rfl⟩
    obtain ⟨Z, hZ⟩ : ∃ Z, s.size = Z := ⟨_, rfl⟩
    rw [hK] at c1
    by_cases hk : s.size ≤ r1.k
    · rw [if_pos hk] at hR2
      have HRR : Hid _ := hR2
      clear hR2
      have dk : decide ((K : Int) ≥ (Z : Int)) = true := decide_eq_true (by omega)
      have dk' : decide ((Z : Int) ≤ (K : Int)) = true := decide_eq_true (by omega)
      have dn : decide (Z ≤ K) = true := decide_eq_true (by omega)
      have dn2 : Z ≤ K := by omega
      clear hk
      go_region
      change Exit.then _ _ _ _ w2.drew
      have H3 : Hid (Gs B rb bb s last vn kv b w r1 vn2 w2.drew) := H2.out.kp (kp_drew _)
      generalize w2.drew = w3 at H3 ⊢
      have HW : Hid _ := fwrong_any H3.out.1 31 at_
      clear c0 c1
      go_wp2_with fail
      refine Calls.mono HW.out ?_
      rintro e w4 ⟨rfl, q1, q2⟩
      have H4 : Hid (Gs B rb bb s last vn kv b w (wrongF 31 at_ r1) vn2 w4) := H3.out.on q1 q2
      clear q1 q2
      go_wp2_with fail
      go_end0
      rw [HRR.out]
      exact H4.out.ret
    · rw [if_neg hk] at hR2
      have hlt : r1.k < s.size := by omega
      have dk : decide ((K : Int) ≥ (Z : Int)) = false := decide_eq_false (by omega)
      have dk' : decide ((Z : Int) ≤ (K : Int)) = false := decide_eq_false (by omega)
      have dn : decide (Z ≤ K) = false := decide_eq_false (by omega)
      have dn2 : ¬ Z ≤ K := by omega
      clear hk
      go_region
      change Exit.then _ _ _ _ w2.drew
      have H3 : Hid (Gs B rb bb s last vn kv b w r1 vn2 w2.drew) := H2.out.kp (kp_drew _)
      generalize w2.drew = w3 at H3 ⊢
      clear c0 c1 dk dk' dn dn2
      have c1 := H3.out.1.c1
      rw [hK] at c1
      obtain ⟨⟨t, ok⟩, ht⟩ : ∃ T, tkF s r1.md r1.cs r1.k = T := ⟨_, rfl⟩
      have HT : Hid (Calls Tryz.prog 113 #[.pointer (some ⟨rb, 0, none⟩), .int .i64 K] w3 fun e w' => e = .returned (.tuple #[.agg t.cells.toArray, .bool ok]) ∧ Kp w3 w') := by
        have := token_any (at_ := r1.k) H3.out.1.c0 H3.out.1.c2 H3.out.1.c6 H3.out.1.lt hs hlt
        rw [ht, hK] at this
        exact this
      have hnx : t.nx ≤ 1000 := by
        have := tkF_next s r1.md r1.cs r1.k
        rw [ht] at this
        simp only at this
        omega
      rw [ht] at hR2
      simp only at hR2 hnx
      have HRR : Hid _ := hR2
      clear ht hlt hR2
      obtain ⟨sg, nd, non, tx, tm, tc⟩ := t
      go_upto_region 9 with (first | (go_at_call 113; refine Calls.mono HT.out ?_; rintro e w4 ⟨rfl, k4⟩; have H4 : Hid (Gs B rb bb s last vn kv b w r1 vn2 (w4.alloc (.cells (tk0 0 0 0).cells.toArray 197)) ∧ Lc 197 w4.heap.size (tk0 0 0 0).cells (w4.alloc (.cells (tk0 0 0 0).cells.toArray 197)) ∧ (w4.heap.size ≠ rb ∧ w4.heap.size ≠ bb ∧ w.heap.size ≤ w4.heap.size ∧ vn2.ownBlock ≠ some w4.heap.size ∧ ¬ vn2.kb w4.heap.size ∧ kv.ownBlock ≠ some w4.heap.size)) := ⟨(H3.out.kp k4).kp (kp_alloc _ _), Lc.new _ _ _, Nat.ne_of_gt (H3.out.kp k4).1.lt, Nat.ne_of_gt (H3.out.kp k4).2.1.lt, (H3.out.kp k4).2.2.fr.size, fun q => (by have := ((H3.out.kp k4).1.own _ q).2; omega), fun q => (by have := (H3.out.kp k4).1.kbl _ q; omega), fun q => (by have := HKv.out.2 _ q; have := (H3.out.kp k4).2.2.fr.size; omega)⟩; clear k4) | (refine wpList_store_box H4.out.2.1 0 (Tk.cells ⟨sg, nd, non, tx, tm, tc⟩) rfl 197 (.tmp 8) (.tmp 56) rfl rfl rfl (Nat.le_refl 16) sizeTk (oneTk _) rfl ?_; intro wy ly fy sy; have H5 : Hid (Gs B rb bb s last vn kv b w r1 vn2 wy ∧ Lc 197 w4.heap.size (Tk.cells ⟨sg, nd, non, tx, tm, tc⟩) wy) := ⟨H4.out.1.new fy H4.out.2.2, ly⟩; clear ly fy sy))
      obtain ⟨m, hm⟩ : ∃ m, w4.heap.size = m := ⟨_, rfl⟩
      rw [hm] at H5 ⊢
      clear hm c1 H4
      have t13 : wy.cell? ⟨m, 13, none⟩ = some (.int .i64 tx) := H5.out.2.at rfl
      have c1 := H5.out.1.1.c1
      have f1 := H5.out.1.1.fz 1
      rw [hK] at c1
      have H6 : Hid (Gs B rb bb s last vn kv b w { r1 with k := tx } vn2 (wy.setCell ⟨rb, 1, none⟩ (.int .i64 tx))) := H5.out.1.on (H5.out.1.1.setK tx) (fr_set _ _ _ _)
      go_upto_region 10 with fail
      generalize wy.setCell ⟨rb, 1, none⟩ (.int .i64 tx) = w6 at H6 ⊢
      clear t13 c1 f1 H5
      have cd := H6.out.1.cd hN10
      have fd := H6.out.1.fz (7 + N)
      have H7 : Hid (Gs B rb bb s last vn kv b w { r1 with k := tx, dn := r1.dn.set N true } vn2 (w6.setCell ⟨rb, 7 + N, none⟩ (.bool true))) := H6.out.on (H6.out.1.setDn hN10) (fr_set _ _ _ _)
      go_upto_region 11 with fail
      generalize w6.setCell ⟨rb, 7 + N, none⟩ (.bool true) = w7 at H7 ⊢
      clear cd fd H6
      have HK : Hid _ := kid_new (p := ki) H7.out.1
      have H8 : Hid (Gs B rb bb s last vn kv b w { r1 with k := tx, dn := r1.dn.set N true } vn2 (w7.alloc (.cells #[.int .i64 ki] 3)) ∧ (w.heap.size ≤ w7.heap.size ∧ bb ≠ w7.heap.size ∧ kv.ownBlock ≠ some w7.heap.size)) :=
        ⟨H7.out.kp (kp_alloc _ _), H7.out.2.2.fr.size, Nat.ne_of_lt H7.out.2.1.lt, fun q => by have := HKv.out.2 _ q; have := H7.out.2.2.fr.size; omega⟩
      have HN : Hid _ := fnode_any H8.out.1.1 { op := 8, n := N, kids := [ki] } (kv := .slice (some ⟨w7.heap.size, 0, none⟩) 1 1) HK.out.1 HK.out.2
      unfold putF at HRR
      obtain ⟨⟨ni, r8⟩, hnr⟩ : ∃ X, nodeF { op := 8, n := N, kids := [ki] } { r1 with k := tx, dn := r1.dn.set N true } = X := ⟨_, rfl⟩
      rw [hnr] at HN HRR
      clear hnr HK H7
      unfold Nd.val at HN
      go_wp2_with (first | (go_at_call 142; refine Calls.mono HN.out ?_; rintro e w8 ⟨rfl, vn8, q1, q2⟩; have H9 : Hid (Gs B rb bb s last vn kv b w r8 vn8 w8) := H8.out.1.advx q1 q2 H8.out.2; clear q1 q2) | (go_at_call 141; refine Calls.mono (piece_any H9.out.1 H9.out.2.1 hl _ _) ?_; rintro e w9 ⟨rfl, vn9, kv9, q1, q2, q3⟩; have H10 : Hid (Fq B rb s last r8 vn9 w9 ∧ Bb B rb bb vn9 kv9 (pieceF b ni true) w9 ∧ AdvB rb bb vn kv w vn9 kv9 w9) := ⟨q1, q2, H9.out.2.2.trans q3⟩; clear q1 q2 q3))
      go_end0
      rw [HRR.out]
      exact ⟨rfl, vn9, kv9, H10.out⟩
  · have hR2 := HR.out
    rw [if_pos he] at hR2
    have HRR : Hid _ := hR2
    have e17 : ((r1.err : Int) != 0) = true := by simp; omega
    clear hR2 he
    go_wp2_with fail
    go_end0
    rw [HRR.out]
    exact H2.out.ret
end
end Go.Proofs.YtalmajiflmejcaaGreat
/- The document's reader: it goes on; groups are counted upward. -/
namespace Go.Proofs.YtalmajiflmejcaaGreat
set_option linter.unusedVariables false
set_option linter.unusedSimpArgs false
section
variable {s last : ByteArray} {r : FS} {b : Bs} {BRS : FS → Nat × FS}
/-- What branches keep: groups are counted upward, and it goes on, or there is an error. -/
def Mono (BRS : FS → Nat × FS) : Prop := ∀ r, r.g ≤ (BRS r).2.g ∧ ((BRS r).2.err ≠ 0 ∨ r.k ≤ (BRS r).2.k)
theorem wrongF_g (e a : Nat) (r : FS) : (wrongF e a r).g = r.g ∧ (wrongF e a r).k = r.k := by unfold wrongF; split <;> exact ⟨rfl, rfl⟩
theorem rowF_same (op : Nat) (ks : List Nat) (r : FS) : (rowF op ks r).2.g = r.g ∧ (rowF op ks r).2.k = r.k ∧ (rowF op ks r).2.err = r.err := by
  unfold rowF
  split
  · exact ⟨nodeF_g _ _, nodeF_k _ _, nodeF_err _ _⟩
  · exact ⟨rfl, rfl, rfl⟩
  · exact ⟨nodeF_g _ _, nodeF_k _ _, nodeF_err _ _⟩
theorem lastL_same (l : List Nat) (r : FS) (ks : List Nat) : (lastL l r ks).1.g = r.g ∧ (lastL l r ks).1.k = r.k ∧ (lastL l r ks).1.err = r.err := by
  induction l generalizing r ks with
  | nil => exact ⟨rfl, rfl, rfl⟩
  | cons c l ih =>
    unfold lastL
    obtain ⟨h1, h2, h3⟩ := ih (nodeF { op := 2, c := c } r).2 (ks ++ [(nodeF { op := 2, c := c } r).1])
    exact ⟨h1.trans (nodeF_g _ _), h2.trans (nodeF_k _ _), h3.trans (nodeF_err _ _)⟩
theorem lastF_same (last : ByteArray) (r : FS) : (lastF last r).2.g = r.g ∧ (lastF last r).2.k = r.k ∧ (lastF last r).2.err = r.err := by
  unfold lastF
  obtain ⟨h1, h2, h3⟩ := rowF_same 5 (lastL (last.data.toList.map (·.toNat)) r []).2 (lastL (last.data.toList.map (·.toNat)) r []).1
  obtain ⟨k1, k2, k3⟩ := lastL_same (last.data.toList.map (·.toNat)) r []
  exact ⟨h1.trans k1, h2.trans k2, h3.trans k3⟩
theorem clF_same (s : ByteArray) (o : Nat) (r : FS) : (clF s o r).2.2.g = r.g ∧ (clF s o r).2.2.k = r.k ∧ (0 < (clF s o r).2.1 → o + 1 < (clF s o r).2.1 ∧ (clF s o r).2.1 ≤ s.size) := by
  unfold clF
  split
  · exact ⟨rfl, rfl, fun h => by simp at h⟩
  · rename_i q fl en hX
    have hle := clL_le hX
    refine ⟨?_, ?_, fun _ => ?_⟩
    · simp only; split
      · exact (wrongF_g _ _ _).1
      · rfl
    · simp only; split
      · exact (wrongF_g _ _ _).2
      · rfl
    · simp only
      split at hle <;> omega
theorem putF_same (d : Nd) (m : Bool) (r : FS) (b : Bs) : (putF d m r b).1.g = r.g ∧ (putF d m r b).1.k = r.k := ⟨nodeF_g _ _, nodeF_k _ _⟩
theorem mnyF_g (sg a nx : Nat) (r : FS) (b : Bs) : (mnyF s sg a nx r b).1.g = r.g := by
  unfold mnyF
  split
  · split
    · exact (putF_same _ _ _ _).1
    · exact (wrongF_g _ _ _).1
  · split
    · split
      · exact (wrongF_g _ _ _).1
      · exact nodeF_g _ _
    · exact nodeF_g _ _
theorem up_of {k0 : Nat} {r : FS} (h : k0 < r.k ∧ r.k ≤ s.size + 3) : Up s k0 r := .inr h
theorem sgnF_all (hM : Mono BRS) (c at_ nx k0 : Nat) (r : FS) (b : Bs) (hx : k0 < nx ∧ nx ≤ s.size + 3) :
    Up s k0 (sgnF s last BRS c at_ nx r b).1 ∧ (∀ n, Hb n b → Hb (n + 1) (sgnF s last BRS c at_ nx r b).2) ∧ r.g ≤ (sgnF s last BRS c at_ nx r b).1.g := by
  have P : ∀ (d : Nd) (m : Bool), Up s k0 (putF d m { r with k := nx } b).1 ∧ (∀ n, Hb n b → Hb (n + 1) (putF d m { r with k := nx } b).2) ∧ r.g ≤ (putF d m { r with k := nx } b).1.g := fun d m =>
    ⟨putF_up (up_of hx), fun _ hb => putF_hb hb, Nat.le_of_eq (putF_same d m { r with k := nx } b).1.symm⟩
  unfold sgnF
  simp only
  split
  · split <;> exact P _ _
  split
  · split <;> exact P _ _
  split
  · exact P _ _
  split
  · exact P _ _
  split
  · exact P _ _
  split
  · obtain ⟨h1, h2, h3⟩ := lastF_same last { r with k := nx }
    exact ⟨.inr (by rw [h2]; exact hx), fun _ hb => pieceF_hb hb, Nat.le_of_eq h1.symm⟩
  split
  · obtain ⟨h1, h2, h3⟩ := clF_same s (nx - 1) { r with k := nx }
    split
    · rename_i h0
      have := h3 h0
      refine ⟨putF_up (up_of ⟨?_, ?_⟩), fun _ hb => putF_hb hb, ?_⟩
      · show k0 < (clF s (nx - 1) { r with k := nx }).2.1; omega
      · show (clF s (nx - 1) { r with k := nx }).2.1 ≤ s.size + 3; omega
      · rw [(putF_same _ _ _ b).1]; exact Nat.le_of_eq h1.symm
    · refine ⟨putF_up (up_of (by rw [h2]; exact hx)), fun _ hb => putF_hb hb, ?_⟩
      rw [(putF_same _ _ _ b).1]; exact Nat.le_of_eq h1.symm
  split
  · refine ⟨?_, fun _ hb => grpF_hb hb, ?_⟩
    · unfold grpF
      split
      · exact .inl (wrongF_err (by decide) _ _)
      · simp only
        have hm := hM { r with k := nx, g := r.g + 1 }
        split
        · rename_i h; exact .inl h
        · rename_i h1
          split
          · exact .inl (wrongF_err (by decide) _ _)
          · rename_i h2
            have hk : nx ≤ (BRS { r with k := nx, g := r.g + 1 }).2.k := hm.2.resolve_left fun q => h1 q
            have ht := tkF_next s (BRS { r with k := nx, g := r.g + 1 }).2.md (BRS { r with k := nx, g := r.g + 1 }).2.cs (BRS { r with k := nx, g := r.g + 1 }).2.k
            exact putF_up (up_of ⟨by simp only; omega, by simp only; omega⟩)
    · unfold grpF
      split
      · rw [(wrongF_g _ _ _).1]; exact Nat.le_refl _
      · simp only
        have hm := (hM { r with k := nx, g := r.g + 1 }).1
        simp only at hm
        split
        · simp only; omega
        · split
          · rw [(wrongF_g _ _ _).1]; omega
          · rw [(putF_same _ _ _ b).1]; simp only; omega
  · exact ⟨mnyF_up hx, fun _ hb => mnyF_hb hb, by rw [mnyF_g]; exact Nat.le_refl _⟩
theorem err_stays {wi : Bool} {f : Nat} {r : FS} {b : Bs} (h : r.err ≠ 0) : bchL s last BRS wi f r b = (r, b) := by
  cases f with
  | zero => rfl
  | succ f => unfold bchL; rw [if_neg (fun q => h q.1)]
theorem bchL_mono (hM : Mono BRS) (wi : Bool) : ∀ (f : Nat) (r : FS) (b : Bs), r.g ≤ (bchL s last BRS wi f r b).1.g ∧ ((bchL s last BRS wi f r b).1.err ≠ 0 ∨ r.k ≤ (bchL s last BRS wi f r b).1.k) := by
  intro f
  induction f with
  | zero => intro r b; exact ⟨Nat.le_refl _, .inr (Nat.le_refl _)⟩
  | succ f ih =>
    intro r b
    unfold bchL
    split
    · rename_i h0
      simp only
      have ht := tkF_next s r.md r.cs r.k
      split
      · exact ⟨Nat.le_of_eq (wrongF_g _ _ _).1.symm, .inl (wrongF_err (by decide) _ _)⟩
      split
      · obtain ⟨h1, h2⟩ := ih { r with md := (tkF s r.md r.cs r.k).1.md, cs := (tkF s r.md r.cs r.k).1.cs, k := (tkF s r.md r.cs r.k).1.nx } b
        exact ⟨h1, h2.imp id fun h => by simp only at h; omega⟩
      split
      · exact ⟨Nat.le_refl _, .inr (Nat.le_refl _)⟩
      split
      · exact ⟨Nat.le_of_eq (wrongF_g _ _ _).1.symm, .inl (wrongF_err (by decide) _ _)⟩
      split
      · have hs := sgnF_all (s := s) (last := last) hM (tkF s r.md r.cs r.k).1.sg r.k (tkF s r.md r.cs r.k).1.nx r.k r b ⟨ht.1, by omega⟩
        obtain ⟨h1, h2⟩ := ih (sgnF s last BRS (tkF s r.md r.cs r.k).1.sg r.k (tkF s r.md r.cs r.k).1.nx r b).1 (sgnF s last BRS (tkF s r.md r.cs r.k).1.sg r.k (tkF s r.md r.cs r.k).1.nx r b).2
        exact ⟨Nat.le_trans hs.2.2 h1, by
          rcases h2 with h2 | h2
          · exact .inl h2
          · rcases hs.1 with q | q
            · left
              have := err_stays (s := s) (last := last) (BRS := BRS) (wi := wi) (f := f) (b := (sgnF s last BRS (tkF s r.md r.cs r.k).1.sg r.k (tkF s r.md r.cs r.k).1.nx r b).2) q
              rw [this]; exact q
            · right; omega⟩
      split
      · exact ⟨Nat.le_of_eq (wrongF_g _ _ _).1.symm, .inl (wrongF_err (by decide) _ _)⟩
      · obtain ⟨h1, h2⟩ := ih (putF (tkF s r.md r.cs r.k).1.nd ((tkF s r.md r.cs r.k).1.nd.op != 14 && (tkF s r.md r.cs r.k).1.nd.op != 15) { r with k := (tkF s r.md r.cs r.k).1.nx } b).1 (putF (tkF s r.md r.cs r.k).1.nd ((tkF s r.md r.cs r.k).1.nd.op != 14 && (tkF s r.md r.cs r.k).1.nd.op != 15) { r with k := (tkF s r.md r.cs r.k).1.nx } b).2
        rw [(putF_same _ _ _ b).1] at h1
        rw [(putF_same _ _ _ b).2] at h2
        exact ⟨h1, h2.imp id fun h => by simp only at h; omega⟩
    · exact ⟨Nat.le_refl _, .inr (Nat.le_refl _)⟩
theorem bchF_mono (hM : Mono BRS) (wi : Bool) (r : FS) : r.g ≤ (bchF s last BRS wi r).2.g ∧ ((bchF s last BRS wi r).2.err ≠ 0 ∨ r.k ≤ (bchF s last BRS wi r).2.k) := by
  unfold bchF
  obtain ⟨h1, h2, h3⟩ := rowF_same 5 (bchL s last BRS wi (s.size + 2) r ⟨[], false⟩).2.ks (bchL s last BRS wi (s.size + 2) r ⟨[], false⟩).1
  rw [h1, h2, h3]
  exact bchL_mono hM wi _ _ _
theorem bssL_mono (hM : Mono BRS) (wi : Bool) : ∀ (f : Nat) (r : FS) (ks : List Nat), r.g ≤ (bssL s last BRS wi f r ks).1.g ∧ ((bssL s last BRS wi f r ks).1.err ≠ 0 ∨ r.k ≤ (bssL s last BRS wi f r ks).1.k) := by
  intro f
  induction f with
  | zero => intro r b; exact ⟨Nat.le_refl _, .inr (Nat.le_refl _)⟩
  | succ f ih =>
    intro r ks
    unfold bssL
    split
    · split
      · have ht := tkF_next s r.md r.cs r.k
        obtain ⟨k1, k2⟩ := bchF_mono (s := s) (last := last) hM wi { r with k := (tkF s r.md r.cs r.k).1.nx }
        obtain ⟨h1, h2⟩ := ih (bchF s last BRS wi { r with k := (tkF s r.md r.cs r.k).1.nx }).2 (ks ++ [(bchF s last BRS wi { r with k := (tkF s r.md r.cs r.k).1.nx }).1])
        refine ⟨Nat.le_trans k1 h1, ?_⟩
        rcases h2 with h2 | h2
        · exact .inl h2
        · rcases k2 with q | q
          · left
            have : bssL s last BRS wi f (bchF s last BRS wi { r with k := (tkF s r.md r.cs r.k).1.nx }).2 (ks ++ [(bchF s last BRS wi { r with k := (tkF s r.md r.cs r.k).1.nx }).1]) = ((bchF s last BRS wi { r with k := (tkF s r.md r.cs r.k).1.nx }).2, (ks ++ [(bchF s last BRS wi { r with k := (tkF s r.md r.cs r.k).1.nx }).1])) := by
              cases f with
              | zero => rfl
              | succ f => unfold bssL; rw [if_neg (fun z => q z.1)]
            rw [this]; exact q
          · right; simp only at q; omega
      · exact ⟨Nat.le_refl _, .inr (Nat.le_refl _)⟩
    · exact ⟨Nat.le_refl _, .inr (Nat.le_refl _)⟩
theorem bssF_mono (hM : Mono BRS) (wi : Bool) : Mono (bssF s last BRS wi) := by
  intro r
  unfold bssF
  obtain ⟨h1, h2, h3⟩ := rowF_same 6 (bssL s last BRS wi (s.size + 2) (bchF s last BRS wi r).2 [(bchF s last BRS wi r).1]).2 (bssL s last BRS wi (s.size + 2) (bchF s last BRS wi r).2 [(bchF s last BRS wi r).1]).1
  rw [h1, h2, h3]
  obtain ⟨k1, k2⟩ := bchF_mono (s := s) (last := last) hM wi r
  obtain ⟨l1, l2⟩ := bssL_mono (s := s) (last := last) hM wi (s.size + 2) (bchF s last BRS wi r).2 [(bchF s last BRS wi r).1]
  refine ⟨Nat.le_trans k1 l1, ?_⟩
  rcases l2 with q | q
  · exact .inl q
  · rcases k2 with z | z
    · left
      have : bssL s last BRS wi (s.size + 2) (bchF s last BRS wi r).2 [(bchF s last BRS wi r).1] = ((bchF s last BRS wi r).2, [(bchF s last BRS wi r).1]) := by
        unfold bssL; rw [if_neg (fun y => z y.1)]
      rw [this]; exact z
    · exact .inr (Nat.le_trans z q)
theorem bsN_mono (n : Nat) : Mono (bsN s last n) := by
  induction n with
  | zero => intro r; exact ⟨Nat.le_refl _, .inr (Nat.le_refl _)⟩
  | succ n ih => exact bssF_mono ih true
end
end Go.Proofs.YtalmajiflmejcaaGreat
/- The document's reader: sign. -/
namespace Go.Proofs.YtalmajiflmejcaaGreat
open Go.ChangeShapes Go.WideShapes Go.ChangeAt Go.RowKit
set_option linter.unusedVariables false
set_option linter.unusedSimpArgs false
section
variable {B rb bb : Nat} {s last : ByteArray} {r r' r2 : FS} {vn vn1 vn2 : Qv} {kv kv1 kv2 : Value} {b : Bs} {w w1 w2 x y : World}
theorem coll_clF (h : Fq B rb s last r vn w) (hs : s.size ≤ 400) {opn : Nat} (ho : opn ≤ 900) :
    Calls Tryz.prog 166 #[.pointer (some ⟨rb, 0, none⟩), .int .i64 opn] w fun e w' => e = .returned (.tuple #[(clF s opn r).1.val, .int .i64 (clF s opn r).2.1]) ∧ Fq B rb s last (clF s opn r).2.2 vn w' ∧ Fr (On rb) w w' := by
  refine (collection_any h hs ho _ _ rfl rfl).mono ?_
  intro e w' q
  unfold RetS at q
  unfold clF
  have hn : isAt s (opn + 1) 94 = notAt s (opn + 1) := rfl
  rw [hn] at q
  cases hX : clL s (s.size + 2) (if notAt s (opn + 1) then opn + 2 else opn + 1) zeroS false true with
  | none => rw [hX] at q; exact q
  | some X => obtain ⟨a, c, d⟩ := X; rw [hX] at q; exact q
set_option maxHeartbeats 4000000 in
set_option maxRecDepth 100000 in
theorem sign_hat (h : Fq B rb s last r vn w) (hb : Bb B rb bb vn kv b w) (hs : s.size ≤ 400) (hl : b.ks.length < 40000) (at_ nx : Nat) (hx : nx ≤ 900) :
    Calls Tryz.prog 140 #[.pointer (some ⟨rb, 0, none⟩), .pointer (some ⟨bb, 0, none⟩), .int .u8 94, .int .i64 at_, .int .i64 nx] w (RetB B rb bb s last vn kv w (if b.ks = [] then putF { op := 10 } false { r with k := nx } b else putF { op := 2, c := 94 } true { r with k := nx } b)) := by
  have c1 := h.c1
  have f1 := h.fz 1
  have H1 : Hid (Gs B rb bb s last vn kv b w { r with k := nx } vn (w.setCell ⟨rb, 1, none⟩ (.int .i64 nx))) := (Gs.start h hb).on (h.setK nx) (fr_set _ _ _ _)
  obtain ⟨R, hR⟩ : ∃ R, (if b.ks = [] then putF { op := 10 } false { r with k := nx } b else putF { op := 2, c := 94 } true { r with k := nx } b) = R := ⟨_, rfl⟩
  have HR : Hid ((if b.ks = [] then putF { op := 10 } false { r with k := nx } b else putF { op := 2, c := 94 } true { r with k := nx } b) = R) := hR
  rw [hR]
  obtain ⟨ka, kc, hkv, v1, v2⟩ := owns_form hb.row
  obtain ⟨L, hL⟩ : ∃ L, b.ks.length = L := ⟨_, rfl⟩
  rw [hL] at hkv
  subst hkv
  clear h hb hR
  go_enter Tryz.func140, Tryz.ntmps140
  go_upto_region 1 with fail
  generalize w.setCell ⟨rb, 1, none⟩ (.int .i64 nx) = W1 at H1 ⊢
  clear c1 f1
  have e0 := H1.out.2.1.cells.1
  by_cases hq : b.ks = []
  · rw [if_pos hq] at HR
    have hL0 : L = 0 := by rw [← hL, hq]; rfl
    subst hL0
    clear hL v1 v2 hq
    have HN : Hid (Calls Tryz.prog 142 #[.pointer (some ⟨rb, 0, none⟩), .agg #[.int .u8 10, .int .u8 0, .int .u64 0, .int .u64 0, .int .u64 0, .int .u64 0, .int .i64 0, .int .i64 0, .bool false, .int .i64 0, .slice none 0 0]] _ (FAdd B rb s last (nodeF { op := 10 } { r with k := nx }) vn none _)) := fleaf H1.out.1 { op := 10 } rfl
    obtain ⟨⟨ni, r8⟩, hnr⟩ : ∃ X, nodeF { op := 10 } { r with k := nx } = X := ⟨_, rfl⟩
    unfold putF at HR
    rw [hnr] at HN HR
    clear hnr
    go_wp2_with (first | (go_at_call 142; refine Calls.mono HN.out ?_; rintro e w8 ⟨rfl, vn8, q1, q2⟩; have H9 : Hid (Gs B rb bb s last vn (.slice ka 0 kc) b w r8 vn8 w8) := H1.out.adv q1 q2; clear q1 q2) | (go_at_call 141; refine Calls.mono (piece_any H9.out.1 H9.out.2.1 (by omega) _ _) ?_; rintro e w9 ⟨rfl, vn9, kv9, q1, q2, q3⟩; have H10 : Hid (Fq B rb s last r8 vn9 w9 ∧ Bb B rb bb vn9 kv9 (pieceF b ni false) w9 ∧ AdvB rb bb vn (.slice ka 0 kc) w vn9 kv9 w9) := ⟨q1, q2, H9.out.2.2.trans q3⟩; clear q1 q2 q3))
    go_end0
    rw [← HR.out]
    exact ⟨rfl, vn9, kv9, H10.out⟩
  · rw [if_neg hq] at HR
    obtain ⟨M, rfl⟩ : ∃ M, L = M + 1 := ⟨L - 1, by have := List.length_pos_iff.2 hq; omega⟩
    have e1 : (((M : Int) + 1) == 0) = false := by simp; omega
    clear hL v1 v2 hq
    have HN : Hid (Calls Tryz.prog 142 #[.pointer (some ⟨rb, 0, none⟩), .agg #[.int .u8 2, .int .u8 94, .int .u64 0, .int .u64 0, .int .u64 0, .int .u64 0, .int .i64 0, .int .i64 0, .bool false, .int .i64 0, .slice none 0 0]] _ (FAdd B rb s last (nodeF { op := 2, c := 94 } { r with k := nx }) vn none _)) := fleaf H1.out.1 { op := 2, c := 94 } rfl
    obtain ⟨⟨ni, r8⟩, hnr⟩ : ∃ X, nodeF { op := 2, c := 94 } { r with k := nx } = X := ⟨_, rfl⟩
    unfold putF at HR
    rw [hnr] at HN HR
    clear hnr
    go_wp2_with (first | (go_at_call 142; refine Calls.mono HN.out ?_; rintro e w8 ⟨rfl, vn8, q1, q2⟩; have H9 : Hid (Gs B rb bb s last vn (.slice ka (M + 1) kc) b w r8 vn8 w8) := H1.out.adv q1 q2; clear q1 q2) | (go_at_call 141; refine Calls.mono (piece_any H9.out.1 H9.out.2.1 (by omega) _ _) ?_; rintro e w9 ⟨rfl, vn9, kv9, q1, q2, q3⟩; have H10 : Hid (Fq B rb s last r8 vn9 w9 ∧ Bb B rb bb vn9 kv9 (pieceF b ni true) w9 ∧ AdvB rb bb vn (.slice ka (M + 1) kc) w vn9 kv9 w9) := ⟨q1, q2, H9.out.2.2.trans q3⟩; clear q1 q2 q3))
    go_end0
    rw [← HR.out]
    exact ⟨rfl, vn9, kv9, H10.out⟩
set_option maxHeartbeats 4000000 in
set_option maxRecDepth 100000 in
theorem sign_end (h : Fq B rb s last r vn w) (hb : Bb B rb bb vn kv b w) (hs : s.size ≤ 400) (hl : b.ks.length < 40000) (at_ nx : Nat) (hx : nx ≤ 900) :
    Calls Tryz.prog 140 #[.pointer (some ⟨rb, 0, none⟩), .pointer (some ⟨bb, 0, none⟩), .int .u8 36, .int .i64 at_, .int .i64 nx] w (RetB B rb bb s last vn kv w (if endL s r.cs (s.size + 1) nx r.md then putF { op := 11 } false { r with k := nx } b else putF { op := 2, c := 36 } true { r with k := nx } b)) := by
  have c1 := h.c1
  have f1 := h.fz 1
  have H1 : Hid (Gs B rb bb s last vn kv b w { r with k := nx } vn (w.setCell ⟨rb, 1, none⟩ (.int .i64 nx))) := (Gs.start h hb).on (h.setK nx) (fr_set _ _ _ _)
  obtain ⟨R, hR⟩ : ∃ R, (if endL s r.cs (s.size + 1) nx r.md then putF { op := 11 } false { r with k := nx } b else putF { op := 2, c := 36 } true { r with k := nx } b) = R := ⟨_, rfl⟩
  have HR : Hid ((if endL s r.cs (s.size + 1) nx r.md then putF { op := 11 } false { r with k := nx } b else putF { op := 2, c := 36 } true { r with k := nx } b) = R) := hR
  rw [hR]
  obtain ⟨y, hy⟩ : ∃ y, endL s r.cs (s.size + 1) nx r.md = y := ⟨_, rfl⟩
  have HEn : Hid (∀ x, Fq B rb s last { r with k := nx } vn x → Calls Tryz.prog 164 #[.pointer (some ⟨rb, 0, none⟩), .int .i64 nx] x fun e w' => e = .returned (.bool y) ∧ Kp x w') := fun x hq => ends_any hq hs (by omega) y hy
  rw [hy] at HR
  clear h hb hR hy
  go_enter Tryz.func140, Tryz.ntmps140
  go_upto_region 1 with fail
  generalize w.setCell ⟨rb, 1, none⟩ (.int .i64 nx) = W1 at H1 ⊢
  clear c1 f1
  go_upto_region 8 with fail
  cases y with
  | true =>
    simp only [if_true] at HR
    have H2' : Hid (∀ x, Kp W1 x → Gs B rb bb s last vn kv b w { r with k := nx } vn x) := fun x k => H1.out.kp k
    obtain ⟨r3, hr3⟩ : ∃ r3, ({ r with k := nx } : FS) = r3 := ⟨_, rfl⟩
    rw [hr3] at HR H2'
    go_upto_region 9 with (go_at_call 164; refine Calls.mono (HEn.out _ H1.out.1) ?_; rintro e w2 ⟨rfl, k2⟩; have H2 : Hid (Gs B rb bb s last vn kv b w r3 vn w2) := H2'.out _ k2; clear k2)
    clear hr3
    have HN : Hid (Calls Tryz.prog 142 #[.pointer (some ⟨rb, 0, none⟩), .agg #[.int .u8 11, .int .u8 0, .int .u64 0, .int .u64 0, .int .u64 0, .int .u64 0, .int .i64 0, .int .i64 0, .bool false, .int .i64 0, .slice none 0 0]] _ (FAdd B rb s last (nodeF { op := 11 } r3) vn none _)) := fleaf H2.out.1 { op := 11 } rfl
    obtain ⟨⟨ni, r8⟩, hnr⟩ : ∃ X, nodeF { op := 11 } r3 = X := ⟨_, rfl⟩
    unfold putF at HR
    rw [hnr] at HN HR
    clear hnr
    go_wp2_with (first | (go_at_call 142; refine Calls.mono HN.out ?_; rintro e w8 ⟨rfl, vn8, q1, q2⟩; have H9 : Hid (Gs B rb bb s last vn kv b w r8 vn8 w8) := H2.out.adv q1 q2; clear q1 q2) | (go_at_call 141; refine Calls.mono (piece_any H9.out.1 H9.out.2.1 (by omega) _ _) ?_; rintro e w9 ⟨rfl, vn9, kv9, q1, q2, q3⟩; have H10 : Hid (Fq B rb s last r8 vn9 w9 ∧ Bb B rb bb vn9 kv9 (pieceF b ni false) w9 ∧ AdvB rb bb vn kv w vn9 kv9 w9) := ⟨q1, q2, H9.out.2.2.trans q3⟩; clear q1 q2 q3))
    go_end0
    rw [← HR.out]
    exact ⟨rfl, vn9, kv9, H10.out⟩
  | false =>
    simp only [if_false, Bool.false_eq_true] at HR
    have H2' : Hid (∀ x, Kp W1 x → Gs B rb bb s last vn kv b w { r with k := nx } vn x) := fun x k => H1.out.kp k
    obtain ⟨r3, hr3⟩ : ∃ r3, ({ r with k := nx } : FS) = r3 := ⟨_, rfl⟩
    rw [hr3] at HR H2'
    go_upto_region 10 with (go_at_call 164; refine Calls.mono (HEn.out _ H1.out.1) ?_; rintro e w2 ⟨rfl, k2⟩; have H2 : Hid (Gs B rb bb s last vn kv b w r3 vn w2) := H2'.out _ k2; clear k2)
    clear hr3
    have HN : Hid (Calls Tryz.prog 142 #[.pointer (some ⟨rb, 0, none⟩), .agg #[.int .u8 2, .int .u8 36, .int .u64 0, .int .u64 0, .int .u64 0, .int .u64 0, .int .i64 0, .int .i64 0, .bool false, .int .i64 0, .slice none 0 0]] _ (FAdd B rb s last (nodeF { op := 2, c := 36 } r3) vn none _)) := fleaf H2.out.1 { op := 2, c := 36 } rfl
    obtain ⟨⟨ni, r8⟩, hnr⟩ : ∃ X, nodeF { op := 2, c := 36 } r3 = X := ⟨_, rfl⟩
    unfold putF at HR
    rw [hnr] at HN HR
    clear hnr
    go_wp2_with (first | (go_at_call 142; refine Calls.mono HN.out ?_; rintro e w8 ⟨rfl, vn8, q1, q2⟩; have H9 : Hid (Gs B rb bb s last vn kv b w r8 vn8 w8) := H2.out.adv q1 q2; clear q1 q2) | (go_at_call 141; refine Calls.mono (piece_any H9.out.1 H9.out.2.1 (by omega) _ _) ?_; rintro e w9 ⟨rfl, vn9, kv9, q1, q2, q3⟩; have H10 : Hid (Fq B rb s last r8 vn9 w9 ∧ Bb B rb bb vn9 kv9 (pieceF b ni true) w9 ∧ AdvB rb bb vn kv w vn9 kv9 w9) := ⟨q1, q2, H9.out.2.2.trans q3⟩; clear q1 q2 q3))
    go_end0
    rw [← HR.out]
    exact ⟨rfl, vn9, kv9, H10.out⟩
set_option maxHeartbeats 4000000 in
set_option maxRecDepth 100000 in
theorem sign_dot (h : Fq B rb s last r vn w) (hb : Bb B rb bb vn kv b w) (hs : s.size ≤ 400) (hl : b.ks.length < 40000) (at_ nx : Nat) (hx : nx ≤ 900) :
    Calls Tryz.prog 140 #[.pointer (some ⟨rb, 0, none⟩), .pointer (some ⟨bb, 0, none⟩), .int .u8 46, .int .i64 at_, .int .i64 nx] w (RetB B rb bb s last vn kv w (putF { op := 3 } true { r with k := nx } b)) := by
  have c1 := h.c1
  have f1 := h.fz 1
  have H1 : Hid (Gs B rb bb s last vn kv b w { r with k := nx } vn (w.setCell ⟨rb, 1, none⟩ (.int .i64 nx))) := (Gs.start h hb).on (h.setK nx) (fr_set _ _ _ _)
  obtain ⟨R, hR⟩ : ∃ R, (putF { op := 3 } true { r with k := nx } b) = R := ⟨_, rfl⟩
  have HR : Hid ((putF { op := 3 } true { r with k := nx } b) = R) := hR
  rw [hR]
  clear h hb hR
  go_enter Tryz.func140, Tryz.ntmps140
  go_upto_region 1 with fail
  generalize w.setCell ⟨rb, 1, none⟩ (.int .i64 nx) = W1 at H1 ⊢
  clear c1 f1
  have HN : Hid (Calls Tryz.prog 142 #[.pointer (some ⟨rb, 0, none⟩), .agg #[.int .u8 3, .int .u8 0, .int .u64 0, .int .u64 0, .int .u64 0, .int .u64 0, .int .i64 0, .int .i64 0, .bool false, .int .i64 0, .slice none 0 0]] _ (FAdd B rb s last (nodeF { op := 3 } { r with k := nx }) vn none _)) := fleaf H1.out.1 { op := 3 } rfl
  obtain ⟨⟨ni, r8⟩, hnr⟩ : ∃ X, nodeF { op := 3 } { r with k := nx } = X := ⟨_, rfl⟩
  unfold putF at HR
  rw [hnr] at HN HR
  clear hnr
  go_wp2_with (first | (go_at_call 142; refine Calls.mono HN.out ?_; rintro e w8 ⟨rfl, vn8, q1, q2⟩; have H9 : Hid (Gs B rb bb s last vn kv b w r8 vn8 w8) := H1.out.adv q1 q2; clear q1 q2) | (go_at_call 141; refine Calls.mono (piece_any H9.out.1 H9.out.2.1 (by omega) _ _) ?_; rintro e w9 ⟨rfl, vn9, kv9, q1, q2, q3⟩; have H10 : Hid (Fq B rb s last r8 vn9 w9 ∧ Bb B rb bb vn9 kv9 (pieceF b ni true) w9 ∧ AdvB rb bb vn kv w vn9 kv9 w9) := ⟨q1, q2, H9.out.2.2.trans q3⟩; clear q1 q2 q3))
  go_end0
  rw [← HR.out]
  exact ⟨rfl, vn9, kv9, H10.out⟩
set_option maxHeartbeats 4000000 in
set_option maxRecDepth 100000 in
theorem sign_bow (h : Fq B rb s last r vn w) (hb : Bb B rb bb vn kv b w) (hs : s.size ≤ 400) (hl : b.ks.length < 40000) (at_ nx : Nat) (hx : nx ≤ 900) :
    Calls Tryz.prog 140 #[.pointer (some ⟨rb, 0, none⟩), .pointer (some ⟨bb, 0, none⟩), .int .u8 60, .int .i64 at_, .int .i64 nx] w (RetB B rb bb s last vn kv w (putF { op := 12 } false { r with k := nx } b)) := by
  have c1 := h.c1
  have f1 := h.fz 1
  have H1 : Hid (Gs B rb bb s last vn kv b w { r with k := nx } vn (w.setCell ⟨rb, 1, none⟩ (.int .i64 nx))) := (Gs.start h hb).on (h.setK nx) (fr_set _ _ _ _)
  obtain ⟨R, hR⟩ : ∃ R, (putF { op := 12 } false { r with k := nx } b) = R := ⟨_, rfl⟩
  have HR : Hid ((putF { op := 12 } false { r with k := nx } b) = R) := hR
  rw [hR]
  clear h hb hR
  go_enter Tryz.func140, Tryz.ntmps140
  go_upto_region 1 with fail
  generalize w.setCell ⟨rb, 1, none⟩ (.int .i64 nx) = W1 at H1 ⊢
  clear c1 f1
  have HN : Hid (Calls Tryz.prog 142 #[.pointer (some ⟨rb, 0, none⟩), .agg #[.int .u8 12, .int .u8 0, .int .u64 0, .int .u64 0, .int .u64 0, .int .u64 0, .int .i64 0, .int .i64 0, .bool false, .int .i64 0, .slice none 0 0]] _ (FAdd B rb s last (nodeF { op := 12 } { r with k := nx }) vn none _)) := fleaf H1.out.1 { op := 12 } rfl
  obtain ⟨⟨ni, r8⟩, hnr⟩ : ∃ X, nodeF { op := 12 } { r with k := nx } = X := ⟨_, rfl⟩
  unfold putF at HR
  rw [hnr] at HN HR
  clear hnr
  go_wp2_with (first | (go_at_call 142; refine Calls.mono HN.out ?_; rintro e w8 ⟨rfl, vn8, q1, q2⟩; have H9 : Hid (Gs B rb bb s last vn kv b w r8 vn8 w8) := H1.out.adv q1 q2; clear q1 q2) | (go_at_call 141; refine Calls.mono (piece_any H9.out.1 H9.out.2.1 (by omega) _ _) ?_; rintro e w9 ⟨rfl, vn9, kv9, q1, q2, q3⟩; have H10 : Hid (Fq B rb s last r8 vn9 w9 ∧ Bb B rb bb vn9 kv9 (pieceF b ni false) w9 ∧ AdvB rb bb vn kv w vn9 kv9 w9) := ⟨q1, q2, H9.out.2.2.trans q3⟩; clear q1 q2 q3))
  go_end0
  rw [← HR.out]
  exact ⟨rfl, vn9, kv9, H10.out⟩
set_option maxHeartbeats 4000000 in
set_option maxRecDepth 100000 in
theorem sign_eow (h : Fq B rb s last r vn w) (hb : Bb B rb bb vn kv b w) (hs : s.size ≤ 400) (hl : b.ks.length < 40000) (at_ nx : Nat) (hx : nx ≤ 900) :
    Calls Tryz.prog 140 #[.pointer (some ⟨rb, 0, none⟩), .pointer (some ⟨bb, 0, none⟩), .int .u8 62, .int .i64 at_, .int .i64 nx] w (RetB B rb bb s last vn kv w (putF { op := 13 } false { r with k := nx } b)) := by
  have c1 := h.c1
  have f1 := h.fz 1
  have H1 : Hid (Gs B rb bb s last vn kv b w { r with k := nx } vn (w.setCell ⟨rb, 1, none⟩ (.int .i64 nx))) := (Gs.start h hb).on (h.setK nx) (fr_set _ _ _ _)
  obtain ⟨R, hR⟩ : ∃ R, (putF { op := 13 } false { r with k := nx } b) = R := ⟨_, rfl⟩
  have HR : Hid ((putF { op := 13 } false { r with k := nx } b) = R) := hR
  rw [hR]
  clear h hb hR
  go_enter Tryz.func140, Tryz.ntmps140
  go_upto_region 1 with fail
  generalize w.setCell ⟨rb, 1, none⟩ (.int .i64 nx) = W1 at H1 ⊢
  clear c1 f1
  have HN : Hid (Calls Tryz.prog 142 #[.pointer (some ⟨rb, 0, none⟩), .agg #[.int .u8 13, .int .u8 0, .int .u64 0, .int .u64 0, .int .u64 0, .int .u64 0, .int .i64 0, .int .i64 0, .bool false, .int .i64 0, .slice none 0 0]] _ (FAdd B rb s last (nodeF { op := 13 } { r with k := nx }) vn none _)) := fleaf H1.out.1 { op := 13 } rfl
  obtain ⟨⟨ni, r8⟩, hnr⟩ : ∃ X, nodeF { op := 13 } { r with k := nx } = X := ⟨_, rfl⟩
  unfold putF at HR
  rw [hnr] at HN HR
  clear hnr
  go_wp2_with (first | (go_at_call 142; refine Calls.mono HN.out ?_; rintro e w8 ⟨rfl, vn8, q1, q2⟩; have H9 : Hid (Gs B rb bb s last vn kv b w r8 vn8 w8) := H1.out.adv q1 q2; clear q1 q2) | (go_at_call 141; refine Calls.mono (piece_any H9.out.1 H9.out.2.1 (by omega) _ _) ?_; rintro e w9 ⟨rfl, vn9, kv9, q1, q2, q3⟩; have H10 : Hid (Fq B rb s last r8 vn9 w9 ∧ Bb B rb bb vn9 kv9 (pieceF b ni false) w9 ∧ AdvB rb bb vn kv w vn9 kv9 w9) := ⟨q1, q2, H9.out.2.2.trans q3⟩; clear q1 q2 q3))
  go_end0
  rw [← HR.out]
  exact ⟨rfl, vn9, kv9, H10.out⟩
set_option maxHeartbeats 4000000 in
set_option maxRecDepth 100000 in
theorem sign_til (h : Fq B rb s last r vn w) (hb : Bb B rb bb vn kv b w) (hs : s.size ≤ 400) (hl : b.ks.length < 40000) (at_ nx : Nat) (hx : nx ≤ 900) (hla : last.size ≤ 1000) :
    Calls Tryz.prog 140 #[.pointer (some ⟨rb, 0, none⟩), .pointer (some ⟨bb, 0, none⟩), .int .u8 126, .int .i64 at_, .int .i64 nx] w (RetB B rb bb s last vn kv w (((lastF last { r with k := nx }).2, pieceF b (lastF last { r with k := nx }).1 true))) := by
  have c1 := h.c1
  have f1 := h.fz 1
  have H1 : Hid (Gs B rb bb s last vn kv b w { r with k := nx } vn (w.setCell ⟨rb, 1, none⟩ (.int .i64 nx))) := (Gs.start h hb).on (h.setK nx) (fr_set _ _ _ _)
  obtain ⟨R, hR⟩ : ∃ R, (((lastF last { r with k := nx }).2, pieceF b (lastF last { r with k := nx }).1 true)) = R := ⟨_, rfl⟩
  have HR : Hid ((((lastF last { r with k := nx }).2, pieceF b (lastF last { r with k := nx }).1 true)) = R) := hR
  rw [hR]
  clear h hb hR
  go_enter Tryz.func140, Tryz.ntmps140
  go_upto_region 1 with fail
  generalize w.setCell ⟨rb, 1, none⟩ (.int .i64 nx) = W1 at H1 ⊢
  clear c1 f1
  have HN : Hid _ := last_any H1.out.1 hla
  obtain ⟨⟨ni, r8⟩, hnr⟩ : ∃ X, lastF last { r with k := nx } = X := ⟨_, rfl⟩
  rw [hnr] at HN HR
  clear hnr
  go_wp2_with (first | (go_at_call 165; refine Calls.mono HN.out ?_; rintro e w8 ⟨rfl, vn8, q1, q2⟩; have H9 : Hid (Gs B rb bb s last vn kv b w r8 vn8 w8) := H1.out.adv q1 q2; clear q1 q2) | (go_at_call 141; refine Calls.mono (piece_any H9.out.1 H9.out.2.1 (by omega) _ _) ?_; rintro e w9 ⟨rfl, vn9, kv9, q1, q2, q3⟩; have H10 : Hid (Fq B rb s last r8 vn9 w9 ∧ Bb B rb bb vn9 kv9 (pieceF b ni true) w9 ∧ AdvB rb bb vn kv w vn9 kv9 w9) := ⟨q1, q2, H9.out.2.2.trans q3⟩; clear q1 q2 q3))
  go_end0
  rw [← HR.out]
  exact ⟨rfl, vn9, kv9, H10.out⟩
set_option maxHeartbeats 4000000 in
set_option maxRecDepth 100000 in
theorem sign_coll (h : Fq B rb s last r vn w) (hb : Bb B rb bb vn kv b w) (hs : s.size ≤ 400) (hl : b.ks.length < 40000) (at_ nx : Nat) (hx : nx ≤ 900) (h1 : 1 ≤ nx) (hat : at_ ≤ 1000) :
    Calls Tryz.prog 140 #[.pointer (some ⟨rb, 0, none⟩), .pointer (some ⟨bb, 0, none⟩), .int .u8 91, .int .i64 at_, .int .i64 nx] w (RetB B rb bb s last vn kv w (if 0 < (clF s (nx - 1) { r with k := nx }).2.1 then putF { op := 4, set := (clF s (nx - 1) { r with k := nx }).1 } true { (clF s (nx - 1) { r with k := nx }).2.2 with k := (clF s (nx - 1) { r with k := nx }).2.1 } b else putF { op := 2, c := 91 } true (clF s (nx - 1) { r with k := nx }).2.2 b)) := by
  have c1 := h.c1
  have f1 := h.fz 1
  have H1 : Hid (Gs B rb bb s last vn kv b w { r with k := nx } vn (w.setCell ⟨rb, 1, none⟩ (.int .i64 nx))) := (Gs.start h hb).on (h.setK nx) (fr_set _ _ _ _)
  obtain ⟨R, hR⟩ : ∃ R, (if 0 < (clF s (nx - 1) { r with k := nx }).2.1 then putF { op := 4, set := (clF s (nx - 1) { r with k := nx }).1 } true { (clF s (nx - 1) { r with k := nx }).2.2 with k := (clF s (nx - 1) { r with k := nx }).2.1 } b else putF { op := 2, c := 91 } true (clF s (nx - 1) { r with k := nx }).2.2 b) = R := ⟨_, rfl⟩
  have HR : Hid ((if 0 < (clF s (nx - 1) { r with k := nx }).2.1 then putF { op := 4, set := (clF s (nx - 1) { r with k := nx }).1 } true { (clF s (nx - 1) { r with k := nx }).2.2 with k := (clF s (nx - 1) { r with k := nx }).2.1 } b else putF { op := 2, c := 91 } true (clF s (nx - 1) { r with k := nx }).2.2 b) = R) := hR
  rw [hR]
  obtain ⟨o1, ho1⟩ : ∃ o1, nx - 1 = o1 := ⟨_, rfl⟩
  have hi : (at_ : Int) + (nx : Int) - (at_ : Int) - 1 = (o1 : Int) := by omega
  have HC : Hid (∀ x, Fq B rb s last { r with k := nx } vn x → Calls Tryz.prog 166 #[.pointer (some ⟨rb, 0, none⟩), .int .i64 o1] x fun e w' => e = .returned (.tuple #[(clF s o1 { r with k := nx }).1.val, .int .i64 (clF s o1 { r with k := nx }).2.1]) ∧ Fq B rb s last (clF s o1 { r with k := nx }).2.2 vn w' ∧ Fr (On rb) x w') := fun x hq => coll_clF hq hs (by omega)
  rw [ho1] at HR
  obtain ⟨⟨q, en, r3⟩, hX⟩ : ∃ X, clF s o1 { r with k := nx } = X := ⟨_, rfl⟩
  rw [hX] at HR HC
  simp only at HR HC
  obtain ⟨qa, qb, qc, qd⟩ := q
  clear h hb hR hX ho1
  go_enter Tryz.func140, Tryz.ntmps140
  go_upto_region 1 with fail
  generalize w.setCell ⟨rb, 1, none⟩ (.int .i64 nx) = W1 at H1 ⊢
  clear c1 f1
  unfold S4.val at HC
  go_upto_region 21 with (go_at_call 166; refine Calls.mono (HC.out _ H1.out.1) ?_; rintro e w2 ⟨rfl, q1, q2⟩; have H2 : Hid (Gs B rb bb s last vn kv b w r3 vn w2) := H1.out.on q1 q2; clear q1 q2)
  clear hi HC
  obtain ⟨m, hm⟩ : ∃ m, w2.heap.size = m := ⟨_, rfl⟩
  have H3 : Hid (Gs B rb bb s last vn kv b w r3 vn (w2.alloc (.cells #[.int .u64 qa, .int .u64 qb, .int .u64 qc, .int .u64 qd] 108)) ∧ Lc 108 m [.int .u64 qa, .int .u64 qb, .int .u64 qc, .int .u64 qd] (w2.alloc (.cells #[.int .u64 qa, .int .u64 qb, .int .u64 qc, .int .u64 qd] 108)) ∧ rb ≠ m) := by
    rw [← hm]
    exact ⟨H2.out.kp (kp_alloc _ _), Lc.new _ [.int .u64 qa, .int .u64 qb, .int .u64 qc, .int .u64 qd] _, Nat.ne_of_lt H2.out.1.lt⟩
  rw [hm]
  generalize w2.alloc (.cells #[.int .u64 qa, .int .u64 qb, .int .u64 qc, .int .u64 qd] 108) = w3 at H3 ⊢
  clear hm H2
  by_cases hen : 0 < en
  · rw [if_pos hen] at HR
    have d1 : decide ((en : Int) > 0) = true := decide_eq_true (by omega)
    have d2 : decide ((0 : Int) < (en : Int)) = true := decide_eq_true (by omega)
    have d3 : decide (0 < en) = true := decide_eq_true hen
    have c1 := H3.out.1.1.c1
    have f1 := H3.out.1.1.fz 1
    have H4 : Hid (Gs B rb bb s last vn kv b w { r3 with k := en } vn (w3.setCell ⟨rb, 1, none⟩ (.int .i64 en)) ∧ Lc 108 m [.int .u64 qa, .int .u64 qb, .int .u64 qc, .int .u64 qd] (w3.setCell ⟨rb, 1, none⟩ (.int .i64 en))) := ⟨H3.out.1.on (H3.out.1.1.setK en) (fr_set _ _ _ _), H3.out.2.1.other H3.out.2.2⟩
    go_upto_region 23 with fail
    generalize w3.setCell ⟨rb, 1, none⟩ (.int .i64 en) = w4 at H4 ⊢
    clear c1 f1 d1 d2 d3 hen H3
    have s0 : w4.cell? ⟨m, 0, none⟩ = some (.int .u64 qa) := H4.out.2.at rfl
    have s1 : w4.cell? ⟨m, 1, none⟩ = some (.int .u64 qb) := H4.out.2.at rfl
    have s2 : w4.cell? ⟨m, 2, none⟩ = some (.int .u64 qc) := H4.out.2.at rfl
    have s3 : w4.cell? ⟨m, 3, none⟩ = some (.int .u64 qd) := H4.out.2.at rfl
    have H5 : Hid (Gs B rb bb s last vn kv b w { r3 with k := en } vn w4) := H4.out.1
    have HN : Hid (Calls Tryz.prog 142 #[.pointer (some ⟨rb, 0, none⟩), .agg #[.int .u8 4, .int .u8 0, .int .u64 qa, .int .u64 qb, .int .u64 qc, .int .u64 qd, .int .i64 0, .int .i64 0, .bool false, .int .i64 0, .slice none 0 0]] _ (FAdd B rb s last (nodeF { op := 4, set := ⟨qa, qb, qc, qd⟩ } { r3 with k := en }) vn none _)) := fleaf H5.out.1 { op := 4, set := ⟨qa, qb, qc, qd⟩ } rfl
    obtain ⟨⟨ni, r8⟩, hnr⟩ : ∃ X, nodeF { op := 4, set := ⟨qa, qb, qc, qd⟩ } { r3 with k := en } = X := ⟨_, rfl⟩
    unfold putF at HR
    rw [hnr] at HN HR
    clear hnr
    go_wp2_with (first | (go_at_call 142; refine Calls.mono HN.out ?_; rintro e w8 ⟨rfl, vn8, q1, q2⟩; have H9 : Hid (Gs B rb bb s last vn kv b w r8 vn8 w8) := H5.out.adv q1 q2; clear q1 q2) | (go_at_call 141; refine Calls.mono (piece_any H9.out.1 H9.out.2.1 (by omega) _ _) ?_; rintro e w9 ⟨rfl, vn9, kv9, q1, q2, q3⟩; have H10 : Hid (Fq B rb s last r8 vn9 w9 ∧ Bb B rb bb vn9 kv9 (pieceF b ni true) w9 ∧ AdvB rb bb vn kv w vn9 kv9 w9) := ⟨q1, q2, H9.out.2.2.trans q3⟩; clear q1 q2 q3))
    go_end0
    rw [← HR.out]
    exact ⟨rfl, vn9, kv9, H10.out⟩
  · rw [if_neg hen] at HR
    obtain rfl : en = 0 := by omega
    have H5 : Hid (Gs B rb bb s last vn kv b w r3 vn w3) := H3.out.1
    clear hen
    go_upto_region 24 with fail
    have HN : Hid (Calls Tryz.prog 142 #[.pointer (some ⟨rb, 0, none⟩), .agg #[.int .u8 2, .int .u8 91, .int .u64 0, .int .u64 0, .int .u64 0, .int .u64 0, .int .i64 0, .int .i64 0, .bool false, .int .i64 0, .slice none 0 0]] _ (FAdd B rb s last (nodeF { op := 2, c := 91 } r3) vn none _)) := fleaf H5.out.1 { op := 2, c := 91 } rfl
    obtain ⟨⟨ni, r8⟩, hnr⟩ : ∃ X, nodeF { op := 2, c := 91 } r3 = X := ⟨_, rfl⟩
    unfold putF at HR
    rw [hnr] at HN HR
    clear hnr
    go_wp2_with (first | (go_at_call 142; refine Calls.mono HN.out ?_; rintro e w8 ⟨rfl, vn8, q1, q2⟩; have H9 : Hid (Gs B rb bb s last vn kv b w r8 vn8 w8) := H5.out.adv q1 q2; clear q1 q2) | (go_at_call 141; refine Calls.mono (piece_any H9.out.1 H9.out.2.1 (by omega) _ _) ?_; rintro e w9 ⟨rfl, vn9, kv9, q1, q2, q3⟩; have H10 : Hid (Fq B rb s last r8 vn9 w9 ∧ Bb B rb bb vn9 kv9 (pieceF b ni true) w9 ∧ AdvB rb bb vn kv w vn9 kv9 w9) := ⟨q1, q2, H9.out.2.2.trans q3⟩; clear q1 q2 q3))
    go_end0
    rw [← HR.out]
    exact ⟨rfl, vn9, kv9, H10.out⟩
set_option maxHeartbeats 4000000 in
set_option maxRecDepth 100000 in
theorem sign_open {BRS : FS → Nat × FS} (h : Fq B rb s last r vn w) (hb : Bb B rb bb vn kv b w) (hs : s.size ≤ 400) (hl : b.ks.length < 40000) (at_ nx : Nat) (hx : nx ≤ 900)
    (HBR : r.g < 9 → ∀ vn x, Fq B rb s last { r with k := nx, g := r.g + 1 } vn x → Calls Tryz.prog 78 #[.pointer (some ⟨rb, 0, none⟩), .bool true] x (FAdd B rb s last (BRS { r with k := nx, g := r.g + 1 }) vn none x)) :
    Calls Tryz.prog 140 #[.pointer (some ⟨rb, 0, none⟩), .pointer (some ⟨bb, 0, none⟩), .int .u8 40, .int .i64 at_, .int .i64 nx] w (RetB B rb bb s last vn kv w (grpF s BRS at_ { r with k := nx } b)) := by
  have c1 := h.c1
  have f1 := h.fz 1
  have H1 : Hid (Gs B rb bb s last vn kv b w { r with k := nx } vn (w.setCell ⟨rb, 1, none⟩ (.int .i64 nx))) := (Gs.start h hb).on (h.setK nx) (fr_set _ _ _ _)
  obtain ⟨R, hR⟩ : ∃ R, (grpF s BRS at_ { r with k := nx } b) = R := ⟨_, rfl⟩
  have HR : Hid ((grpF s BRS at_ { r with k := nx } b) = R) := hR
  rw [hR]
  clear h hb hR
  go_enter Tryz.func140, Tryz.ntmps140
  go_upto_region 1 with fail
  generalize w.setCell ⟨rb, 1, none⟩ (.int .i64 nx) = W1 at H1 ⊢
  clear c1 f1
  have HG : Hid _ := group_any (BRS := BRS) H1.out.1 H1.out.2.1 hs (by omega) at_ HBR
  go_wp2_with fail
  refine Calls.mono HG.out ?_
  rintro e w9 ⟨rfl, vn9, kv9, q1, q2, q3⟩
  have H10 : Hid (Fq B rb s last (grpF s BRS at_ { r with k := nx } b).1 vn9 w9 ∧ Bb B rb bb vn9 kv9 (grpF s BRS at_ { r with k := nx } b).2 w9 ∧ AdvB rb bb vn kv w vn9 kv9 w9) := ⟨q1, q2, H1.out.2.2.trans q3⟩
  clear q1 q2 q3 HG
  go_wp2_with fail
  go_end0
  rw [← HR.out]
  exact ⟨rfl, vn9, kv9, H10.out⟩
set_option maxHeartbeats 4000000 in
set_option maxRecDepth 100000 in
theorem sign_mny {c : Nat} (hc : c ≠ 94 ∧ c ≠ 36 ∧ c ≠ 46 ∧ c ≠ 60 ∧ c ≠ 62 ∧ c ≠ 126 ∧ c ≠ 91 ∧ c ≠ 40) (h : Fq B rb s last r vn w) (hb : Bb B rb bb vn kv b w) (hs : s.size ≤ 400) (hl : b.ks.length < 40000) (at_ nx : Nat) (hx : nx ≤ 900) (hm : b.may = true → b.ks ≠ []) :
    Calls Tryz.prog 140 #[.pointer (some ⟨rb, 0, none⟩), .pointer (some ⟨bb, 0, none⟩), .int .u8 c, .int .i64 at_, .int .i64 nx] w (RetB B rb bb s last vn kv w (mnyF s c at_ nx { r with k := nx } b)) := by
  have c1 := h.c1
  have f1 := h.fz 1
  have H1 : Hid (Gs B rb bb s last vn kv b w { r with k := nx } vn (w.setCell ⟨rb, 1, none⟩ (.int .i64 nx))) := (Gs.start h hb).on (h.setK nx) (fr_set _ _ _ _)
  obtain ⟨R, hR⟩ : ∃ R, (mnyF s c at_ nx { r with k := nx } b) = R := ⟨_, rfl⟩
  have HR : Hid ((mnyF s c at_ nx { r with k := nx } b) = R) := hR
  rw [hR]
  have e94 : ((c : Int) == 94) = false := by simp; omega
  have e36 : ((c : Int) == 36) = false := by simp; omega
  have e46 : ((c : Int) == 46) = false := by simp; omega
  have e60 : ((c : Int) == 60) = false := by simp; omega
  have e62 : ((c : Int) == 62) = false := by simp; omega
  have e126 : ((c : Int) == 126) = false := by simp; omega
  have e91 : ((c : Int) == 91) = false := by simp; omega
  have e40 : ((c : Int) == 40) = false := by simp; omega
  clear h hb hR hc
  go_enter Tryz.func140, Tryz.ntmps140
  go_upto_region 1 with fail
  generalize w.setCell ⟨rb, 1, none⟩ (.int .i64 nx) = W1 at H1 ⊢
  clear c1 f1
  have HG : Hid _ := many_any H1.out.1 H1.out.2.1 hs hm (by omega) c at_ nx hx
  go_wp2_with fail
  refine Calls.mono HG.out ?_
  rintro e w9 ⟨rfl, vn9, kv9, q1, q2, q3⟩
  have H10 : Hid (Fq B rb s last (mnyF s c at_ nx { r with k := nx } b).1 vn9 w9 ∧ Bb B rb bb vn9 kv9 (mnyF s c at_ nx { r with k := nx } b).2 w9 ∧ AdvB rb bb vn kv w vn9 kv9 w9) := ⟨q1, q2, H1.out.2.2.trans q3⟩
  clear q1 q2 q3 HG
  go_wp2_with fail
  go_end0
  rw [← HR.out]
  exact ⟨rfl, vn9, kv9, H10.out⟩
theorem sign_any {BRS : FS → Nat × FS} (h : Fq B rb s last r vn w) (hb : Bb B rb bb vn kv b w) (hs : s.size ≤ 400) (hla : last.size ≤ 1000) (hl : b.ks.length < 40000) (hm : b.may = true → b.ks ≠ []) (c at_ nx : Nat) (hx : nx ≤ 900) (h1 : 1 ≤ nx) (hat : at_ ≤ 1000)
    (HBR : r.g < 9 → ∀ vn x, Fq B rb s last { r with k := nx, g := r.g + 1 } vn x → Calls Tryz.prog 78 #[.pointer (some ⟨rb, 0, none⟩), .bool true] x (FAdd B rb s last (BRS { r with k := nx, g := r.g + 1 }) vn none x)) :
    Calls Tryz.prog 140 #[.pointer (some ⟨rb, 0, none⟩), .pointer (some ⟨bb, 0, none⟩), .int .u8 c, .int .i64 at_, .int .i64 nx] w (RetB B rb bb s last vn kv w (sgnF s last BRS c at_ nx r b)) := by
  unfold sgnF
  simp only
  by_cases q1 : c = 94
  · subst q1; rw [if_pos rfl]; exact sign_hat h hb hs hl at_ nx hx
  rw [if_neg q1]
  by_cases q2 : c = 36
  · subst q2; rw [if_pos rfl]; exact sign_end h hb hs hl at_ nx hx
  rw [if_neg q2]
  by_cases q3 : c = 46
  · subst q3; rw [if_pos rfl]; exact sign_dot h hb hs hl at_ nx hx
  rw [if_neg q3]
  by_cases q4 : c = 60
  · subst q4; rw [if_pos rfl]; exact sign_bow h hb hs hl at_ nx hx
  rw [if_neg q4]
  by_cases q5 : c = 62
  · subst q5; rw [if_pos rfl]; exact sign_eow h hb hs hl at_ nx hx
  rw [if_neg q5]
  by_cases q6 : c = 126
  · subst q6; rw [if_pos rfl]; exact sign_til h hb hs hl at_ nx hx hla
  rw [if_neg q6]
  by_cases q7 : c = 91
  · subst q7; rw [if_pos rfl]; exact sign_coll h hb hs hl at_ nx hx h1 hat
  rw [if_neg q7]
  by_cases q8 : c = 40
  · subst q8; rw [if_pos rfl]; exact sign_open h hb hs hl at_ nx hx HBR
  rw [if_neg q8]
  exact sign_mny ⟨q1, q2, q3, q4, q5, q6, q7, q8⟩ h hb hs hl at_ nx hx hm
end
end Go.Proofs.YtalmajiflmejcaaGreat
/- The document's reader: a branch under way. -/
namespace Go.Proofs.YtalmajiflmejcaaGreat
open Go.ChangeShapes Go.WideShapes Go.ChangeAt Go.RowKit
set_option linter.unusedVariables false
set_option linter.unusedSimpArgs false
def NdOk (t : Tk) : Prop := t.nd.kids = [] ∧ t.nd.n < 10
theorem slC_nd (md cs nx c z : Nat) : NdOk (slC md cs nx c z).1 := by
  have hz : (0 : Nat) < 10 := by decide
  unfold slC
  by_cases h0 : memB modS c = true
  · rw [if_pos h0]; exact ⟨rfl, hz⟩
  rw [if_neg h0]
  by_cases h1 : c = 99
  · rw [if_pos h1]; exact ⟨rfl, hz⟩
  rw [if_neg h1]
  by_cases h2 : c = 67
  · rw [if_pos h2]; exact ⟨rfl, hz⟩
  rw [if_neg h2]
  by_cases h3 : memB sgnS c = true
  · rw [if_pos h3]
    by_cases q : memB (plainS md) c = true
    · rw [if_pos q]; exact ⟨rfl, hz⟩
    · rw [if_neg q]; exact ⟨rfl, hz⟩
  rw [if_neg h3]
  by_cases h4 : 49 ≤ c ∧ c ≤ 57
  · rw [if_pos h4]; exact ⟨rfl, by show c - 48 < 10; omega⟩
  rw [if_neg h4]
  by_cases h5 : knB (smI c) = true
  · rw [if_pos h5]; exact ⟨rfl, hz⟩
  rw [if_neg h5]
  by_cases h6 : (letrF c).2 = true
  · rw [if_pos h6]; exact ⟨rfl, hz⟩
  rw [if_neg h6]
  by_cases h7 : c = 110
  · rw [if_pos h7]; exact ⟨rfl, hz⟩
  rw [if_neg h7]
  by_cases h8 : c = 122 ∧ z = 115
  · rw [if_pos h8]; exact ⟨rfl, hz⟩
  rw [if_neg h8]
  by_cases h9 : c = 122 ∧ z = 101
  · rw [if_pos h9]; exact ⟨rfl, hz⟩
  rw [if_neg h9]
  by_cases h10 : isB 119 c = true ∧ c ≠ 95
  · rw [if_pos h10]; exact ⟨rfl, hz⟩
  rw [if_neg h10]
  exact ⟨rfl, hz⟩
theorem tkF_nd (s : ByteArray) (md cs k : Nat) : NdOk (tkF s md cs k).1 := by
  have hz : (0 : Nat) < 10 := by decide
  unfold tkF slashF
  split
  · split
    · exact ⟨rfl, hz⟩
    · exact slC_nd _ _ _ _ _
  · split <;> exact ⟨rfl, hz⟩
/-- The error, out of memory. -/
def errAt (rb : Nat) (w : World) : Nat := match w.cell? ⟨rb, 17, none⟩ with | some (.int _ n) => n.toNat | _ => 0
/-- A branch under way: the reader; the branch's box and its pieces are new since w. -/
structure Bw (B rb bb : Nat) (s last : ByteArray) (vn : Qv) (w : World) (r' : FS) (vn' : Qv) (kv' : Value) (b' : Bs) (x : World) : Prop where
  rr : Fq B rb s last r' vn' x
  br : Bb B rb bb vn' kv' b' x
  ad : Adv rb vn w vn' x
  nb : w.heap.size ≤ bb
  nk : ∀ j, kv'.ownBlock = some j → w.heap.size ≤ j
section
variable {B rb bb : Nat} {s last : ByteArray} {r r' r2 : FS} {vn vn1 vn2 : Qv} {kv kv1 kv2 : Value} {b b1 b2 : Bs} {w w1 w2 x y : World}
theorem Fq.errAt (h : Fq B rb s last r vn w) : errAt rb w = r.err := by unfold Go.Proofs.YtalmajiflmejcaaGreat.errAt; rw [h.c17]; rfl
theorem Bw.start (h : Fq B rb s last r vn w) : Bw B rb w.heap.size s last vn w r vn (.slice none 0 0) ⟨[], false⟩ (w.alloc (.cells #[.slice none 0 0, .bool false] 221)) := by
  have hlr := h.lt
  refine ⟨h.kp (kp_alloc _ _), ⟨h.hB, Lc.new w [.slice none 0 0, .bool false] _, leaf_row _ _, fun j hj => (by cases hj), ⟨⟨by omega, fun q => by have := (h.own _ q).2; omega⟩, fun q => by have := h.kbl _ q; omega⟩, fun q => (by cases q)⟩, Adv.kp vn rb (kp_alloc _ _), Nat.le_refl _, fun j hj => (by cases hj)⟩
theorem Bw.step (h : Bw B rb bb s last vn w r' vn1 kv1 b1 x) (hf : Fq B rb s last r2 vn2 y) (hb : Bb B rb bb vn2 kv2 b2 y) (a : AdvB rb bb vn1 kv1 x vn2 kv2 y) : Bw B rb bb s last vn w r2 vn2 kv2 b2 y := by
  refine ⟨hf, hb, ⟨h.ad.fr.trans' a.fr fun k hk z => ?_, ?_, fun j hj z => h.ad.kbs j hj (a.kbs j (Nat.lt_of_lt_of_le hj h.ad.fr.size) z)⟩, h.nb, fun j hj => ?_⟩
  · rcases z with (z | z) | z | z
    · exact .inl z
    · rcases h.ad.own with e | e
      · exact .inr (by rw [← e]; exact z)
      · exact absurd (e k z) (by omega)
    · have := h.nb; omega
    · have := h.nk k z; omega
  · rcases a.own with e | e
    · rw [e]; exact h.ad.own
    · exact .inr fun j hj => Nat.le_trans h.ad.fr.size (e j hj)
  · rcases a.lin with e | e
    · exact h.nk j (by rw [← e]; exact hj)
    · exact Nat.le_trans h.ad.fr.size (e j hj)
theorem Bw.adv (h : Bw B rb bb s last vn w r' vn1 kv1 b1 x) (hf : Fq B rb s last r2 vn2 y) (a : Adv rb vn1 x vn2 y) : Bw B rb bb s last vn w r2 vn2 kv1 b1 y := h.step hf (h.br.adv a) (AdvB.of a bb kv1)
theorem Bw.on (h : Bw B rb bb s last vn w r' vn1 kv1 b1 x) (hf : Fq B rb s last r2 vn1 y) (f : Fr (On rb) x y) : Bw B rb bb s last vn w r2 vn1 kv1 b1 y := h.adv hf (Adv.on vn1 f)
theorem Bw.kp (h : Bw B rb bb s last vn w r' vn1 kv1 b1 x) (k : Kp x y) : Bw B rb bb s last vn w r' vn1 kv1 b1 y := h.adv (h.rr.kp k) (Adv.kp vn1 rb k)
/-- A box that is new has turned. -/
theorem Bw.new (h : Bw B rb bb s last vn w r' vn1 kv1 b1 x) {m : Nat} (f : Fr (On m) x y) (hm : m ≠ rb ∧ m ≠ bb ∧ w.heap.size ≤ m ∧ vn1.ownBlock ≠ some m ∧ ¬ vn1.kb m ∧ kv1.ownBlock ≠ some m) : Bw B rb bb s last vn w r' vn1 kv1 b1 y := by
  refine ⟨h.rr.off (P := On m) (fun j hj => by unfold On at hj; subst hj; exact ⟨⟨hm.1, hm.2.2.2.1⟩, hm.2.2.2.2.1⟩) f, ⟨h.br.ge, h.br.box.fr f (by unfold On; exact Ne.symm hm.2.1), ?_, h.br.off, h.br.bo, h.br.ob⟩, ⟨h.ad.fr.trans' f fun j hj q => by unfold On at q; omega, h.ad.own, h.ad.kbs⟩, h.nb, h.nk⟩
  have hr := h.br.row
  refine ⟨hr.1, ?_⟩
  rcases hr.2 with q | ⟨c, cap, cur, e, hc, hg, rest⟩
  · exact .inl q
  · refine .inr ⟨c, cap, cur, e, hc, ?_, rest⟩
    rw [f.block c (Array.getElem?_eq_some_iff.1 hg).1 (fun z => hm.2.2.2.2.2 (by unfold On at z; rw [e, ← z]; rfl))]; exact hg
/-- What is new is nobody's. -/
theorem Bw.fresh (h : Bw B rb bb s last vn w r' vn1 kv1 b1 x) : x.heap.size ≠ rb ∧ x.heap.size ≠ bb ∧ w.heap.size ≤ x.heap.size ∧ vn1.ownBlock ≠ some x.heap.size ∧ ¬ vn1.kb x.heap.size ∧ kv1.ownBlock ≠ some x.heap.size :=
  ⟨Nat.ne_of_gt h.rr.lt, Nat.ne_of_gt h.br.lt, h.ad.fr.size, fun q => by have := (h.rr.own _ q).2; omega, fun q => by have := h.rr.kbl _ q; omega, fun q => by have := (h.br.row.lt _ q).2; omega⟩
/-- The pieces as one node: the branch is over. -/
theorem Bw.fin (h : Bw B rb bb s last vn w r' vn1 kv1 b1 x) (hl : b1.ks.length < 100000) : Calls Tryz.prog 114 #[.pointer (some ⟨rb, 0, none⟩), .int .u8 5, kv1] x (FAdd B rb s last (rowF 5 b1.ks r') vn none w) := by
  refine (frow_any h.rr 5 h.br.row h.br.off.k hl).mono ?_
  rintro e w' ⟨rfl, vn', q1, q2⟩
  refine ⟨rfl, vn', q1, ⟨h.ad.fr.trans' q2.fr fun k hk z => ?_, ?_, fun j hj z => ?_⟩⟩
  · rcases z with z | z
    · exact .inl z
    · rcases h.ad.own with e | e
      · exact .inr (by rw [← e]; exact z)
      · exact absurd (e k z) (by omega)
  · rcases q2.own with e | e
    · rw [e]; exact h.ad.own
    · exact .inr fun j hj => Nat.le_trans h.ad.fr.size (e j hj)
  · rcases q2.kbs j (Nat.lt_of_lt_of_le hj h.ad.fr.size) z with z | z
    · exact h.ad.kbs j hj z
    · exact absurd (h.nk j z) (by omega)
end
end Go.Proofs.YtalmajiflmejcaaGreat
/- Steps of a region that draws its order, walked by hand. -/
namespace Go.Proofs.YtalmajiflmejcaaGreat
open Go.ChangeShapes Go.WideShapes Go.ChangeAt Go.RowKit
set_option linter.unusedVariables false
set_option linter.unusedSimpArgs false
theorem takeAt {P : Program} {ops : Array Oper} {Q : Exit → Act → World → Prop} {md : Region.Mode} {S : World → Prop} (i : Nat) (dst : Option Tmp) (v : Value) {oi : Oper} {fuel : Nat} {listed : Array Bool} {a : Act} {w : World} (hi : ops[i]? = some oi) (hd : oi.dst = dst)
    (hs : Region.noSelect ops = true) (hf : Region.free md ops listed i = true) (hr : (Region.ready md ops listed).contains i = true)
    (hQ : ∀ c a w, Q (.panic c) (a.put dst v) w → Q (.panic c) a w) (hy : YieldsIf P ops S oi v a) (hS : S w)
    (h : wpAnyH P md ops Q S fuel (listed.setIfInBounds i true) (a.put dst v) w) : wpAnyH P md ops Q S (fuel + 1) listed a w := by
  subst hd
  exact wpAnyH_take hi hs hf hr hQ hy hS h
theorem run_callGo {P : Program} {f : FuncId} {fn : Func} (args : Array Value) (w : World) (hf : P.funcs[f]? = some fn) (hn : (fn.name == "runtime.NumGoroutine") = false) (hb : fn.body.isNone = false) : (callFunc f args).run P w = .ok (.enter f args) w := by
  have h1 : ¬ fn.name = "runtime.NumGoroutine" := by simpa using hn
  have h2 : ¬ fn.body = none := by intro e; rw [e] at hb; cases hb
  simp [callFunc, hf, h1, h2]
/-- The call of a Go function comes up alone. -/
theorem callAt {P : Program} {ops : Array Oper} {Q : Exit → Act → World → Prop} {md : Region.Mode} {S : World → Prop} (i : Nat) (d : Tmp) (f : FuncId) {o : Oper} {fn : Func} {fuel : Nat} {listed : Array Bool} {a : Act} {w : World} {xs : Array Operand} {ats : Array TypeId} {vals : Array Value}
    (hr : Region.ready md ops listed = [i]) (ho : ops[i]? = some o) (hop : o.op = .call { callee := .value (.func f), args := xs, argTypes := ats }) (hd : o.dst = some d) (hg : o.guard = none) (hv : xs.map a.eval = vals)
    (hf : P.funcs[f]? = some fn) (hn : (fn.name == "runtime.NumGoroutine") = false) (hb : fn.body.isNone = false)
    (h : Calls P f vals w fun e w' => ∃ v, e = .returned v ∧ S w' ∧ (S w' → wpAnyH P md ops Q S fuel (listed.setIfInBounds i true) (a.put (some d) v) w')) : wpAnyH P md ops Q S (fuel + 1) listed a w := by
  refine wpAnyH_ready hr (by simp) ?_
  refine AllReadyH.cons ho (fun K hK => ?_) AllReadyH.nil
  have hw : Region.wanted o (yielded ops a.tmps) = true := by simp [Region.wanted, hg]
  rw [if_pos hw]
  obtain ⟨dst, op, type, pos, after, guard⟩ := o
  simp only at hop hd hg
  subst hop; subst hd; subst hg
  unfold Oper.wp
  rw [execOp_call_go, show (#[] ++ xs.map a.eval ++ #[]) = vals by simp [hv], run_callGo vals w hf hn hb]
  simp only [Oper.upon]
  refine Calls.mono h ?_
  rintro e w' ⟨v, rfl, hS, hW⟩
  exact hK.out _ _ hS hW
theorem callAtG {P : Program} {ops : Array Oper} {Q : Exit → Act → World → Prop} {md : Region.Mode} {S : World → Prop} (i : Nat) (d : Tmp) (f : FuncId) {o : Oper} {fn : Func} {fuel : Nat} {listed : Array Bool} {a : Act} {w : World} {xs : Array Operand} {ats : Array TypeId} {vals : Array Value}
    (hr : Region.ready md ops listed = [i]) (ho : ops[i]? = some o) (hop : o.op = .call { callee := .value (.func f), args := xs, argTypes := ats }) (hd : o.dst = some d) (hw : Region.wanted o (yielded ops a.tmps) = true) (hv : xs.map a.eval = vals)
    (hf : P.funcs[f]? = some fn) (hn : (fn.name == "runtime.NumGoroutine") = false) (hb : fn.body.isNone = false)
    (h : Calls P f vals w fun e w' => ∃ v, e = .returned v ∧ S w' ∧ (S w' → wpAnyH P md ops Q S fuel (listed.setIfInBounds i true) (a.put (some d) v) w')) : wpAnyH P md ops Q S (fuel + 1) listed a w := by
  refine wpAnyH_ready hr (by simp) ?_
  refine AllReadyH.cons ho (fun K hK => ?_) AllReadyH.nil
  rw [if_pos hw]
  obtain ⟨dst, op, type, pos, after, guard⟩ := o
  simp only at hop hd
  subst hop; subst hd
  unfold Oper.wp
  rw [execOp_call_go, show (#[] ++ xs.map a.eval ++ #[]) = vals by simp [hv], run_callGo vals w hf hn hb]
  simp only [Oper.upon]
  refine Calls.mono h ?_
  rintro e w' ⟨v, rfl, hS, hW⟩
  exact hK.out _ _ hS hW
end Go.Proofs.YtalmajiflmejcaaGreat
