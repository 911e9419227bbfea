/- The call join. -/
import Derived.Test.YtfnhbjokokjhfabSplit1
namespace Go.Proofs.Ytfnhbjokokjhfab
open Go.ChangeShapes Go.WideShapes Go.ChangeAt Go.RowKit

structure JoinTo (s : St) (at_ k left right : Nat) (na nl nr : Node) (s' : St) : Prop where
  gone : s'.gone = s.gone ++ [right]
  top : s'.top = s.top
  len : s'.ns.length = s.ns.length
  rest : ∀ j, j ≠ at_ → j ≠ left → j ≠ right → s'.ns[j]? = s.ns[j]?
  R : s'.ns[right]? = some nilNode
  L : ∃ v u, s'.ns[left]? = some ⟨v, u, nl.lines ++ nr.lines, nl.kids ++ nr.kids, (nl.lines ++ nr.lines).length + ((nl.kids ++ nr.kids).map s.cnt).sum, sizes (nl.lines ++ nr.lines) + ((nl.kids ++ nr.kids).map s.byt).sum⟩ ∧ (nl.lines ++ nr.lines = [] → v = .slice none 0 0) ∧ (nl.kids ++ nr.kids = [] → u = .slice none 0 0)
  A : ∃ u, u.ownBlock = na.vk.ownBlock ∧ s'.ns[at_]? = some { na with vk := u, kids := na.kids.take (k + 1) ++ na.kids.drop (k + 2) }
section
variable {o : Own} {w : World} {t : Nat} {s : St} {vn vg : Value}

set_option maxHeartbeats 4000000 in
theorem join_leaf (h : Rep o w t s vn vg) {at_ k left right : Nat} {na nl nr : Node}
    (hat : s.ns[at_]? = some na) (hk : na.kids[k]? = some left) (hk' : na.kids[k + 1]? = some right) (hl : s.ns[left]? = some nl) (hr : s.ns[right]? = some nr) (hla : left ≠ at_) (hra : right ≠ at_) (hrl : right ≠ left)
    (hc1 : nl.vk = .slice none 0 0) (hc2 : nr.vk = .slice none 0 0) (hkl0 : nl.kids = []) (hkr0 : nr.kids = []) (hrp : 0 < nr.lines.length)
    (hb2 : sizes (nl.lines ++ nr.lines) < 2 ^ 62) (hb3 : nl.lines.length < 100000000 ∧ nr.lines.length < 100000000 ∧ na.kids.length < 100000000 ∧ s.gone.length < 100000000) :
    Calls Try.prog 49 #[.pointer (some ⟨t, 0, none⟩), .int .i64 at_, .int .i64 k] w fun e w' => e = .returned (.tuple #[]) ∧ ∃ s', JoinTo s at_ k left right na nl nr s' ∧ Did o w t s' w' := by
  have lA : at_ < s.ns.length := (List.getElem?_eq_some_iff.1 hat).1
  have lL : left < s.ns.length := (List.getElem?_eq_some_iff.1 hl).1
  have lR : right < s.ns.length := (List.getElem?_eq_some_iff.1 hr).1
  obtain ⟨b, cap, hvn, hob, n1, n2, hcc⟩ := h.nodeCells (by omega)
  clear hcc
  obtain ⟨a0, cl0, cl1, cl2, cl3, cf⟩ := h.cellsAt hl hvn
  obtain ⟨zz1, cr0, cr1, cr2, cr3, zz2⟩ := h.cellsAt hr hvn
  obtain ⟨zz3, ca0, ca1, ca2, ca3, zz4⟩ := h.cellsAt hat hvn
  clear zz1 zz2 zz3 zz4
  have hkl := (List.getElem?_eq_some_iff.1 hk).1
  have hkl1 := (List.getElem?_eq_some_iff.1 hk').1
  obtain ⟨kb, kc, hvk, hko, hk1, hk2, hkc⟩ := kidsCells h hat (by simp) (by omega)
  have kc0 := (hkc k left hk).1
  have kc1 := (hkc (k + 1) right hk').1
  obtain ⟨la, lc, hvl, l1, l2⟩ := (h.lines left nl hl (by simp)).form
  obtain ⟨rb, rc, hvr, hro, r1, r2, hrc⟩ := linesCells h hr (by simp) hrp
  rw [hvl] at cl0
  rw [hvr] at cr0
  rw [hvk] at ca1
  rw [hc1] at cl1
  rw [hc2] at cr1
  rw [hvn] at a0
  have H0 : Hid (Rep o w t s vn vg) := h
  obtain ⟨N, hN⟩ : ∃ N, s.ns.length = N := ⟨_, rfl⟩
  have HN : Hid (s.ns.length = N) := hN
  have GV : Hid (vn = .slice (some ⟨b, 0, none⟩) s.ns.length cap) := hvn
  have GK : Hid (na.vk = .slice (some ⟨kb, 0, none⟩) na.kids.length kc) := hvk
  have GL : Hid (nl.vl = .slice la nl.lines.length lc) := hvl
  have GR : Hid (nr.vl = .slice (some ⟨rb, 0, none⟩) nr.lines.length rc) := hvr
  have GS : Hid (s.ns[at_]? = some na ∧ s.ns[left]? = some nl ∧ s.ns[right]? = some nr ∧ na.kids[k]? = some left ∧ na.kids[k + 1]? = some right) := ⟨hat, hl, hr, hk, hk'⟩
  have GC : Hid (nl.vk = .slice none 0 0 ∧ nr.vk = .slice none 0 0 ∧ nl.kids = [] ∧ nr.kids = []) := ⟨hc1, hc2, hkl0, hkr0⟩
  have GN : Hid (∀ j u, (strs nr.lines)[j]? = some u → w.cell? ((⟨rb, 0, none⟩ : Addr).add j) = some u) := by
    intro j u hj
    rw [Addr.add_lit, Nat.zero_add]
    simp only [strs, List.getElem?_map, Option.map_eq_some_iff] at hj
    obtain ⟨y, hy, rfl⟩ := hj
    exact (hrc j y hy).1
  have GO : Hid (∀ u ∈ strs nr.lines, u.oneCell' = true) := strs_one _
  have GB : Hid (sizes (nl.lines ++ nr.lines) < 2 ^ 62) := hb2
  rw [hN] at a0 n1 lA lL lR
  unfold maxLen at n2 hk2 l2 r2
  clear h hat hk hk' hl hr hc1 hc2 hkl0 hkr0 hvn hvk hvl hvr hkc hrc hN hb2
  obtain ⟨i9, hi9, z0, z1, z2⟩ := info_parts info9
  go_enter Try.func49, Try.ntmps49
  go_wp2_with fail
  go_quiet (fail)
  generalize nq = q1
  go_wp2_with fail
  go_quiet (fail)
  go_wp2_with fail
  obtain ⟨W1, hW1⟩ : ∃ W1, (w.drewN q1).drewN nq = W1 := ⟨_, rfl⟩
  rw [hW1]
  have HR1 : Hid (Rep o W1 t s vn vg ∧ Keeps o o w W1) := by rw [← hW1]; exact ⟨(H0.out.drewN q1).drewN nq, ((Keeps.refl o w).drewN' q1).drewN' nq⟩
  have b1 : W1.cell? ⟨b, left * 4, none⟩ = some (.slice la nl.lines.length lc) := by rw [← hW1]; simpa using cl0
  have b2 : W1.cell? ⟨b, right * 4, none⟩ = some (.slice (some ⟨rb, 0, none⟩) nr.lines.length rc) := by rw [← hW1]; simpa using cr0
  have b3 : ∀ j, W1.frozen? ⟨b, j, none⟩ = false := fun j => by rw [← hW1]; simpa using cf j
  have GN1 : Hid (∀ j u, (strs nr.lines)[j]? = some u → W1.drew.cell? ((⟨rb, 0, none⟩ : Addr).add j) = some u) := by
    intro j u hj; have := GN.out j u hj; rw [← hW1]; simpa using this
  have GW1 : Hid (W1.drew.ownsRow 0 9 1 (.slice la nl.lines.length lc) nl.lines.length (strs nl.lines)) := by
    have := (HR1.out.1.drew.lines left nl GS.out.2.1 (by simp)).1; rw [GL.out] at this; exact this
  have GA1 : Hid (∀ (g cp : Nat) (w1 : World), w1.ownsRow 0 9 1 (.slice (some ⟨g, 0, none⟩) (nl.lines.length + nr.lines.length) cp) (nl.lines.length + nr.lines.length) (strs nl.lines ++ strs nr.lines) → W1.drew.grownBy w1 (Value.slice la nl.lines.length lc).ownBlock →
      ((Value.slice la nl.lines.length lc).ownBlock = some g ∨ g = W1.heap.size) → g < w1.heap.size → (w1.cell? ⟨b, left * 4, none⟩ = some (.slice la nl.lines.length lc) ∧ w1.frozen? ⟨b, left * 4, none⟩ = false) ∧ ∃ o2, Rep o2 (w1.setCell ⟨b, left * 4, none⟩ (.slice (some ⟨g, 0, none⟩) (nl.lines.length + nr.lines.length) cp)) t (s.put left { nl with vl := .slice (some ⟨g, 0, none⟩) (nl.lines.length + nr.lines.length) cp, lines := nl.lines ++ nr.lines }) vn vg ∧
        Keeps o o2 w (w1.setCell ⟨b, left * 4, none⟩ (.slice (some ⟨g, 0, none⟩) (nl.lines.length + nr.lines.length) cp))) := by
    intro g cp w1 hown hgrow hat hlt
    have hd := HR1.out.1.drew
    have hrow := hd.lines left nl GS.out.2.1 (by simp)
    rw [GL.out] at hrow
    obtain ⟨o2, hr2, kb2⟩ := hrow.grown hd.lt hown hgrow hat hlt
    have hobN : o b = .nodes := hd.nodes.2 b (by rw [GV.out]; rfl)
    have hbl : b < W1.heap.size := hd.lt b (by rw [hobN]; simp)
    have heb : w1.heap[b]? = W1.heap[b]? := kb2.block b hbl (by rw [hobN]; simp)
    refine ⟨⟨by simp only [World.cell?, heb]; exact b1, by have := b3 (left * 4); simp only [World.frozen?, heb] at this ⊢; exact this⟩, o2, ?_, ?_⟩
    · have x1 := (RepX.open_ hd (.lines left)).kb kb2 (by simp) (by simp) (by simp)
      exact x1.storeL (.inl rfl) GS.out.2.1 GV.out (by simpa [strs] using hr2)
    · exact ((HR1.out.2.drew).trans (kb2.keeps (by simp))).setCell (by rw [kb2.keep b hbl (by rw [hobN]; simp), hobN]; simp)
  have HW1 : Hid ((w.drewN q1).drewN nq = W1) := hW1
  have gl0 : (strs nr.lines).length = nr.lines.length * 1 := by simp [strs]
  have gl : Hid ((strs nr.lines).length = nr.lines.length * 1) := gl0
  clear gl0
  clear hW1
  go_region_law ((refine step_append_lies _ (by rfl) (.tmp 49) (.tmp 53) 22 (by rfl) 0 9 i9 _ 1 16 Try.underlying22 hi9 z0 z1 z2 rfl (by decide) (.slice la nl.lines.length lc) nl.lines.length (strs nl.lines) (by rfl) GW1.out ⟨rb, 0, none⟩ nr.lines.length rc (strs nr.lines) (by rfl) gl.out GN1.out GO.out hrp (by unfold maxLen; omega) (by omega) (Nat.zero_le _) W1.heap.size (by simp) ?_; intro g cp w1 hown hgrow hat hlt; obtain ⟨⟨q0, qf⟩, HF⟩ := GA1.out g cp w1 hown hgrow hat hlt; clear hown hgrow hat))
  all_goals
    obtain ⟨o2, h2, k2⟩ := HF
    obtain ⟨W2, hW2⟩ : ∃ W2, w1.setCell ⟨b, left * 4, none⟩ (.slice (some ⟨g, 0, none⟩) (nl.lines.length + nr.lines.length) cp) = W2 := ⟨_, rfl⟩
    rw [hW2] at h2 k2
    go_wp2_with fail
    rw [hW2]
    have gL : (s.put left { nl with vl := .slice (some ⟨g, 0, none⟩) (nl.lines.length + nr.lines.length) cp, lines := nl.lines ++ nr.lines }).ns[left]? = some { nl with vl := .slice (some ⟨g, 0, none⟩) (nl.lines.length + nr.lines.length) cp, lines := nl.lines ++ nr.lines } := put_same _ (by rw [HN.out]; exact lL)
    have gR : (s.put left { nl with vl := .slice (some ⟨g, 0, none⟩) (nl.lines.length + nr.lines.length) cp, lines := nl.lines ++ nr.lines }).ns[right]? = some nr := by rw [put_ne _ hrl]; exact GS.out.2.2.1
    obtain ⟨y0, y1, y2, y3, y4, yf⟩ := h2.cellsAt gL GV.out
    obtain ⟨u0, u1, u2, u3, u4, uf⟩ := h2.cellsAt gR GV.out
    have d1 : W2.cell? ⟨b, left * 4 + 1, none⟩ = some (.slice none 0 0) := by rw [y2]; show some nl.vk = _; rw [GC.out.1]
    have d2 : W2.cell? ⟨b, right * 4 + 1, none⟩ = some (.slice none 0 0) := by rw [u2, GC.out.2.1]
    have HR2 : Hid (Rep o2 W2 t (s.put left { nl with vl := .slice (some ⟨g, 0, none⟩) (nl.lines.length + nr.lines.length) cp, lines := nl.lines ++ nr.lines }) vn vg ∧ Keeps o o2 w W2) := ⟨h2, k2⟩
    clear y0 y1 y2 y3 y4 u0 u1 u2 u3 u4 uf h2 k2 gL gR hW2 b1 b2 b3 a0 cl0 cl1 cl2 cl3 cf cr0 cr1 cr2 cr3 ca0 ca1 ca2 ca3 q0 qf
    go_region
    all_goals go_wp2_with fail
    obtain ⟨W3, hW3⟩ : ∃ W3, (W2.setCell ⟨b, left * 4 + 1, none⟩ (.slice none 0 0)).drew = W3 := ⟨_, rfl⟩
    rw [hW3]
    have lJ : (s.put left ⟨.slice (some ⟨g, 0, none⟩) (nl.lines.length + nr.lines.length) cp, .slice none 0 0, nl.lines ++ nr.lines, [], nl.count, nl.bytes⟩).ns[left]? = some ⟨.slice (some ⟨g, 0, none⟩) (nl.lines.length + nr.lines.length) cp, .slice none 0 0, nl.lines ++ nr.lines, [], nl.count, nl.bytes⟩ := put_same _ (by rw [HN.out]; exact lL)
    have lT : (s.put left ⟨.slice (some ⟨g, 0, none⟩) (nl.lines.length + nr.lines.length) cp, .slice none 0 0, nl.lines ++ nr.lines, [], nl.count, nl.bytes⟩).ns[at_]? = some na := by rw [put_ne _ (Ne.symm hla)]; exact GS.out.1
    have lQ : (s.put left ⟨.slice (some ⟨g, 0, none⟩) (nl.lines.length + nr.lines.length) cp, .slice none 0 0, nl.lines ++ nr.lines, [], nl.count, nl.bytes⟩).ns[right]? = some nr := by rw [put_ne _ hrl]; exact GS.out.2.2.1
    have HR3 : Hid (Rep o2 W3 t (s.put left ⟨.slice (some ⟨g, 0, none⟩) (nl.lines.length + nr.lines.length) cp, .slice none 0 0, nl.lines ++ nr.lines, [], nl.count, nl.bytes⟩) vn vg ∧ Keeps o o2 w W3) := by
      have x := HR2.out.1.storeK (v := .slice none 0 0) (l := []) (.inr rfl) (put_same _ (by rw [HN.out]; exact lL)) GV.out rnil
      rw [put_put] at x
      rw [← hW3]
      exact ⟨x.drew, (HR2.out.2.setCell (HR2.out.1.ob GV.out)).drew⟩
    have HL3 : Hid ((s.put left ⟨.slice (some ⟨g, 0, none⟩) (nl.lines.length + nr.lines.length) cp, .slice none 0 0, nl.lines ++ nr.lines, [], nl.count, nl.bytes⟩).ns[left]? = some ⟨.slice (some ⟨g, 0, none⟩) (nl.lines.length + nr.lines.length) cp, .slice none 0 0, nl.lines ++ nr.lines, [], nl.count, nl.bytes⟩ ∧ (s.put left ⟨.slice (some ⟨g, 0, none⟩) (nl.lines.length + nr.lines.length) cp, .slice none 0 0, nl.lines ++ nr.lines, [], nl.count, nl.bytes⟩).ns[at_]? = some na ∧ (s.put left ⟨.slice (some ⟨g, 0, none⟩) (nl.lines.length + nr.lines.length) cp, .slice none 0 0, nl.lines ++ nr.lines, [], nl.count, nl.bytes⟩).ns[right]? = some nr) := ⟨lJ, lT, lQ⟩
    clear hW3 lJ lT lQ HR2 d1 d2 yf
    obtain ⟨a0, ca0, ca1, ca2, ca3, cf⟩ := HR3.out.1.cellsAt HL3.out.2.1 GV.out
    rw [GV.out, HN.out] at a0
    rw [GK.out] at ca1
    clear ca0 ca2 ca3
    have hw1 : IntKind.i64.wrap ((k : Int) + 1) = (k : Int) + 1 := by rw [IntKind.wrap_i64]; omega
    have hw2 : IntKind.i64.wrap ((k : Int) + 2) = (k : Int) + 2 := by rw [IntKind.wrap_i64]; omega
    have hbN : o2 b = .nodes := HR3.out.1.nodes.2 b (by rw [GV.out]; rfl)
    have htb : b ≠ t := by intro e; rw [e, HR3.out.1.ot] at hbN; cases hbN
    have hbl : b < W3.heap.size := HR3.out.1.lt b (by rw [hbN]; simp)
    have HC : Hid (∀ W : World, W.heap = W3.heap → W.os = W3.os → W.tape = W3.tape → W.output = W3.output → Calls Try.prog 54 #[.slice (some ⟨kb, 0, none⟩) na.kids.length kc, .int .i64 ((k : Int) + 1), .int .i64 ((k : Int) + 2)] W fun e w' =>
        ∃ x6 y6, e = .returned (.slice x6 (na.kids.length - 1) y6) ∧ (Value.slice x6 (na.kids.length - 1) y6).ownBlock = na.vk.ownBlock ∧ (∀ j, w'.cell? ⟨b, j, none⟩ = W3.cell? ⟨b, j, none⟩ ∧ w'.frozen? ⟨b, j, none⟩ = false ∧ w'.cell? ⟨t, j, none⟩ = W3.cell? ⟨t, j, none⟩) ∧
          Rep o2 (w'.setCell ⟨b, at_ * 4 + 1, none⟩ (.slice x6 (na.kids.length - 1) y6)) t ((s.put left ⟨.slice (some ⟨g, 0, none⟩) (nl.lines.length + nr.lines.length) cp, .slice none 0 0, nl.lines ++ nr.lines, [], nl.count, nl.bytes⟩).put at_ { na with vk := .slice x6 (na.kids.length - 1) y6, kids := na.kids.take (k + 1) ++ na.kids.drop (k + 2) }) vn vg ∧
          Keeps o o2 w (w'.setCell ⟨b, at_ * 4 + 1, none⟩ (.slice x6 (na.kids.length - 1) y6))) := by
      intro W e1 e2 e3 e4
      have hr0 : Rep o2 W t (s.put left ⟨.slice (some ⟨g, 0, none⟩) (nl.lines.length + nr.lines.length) cp, .slice none 0 0, nl.lines ++ nr.lines, [], nl.count, nl.bytes⟩) vn vg := HR3.out.1.heap e1
      have hk0 : Keeps o o2 w W := by
        have := HR3.out.2
        exact ⟨e2.trans this.os, e3.trans this.tape, e4.trans this.output, by rw [e1]; exact this.size, fun j hj hf => by rw [e1]; exact this.block j hj hf, this.own⟩
      have hrow := hr0.kids at_ na HL3.out.2.1 (by simp)
      rw [GK.out] at hrow
      have hc := delI_any (i := k + 1) (j := k + 2) hrow hr0.lt (by simp) (by omega) (by omega)
      have ek : (((k + 1 : Nat)) : Int) = (k : Int) + 1 := by omega
      have ek2 : (((k + 2 : Nat)) : Int) = (k : Int) + 2 := by omega
      rw [ek, ek2] at hc
      refine hc.mono ?_
      rintro e w' ⟨v', rfl, hvb, hr6, kb6⟩
      have en : na.kids.length - (k + 2 - (k + 1)) = na.kids.length - 1 := by omega
      rw [en] at hr6
      obtain ⟨x6, y6, rfl, _, _⟩ := hr6.form
      have hb6 : w'.heap[b]? = W3.heap[b]? := by rw [kb6.block b (by rw [e1]; exact hbl) (by rw [hbN]; simp), e1]
      have ht6 : w'.heap[t]? = W3.heap[t]? := by rw [kb6.block t hr0.tlt (by rw [hr0.ot]; simp), e1]
      refine ⟨x6, y6, rfl, by rw [GK.out]; exact hvb, fun j => ⟨by simp [World.cell?, hb6], ?_, by simp [World.cell?, ht6]⟩, ?_⟩
      · have : w'.frozen? ⟨b, j, none⟩ = W3.frozen? ⟨b, j, none⟩ := by simp [World.frozen?, hb6]
        rw [this]; exact cf j
      · have x1 := (RepX.open_ hr0 (.kids at_)).kb kb6 (by simp) (by simp) (by simp)
        have hlen : (na.kids.take (k + 1) ++ na.kids.drop (k + 2)).length = na.kids.length - 1 := by simp; omega
        have x2 := x1.storeK (l := na.kids.take (k + 1) ++ na.kids.drop (k + 2)) (.inl rfl) HL3.out.2.1 GV.out (by rw [hlen]; exact hr6)
        exact ⟨x2, (hk0.trans (kb6.keeps (by simp))).setCell (x2.ob GV.out)⟩
    have FIN : Hid (∀ u v c d X, u.ownBlock = na.vk.ownBlock → X = .slice none 0 0 → JoinTo s at_ k left right na nl nr { ((((s.put left ⟨.slice (some ⟨g, 0, none⟩) (nl.lines.length + nr.lines.length) cp, .slice none 0 0, nl.lines ++ nr.lines, [], nl.count, nl.bytes⟩).put at_ { na with vk := u, kids := na.kids.take (k + 1) ++ na.kids.drop (k + 2) }).put right nilNode).put left ⟨v, X, nl.lines ++ nr.lines, [], c, d⟩) with gone := s.gone ++ [right] } ∨ ¬ (c = (nl.lines ++ nr.lines).length ∧ d = sizes (nl.lines ++ nr.lines))) := by
      intro u v c d X hu hX
      by_cases hcd : c = (nl.lines ++ nr.lines).length ∧ d = sizes (nl.lines ++ nr.lines)
      · left
        obtain ⟨rfl, rfl⟩ := hcd
        refine ⟨rfl, rfl, ?_, ?_, ?_, ⟨v, X, ?_, fun e => absurd (List.append_eq_nil_iff.1 e).2 (List.ne_nil_of_length_pos hrp), fun _ => hX⟩, ⟨u, hu, ?_⟩⟩
        · show (((((s.put left ⟨.slice (some ⟨g, 0, none⟩) (nl.lines.length + nr.lines.length) cp, .slice none 0 0, nl.lines ++ nr.lines, [], nl.count, nl.bytes⟩).put at_ { na with vk := u, kids := na.kids.take (k + 1) ++ na.kids.drop (k + 2) }).put right nilNode).put left _).ns.length) = _
          rw [put_len, put_len, put_len, put_len]
        · intro j h1 h2 h3
          show ((((s.put left ⟨.slice (some ⟨g, 0, none⟩) (nl.lines.length + nr.lines.length) cp, .slice none 0 0, nl.lines ++ nr.lines, [], nl.count, nl.bytes⟩).put at_ { na with vk := u, kids := na.kids.take (k + 1) ++ na.kids.drop (k + 2) }).put right nilNode).put left _).ns[j]? = _
          rw [put_ne _ h2, put_ne _ h3, put_ne _ h1, put_ne _ h2]
        · show ((((s.put left ⟨.slice (some ⟨g, 0, none⟩) (nl.lines.length + nr.lines.length) cp, .slice none 0 0, nl.lines ++ nr.lines, [], nl.count, nl.bytes⟩).put at_ { na with vk := u, kids := na.kids.take (k + 1) ++ na.kids.drop (k + 2) }).put right nilNode).put left _).ns[right]? = _
          rw [put_ne _ hrl]; exact put_same _ (by rw [put_len, put_len, HN.out]; exact lR)
        · show ((((s.put left ⟨.slice (some ⟨g, 0, none⟩) (nl.lines.length + nr.lines.length) cp, .slice none 0 0, nl.lines ++ nr.lines, [], nl.count, nl.bytes⟩).put at_ { na with vk := u, kids := na.kids.take (k + 1) ++ na.kids.drop (k + 2) }).put right nilNode).put left _).ns[left]? = _
          rw [put_same _ (by rw [put_len, put_len, put_len, HN.out]; exact lL), GC.out.2.2.1, GC.out.2.2.2]; simp
        · show ((((s.put left ⟨.slice (some ⟨g, 0, none⟩) (nl.lines.length + nr.lines.length) cp, .slice none 0 0, nl.lines ++ nr.lines, [], nl.count, nl.bytes⟩).put at_ { na with vk := u, kids := na.kids.take (k + 1) ++ na.kids.drop (k + 2) }).put right nilNode).put left _).ns[at_]? = _
          rw [put_ne _ (Ne.symm hla), put_ne _ (Ne.symm hra)]; exact put_same _ (by rw [put_len, HN.out]; exact lA)
      · exact .inr hcd
    have rule : ∀ w', Tk t (.slice (some ⟨b, 0, none⟩) N cap) w' → w'.cell? ⟨t, 0, none⟩ = some (.slice (some ⟨b, 0, none⟩) N cap) := fun _ h => h
    refine wp_region_noPanic ?_
    refine wp_region_held_drew (S := Tk t (.slice (some ⟨b, 0, none⟩) N cap)) (by kernel_rfl) (a0) (fun hHeld => ?_)
    refine takeAt 0 (some 69) ?_ rfl rfl (by kernel_rfl) (by kernel_rfl) (by kernel_rfl) (fun _ _ _ h => h) (Or.inl ⟨by rfl, ?_⟩) hHeld ?_
    rotate_left
    · intro w hSw
      go_simp <;> with_reducible rfl
    try simp only [Act.put, List.setIfInBounds_toArray, List.set_cons_zero, List.set_cons_succ]
    refine takeAt 1 (some 70) ?_ rfl rfl (by kernel_rfl) (by kernel_rfl) (by kernel_rfl) (fun _ _ _ h => h) (Or.inl ⟨by rfl, ?_⟩) hHeld ?_
    rotate_left
    · intro w hSw
      go_simp <;> with_reducible rfl
    try simp only [Act.put, List.setIfInBounds_toArray, List.set_cons_zero, List.set_cons_succ]
    refine takeAt 2 (some 71) ?_ rfl rfl (by kernel_rfl) (by kernel_rfl) (by kernel_rfl) (fun _ _ _ h => h) (Or.inl ⟨by rfl, ?_⟩) hHeld ?_
    rotate_left
    · intro w hSw
      go_simp <;> with_reducible rfl
    try simp only [Act.put, List.setIfInBounds_toArray, List.set_cons_zero, List.set_cons_succ]
    refine takeAt 3 (some 72) ?_ rfl rfl (by kernel_rfl) (by kernel_rfl) (by kernel_rfl) (fun _ _ _ h => h) (Or.inl ⟨by rfl, ?_⟩) hHeld ?_
    rotate_left
    · intro w hSw
      go_simp <;> with_reducible rfl
    try simp only [Act.put, List.setIfInBounds_toArray, List.set_cons_zero, List.set_cons_succ]
    refine takeAt 4 (some 73) ?_ rfl rfl (by kernel_rfl) (by kernel_rfl) (by kernel_rfl) (fun _ _ _ h => h) (Or.inl ⟨by rfl, ?_⟩) hHeld ?_
    rotate_left
    · intro w hSw
      go_simp <;> with_reducible rfl
    try simp only [Act.put, List.setIfInBounds_toArray, List.set_cons_zero, List.set_cons_succ]
    refine takeAt 5 (some 74) ?_ rfl rfl (by kernel_rfl) (by kernel_rfl) (by kernel_rfl) (fun _ _ _ h => h) (Or.inl ⟨by rfl, ?_⟩) hHeld ?_
    rotate_left
    · intro w hSw
      go_simp <;> with_reducible rfl
    try simp only [Act.put, List.setIfInBounds_toArray, List.set_cons_zero, List.set_cons_succ]
    refine takeAt 6 (some 75) ?_ rfl rfl (by kernel_rfl) (by kernel_rfl) (by kernel_rfl) (fun _ _ _ h => h) (Or.inl ⟨by rfl, ?_⟩) hHeld ?_
    rotate_left
    · intro w hSw
      go_simp <;> with_reducible rfl
    try simp only [Act.put, List.setIfInBounds_toArray, List.set_cons_zero, List.set_cons_succ]
    refine takeAt 7 (some 76) ?_ rfl rfl (by kernel_rfl) (by kernel_rfl) (by kernel_rfl) (fun _ _ _ h => h) (Or.inl ⟨by rfl, ?_⟩) hHeld ?_
    rotate_left
    · intro w hSw
      go_simp <;> with_reducible rfl
    try simp only [Act.put, List.setIfInBounds_toArray, List.set_cons_zero, List.set_cons_succ]
    refine takeAt 8 (some 77) ?_ rfl rfl (by kernel_rfl) (by kernel_rfl) (by kernel_rfl) (fun _ _ _ h => h) (Or.inl ⟨by rfl, ?_⟩) hHeld ?_
    rotate_left
    · intro w hSw
      go_simp <;> with_reducible rfl
    try simp only [Act.put, List.setIfInBounds_toArray, List.set_cons_zero, List.set_cons_succ]
    refine takeAt 9 (some 78) ?_ rfl rfl (by kernel_rfl) (by kernel_rfl) (by kernel_rfl) (fun _ _ _ h => h) (Or.inl ⟨by rfl, ?_⟩) hHeld ?_
    rotate_left
    · intro w hSw
      go_simp <;> with_reducible rfl
    try simp only [Act.put, List.setIfInBounds_toArray, List.set_cons_zero, List.set_cons_succ]
    refine takeAt 10 (some 79) ?_ rfl rfl (by kernel_rfl) (by kernel_rfl) (by kernel_rfl) (fun _ _ _ h => h) (Or.inl ⟨by rfl, ?_⟩) hHeld ?_
    rotate_left
    · intro w hSw
      go_simp <;> with_reducible rfl
    try simp only [Act.put, List.setIfInBounds_toArray, List.set_cons_zero, List.set_cons_succ]
    refine takeAt 11 (some 80) ?_ rfl rfl (by kernel_rfl) (by kernel_rfl) (by kernel_rfl) (fun _ _ _ h => h) (Or.inl ⟨by rfl, ?_⟩) hHeld ?_
    rotate_left
    · intro w hSw
      go_simp <;> with_reducible rfl
    try simp only [Act.put, List.setIfInBounds_toArray, List.set_cons_zero, List.set_cons_succ]
    refine takeAt 13 (some 82) ?_ rfl rfl (by kernel_rfl) (by kernel_rfl) (by kernel_rfl) (fun _ _ _ h => h) (Or.inl ⟨by rfl, ?_⟩) hHeld ?_
    rotate_left
    · intro w hSw
      go_simp <;> with_reducible rfl
    try simp only [Act.put, List.setIfInBounds_toArray, List.set_cons_zero, List.set_cons_succ]
    refine takeAt 14 (some 83) ?_ rfl rfl (by kernel_rfl) (by kernel_rfl) (by kernel_rfl) (fun _ _ _ h => h) (Or.inl ⟨by rfl, ?_⟩) hHeld ?_
    rotate_left
    · intro w hSw
      go_simp <;> with_reducible rfl
    try simp only [Act.put, List.setIfInBounds_toArray, List.set_cons_zero, List.set_cons_succ]
    refine takeAt 15 (some 84) ?_ rfl rfl (by kernel_rfl) (by kernel_rfl) (by kernel_rfl) (fun _ _ _ h => h) (Or.inl ⟨by rfl, ?_⟩) hHeld ?_
    rotate_left
    · intro w hSw
      go_simp <;> with_reducible rfl
    try simp only [Act.put, List.setIfInBounds_toArray, List.set_cons_zero, List.set_cons_succ]
    refine takeAt 16 (some 85) ?_ rfl rfl (by kernel_rfl) (by kernel_rfl) (by kernel_rfl) (fun _ _ _ h => h) (Or.inl ⟨by rfl, ?_⟩) hHeld ?_
    rotate_left
    · intro w hSw
      go_simp <;> with_reducible rfl
    try simp only [Act.put, List.setIfInBounds_toArray, List.set_cons_zero, List.set_cons_succ]
    refine wpAnyH_ready (rs := [12]) (by kernel_rfl) (by simp) ?_
    refine AllReadyH.cons rfl (fun K hK => ?_) AllReadyH.nil
    go_simp
    refine hK.out _ _ hHeld (fun hHeld => ?_)
    clear hK K
    try simp only [Act.put, List.setIfInBounds_toArray, List.set_cons_zero, List.set_cons_succ]
    refine callAt 17 86 54 (vals := #[.slice (some ⟨kb, 0, none⟩) na.kids.length kc, .int .i64 ((k : Int) + 1), .int .i64 ((k : Int) + 2)]) (by kernel_rfl) rfl rfl rfl rfl (by simp [Act.eval]) Try.func54 (by kernel_rfl) (by kernel_rfl) ?_
    refine (HC.out _ (by rfl) (by rfl) (by rfl) (by rfl)).mono ?_
    rintro e w6 ⟨x6, y6, rfl, hvb6, p6, h6, k6⟩
    refine ⟨_, rfl, show Tk _ _ _ from ((p6 0).2.2).trans a0, fun hHeld => ?_⟩
    have q2 := ((p6 (at_ * 4 + 1)).1).trans ca1
    have q3 := (p6 (at_ * 4 + 1)).2.1
    clear p6
    try simp only [Act.put, List.setIfInBounds_toArray, List.set_cons_zero, List.set_cons_succ]
    refine takeAt 18 (some 87) ?_ rfl rfl (by kernel_rfl) (by kernel_rfl) (by kernel_rfl) (fun _ _ _ h => h) (Or.inl ⟨by rfl, ?_⟩) hHeld ?_
    rotate_left
    · intro w hSw
      go_simp <;> with_reducible rfl
    try simp only [Act.put, List.setIfInBounds_toArray, List.set_cons_zero, List.set_cons_succ]
    refine takeAt 19 (some 88) ?_ rfl rfl (by kernel_rfl) (by kernel_rfl) (by kernel_rfl) (fun _ _ _ h => h) (Or.inl ⟨by rfl, ?_⟩) hHeld ?_
    rotate_left
    · intro w hSw
      go_simp <;> with_reducible rfl
    try simp only [Act.put, List.setIfInBounds_toArray, List.set_cons_zero, List.set_cons_succ]
    refine wpAnyH_ready (rs := [20]) (by kernel_rfl) (by simp) ?_
    refine AllReadyH.cons rfl (fun K hK => ?_) AllReadyH.nil
    go_simp
    refine hK.out _ _ (show Tk _ _ _ from ?_) (fun hHeld => ?_)
    · exact (World.cell?_setCell_other _ _ _ _ (fun e => htb (by injection e))).trans hHeld
    clear hK K
    try simp only [Act.put, List.setIfInBounds_toArray, List.set_cons_zero, List.set_cons_succ]
    refine wpAnyH_done (by kernel_rfl) ?_ _
    refine NoPanic.normal ?_
    go_wp2_with fail
    have HL5 : ((s.put left ⟨.slice (some ⟨g, 0, none⟩) (nl.lines.length + nr.lines.length) cp, .slice none 0 0, nl.lines ++ nr.lines, [], nl.count, nl.bytes⟩).put at_ { na with vk := .slice x6 (na.kids.length - 1) y6, kids := na.kids.take (k + 1) ++ na.kids.drop (k + 2) }).ns[right]? = some nr := by rw [put_ne _ hra]; exact HL3.out.2.2
    refine (drop_any h6 HL5 (by show s.gone.length < _; omega)).mono ?_
    rintro e w7 ⟨rfl, o7, vn7, vg7, h7, k7⟩
    go_wp2_with fail
    have HL7 : (((s.put left ⟨.slice (some ⟨g, 0, none⟩) (nl.lines.length + nr.lines.length) cp, .slice none 0 0, nl.lines ++ nr.lines, [], nl.count, nl.bytes⟩).put at_ { na with vk := .slice x6 (na.kids.length - 1) y6, kids := na.kids.take (k + 1) ++ na.kids.drop (k + 2) }).put right nilNode).ns[left]? = some ⟨.slice (some ⟨g, 0, none⟩) (nl.lines.length + nr.lines.length) cp, .slice none 0 0, nl.lines ++ nr.lines, [], nl.count, nl.bytes⟩ := by rw [put_ne _ (Ne.symm hrl), put_ne _ hla]; exact HL3.out.1
    refine (weigh_any h7 HL7 (fun c hc => by cases hc) (by show (nl.lines ++ nr.lines).length + 0 < _; simp; omega) (by show sizes (nl.lines ++ nr.lines) + 0 < _; have := GB.out; omega)).mono ?_
    rintro e w8 ⟨rfl, h8, k8⟩
    go_wp2_with fail
    go_end0
    refine ⟨rfl, _, ?_, o7, _, _, h8, (k6.trans k7).trans k8⟩
    rcases FIN.out (.slice x6 (na.kids.length - 1) y6) (.slice (some ⟨g, 0, none⟩) (nl.lines.length + nr.lines.length) cp) (nl.lines ++ nr.lines).length (sizes (nl.lines ++ nr.lines)) (.slice none 0 0) hvb6 rfl with h | h
    · exact h
    · exact absurd ⟨rfl, rfl⟩ h
end
end Go.Proofs.Ytfnhbjokokjhfab
