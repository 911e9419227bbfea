/- Texts that the proof of the law stands on: SB, SC, SD, SE, SF, SG. -/
import Derived.Test.YtbnlenanfhggiaaPartE
/- The document's registers: added. -/
namespace Go.Proofs.Ytbnlenanfhggiaa
open Go.ChangeShapes Go.WideShapes Go.ChangeAt Go.RowKit Go.Maps Go.MapKept
set_option linter.unusedVariables false
set_option linter.unusedSimpArgs false
set_option maxRecDepth 100000
theorem Row.head {B n c : Nat} {a : Option Addr} {ls : List ByteArray} {w : World} (h : Row B (.slice a n c) ls w) (hn : 0 < ls.length) : ∃ g, a = some ⟨g, 0, none⟩ ∧ B ≤ g ∧ g < w.heap.size ∧ n = ls.length ∧ (∀ i s, ls[i]? = some s → w.cell? ⟨g, i, none⟩ = some (.string s)) ∧ ∀ i, w.frozen? ⟨g, i, none⟩ = false := by
  rcases h.2 with ⟨_, h0⟩ | ⟨g, cap, cur, e, hb, hg, h1, h2, h3, h4⟩
  · omega
  · cases e
    refine ⟨g, rfl, hb, (Array.getElem?_eq_some_iff.1 hg).1, rfl, fun i s hi => ?_, fun i => by simp [World.frozen?, hg]⟩
    have q : (strs ls)[i]? = some (.string s) := by unfold strs; rw [List.getElem?_map, hi]; rfl
    have hl := (List.getElem?_eq_some_iff.1 hi).1
    rw [← h4, List.getElem?_take, if_pos (by omega)] at q
    rw [cell_at hg, ← Array.getElem?_toList]
    exact q
theorem Row.set {B n c g : Nat} {ls : List ByteArray} {w : World} (h : Row B (.slice (some ⟨g, 0, none⟩) n c) ls w) {i : Nat} (hi : i < ls.length) (s : ByteArray) : Row B (.slice (some ⟨g, 0, none⟩) n c) (ls.set i s) (w.setCell ⟨g, i, none⟩ (.string s)) := by
  have h0 := h.1
  rcases h.2 with ⟨e, _⟩ | ⟨g', cap, cur, e, hb, hg, h1, h2, h3, h4⟩
  · cases e
  · cases e
    refine ⟨by simp [strs], .inr ⟨g, c, _, by simp, hb, heap_setCell hg, by simpa using h1, h2, by simpa using h3, ?_⟩⟩
    rw [Array.toList_setIfInBounds, List.length_set, List.take_set, h4]
    unfold strs
    rw [List.map_set]
theorem set_last {ls : List ByteArray} {n : Nat} (h : n + 1 = ls.length) (s : ByteArray) : ls.set n s = ls.take n ++ [s] := by
  apply List.ext_getElem?
  intro i
  by_cases q : i = n
  · subst q
    rw [List.getElem?_set_self (by omega), List.getElem?_append_right (by simp; omega)]
    have : i - (ls.take i).length = 0 := by simp; omega
    rw [this]; rfl
  · rw [List.getElem?_set_ne (Ne.symm q)]
    by_cases p : i < n
    · rw [List.getElem?_append_left (by simp; omega), List.getElem?_take, if_pos p]
    · rw [List.getElem?_eq_none (by omega), List.getElem?_eq_none (by simp; omega)]
section
variable {Q : Nat → Prop} {w : World} {a b : Rv} {va vb : Value}
set_option maxHeartbeats 8000000 in
theorem radded_any (ha : Sl Q va a.ls w) (hb : Sl Q vb b.ls w) (h0 : a.ls ≠ []) (h0' : b.ls ≠ []) (hl : a.ls.length + b.ls.length ≤ 8796093022208) (hsz : (a.ls[a.ls.length - 1]?.getD emp).size + (b.ls[0]?.getD emp).size ≤ 9223372036854775807) :
    Calls Try.prog 50 #[.agg #[va, .bool a.wh], .agg #[vb, .bool b.wh]] w fun e w' => ∃ v', e = .returned (.agg #[v', .bool (addR a b).wh]) ∧ Row w.heap.size v' (addR a b).ls w' ∧ Kp w w' := by
  obtain ⟨aa, ca, rfl, g1, g2, _⟩ := ha.form
  obtain ⟨ab, cb, rfl, g3, g4, _⟩ := hb.form
  obtain ⟨N, hN⟩ : ∃ N, a.ls.length = N := ⟨_, rfl⟩
  obtain ⟨M, hM⟩ : ∃ M, b.ls.length = M := ⟨_, rfl⟩
  have hpos : 0 < N := by have := List.length_pos_iff.2 h0; omega
  have hpos' : 0 < M := by have := List.length_pos_iff.2 h0'; omega
  rw [hN] at ha hl g1 ⊢
  rw [hM] at hb hl g3 ⊢
  obtain ⟨s2, hs2⟩ : ∃ s, b.ls[0]? = some s := ⟨_, List.getElem?_eq_getElem (by omega)⟩
  obtain ⟨gb, ob, rfl, _, e2⟩ := hb.at_ hs2
  rw [Nat.add_zero] at e2
  have hgb : gb < w.heap.size := World.block_lt_of_cell? _ _ e2
  obtain ⟨W3, hW3⟩ : ∃ W3, ((w.alloc (.cells #[.slice aa N ca, .bool a.wh] 24)).alloc (.cells #[.slice (some ⟨gb, ob, none⟩) M cb, .bool b.wh] 24)).alloc (.cells #[.slice none 0 0, .bool false] 24) = W3 := ⟨_, rfl⟩
  have k3 : Kp w W3 := by rw [← hW3]; exact kp_more (kp_more (kp_alloc _ _) _) _
  have b1 : Lc 24 w.heap.size [.slice aa N ca, .bool a.wh] W3 := by rw [← hW3]; exact ((Lc.new w _ _).kp (kp_alloc _ _)).kp (kp_alloc _ _)
  have b2 : Lc 24 (w.heap.size + 1) [.slice (some ⟨gb, ob, none⟩) M cb, .bool b.wh] W3 := by
    have := (Lc.new (w.alloc (.cells #[.slice aa N ca, .bool a.wh] 24)) [.slice (some ⟨gb, ob, none⟩) M cb, .bool b.wh] 24).kp (kp_alloc _ (.cells #[.slice none 0 0, .bool false] 24))
    rw [alloc_size, hW3] at this; exact this
  have b3 : Lc 24 (w.heap.size + 1 + 1) [.slice none 0 0, .bool false] W3 := by
    have := Lc.new ((w.alloc (.cells #[.slice aa N ca, .bool a.wh] 24)).alloc (.cells #[.slice (some ⟨gb, ob, none⟩) M cb, .bool b.wh] 24)) [.slice none 0 0, .bool false] 24
    rw [alloc_size, alloc_size, hW3] at this; exact this
  have HR0 : Hid (Row w.heap.size (.slice none 0 0) [] W3) := World.ownsRow_nil _ _ _ _
  have HS : Hid (Sl Q (.slice aa N ca) a.ls W3 ∧ ([] : List ByteArray).length + a.ls.length = N ∧ w.heap.size ≤ W3.heap.size ∧ N ≤ 8796093022208) := ⟨ha.kp k3, by simpa using hN, k3.size, by omega⟩
  have HNM : Hid (a.ls.length = N ∧ b.ls.length = M ∧ b.ls[0]? = some s2 ∧ Sl Q (.slice (some ⟨gb, ob, none⟩) M cb) b.ls w) := ⟨hN, hM, hs2, hb⟩
  have u1 := b1.at (j := 0) rfl
  have HW : Hid (_ = W3) := hW3
  unfold maxLen at g4
  have HF : Hid (∀ a' c' w4, Row w.heap.size (.slice a' N c') ([] ++ a.ls) w4 → W3.grownBy w4 (Value.slice none 0 0).ownBlock → (w4.cell? ⟨w.heap.size, 1, none⟩ = some (.bool a.wh) ∧ w4.cell? ⟨w.heap.size + 1, 0, none⟩ = some (.slice (some ⟨gb, ob, none⟩) M cb) ∧ w4.cell? ⟨w.heap.size + 1, 1, none⟩ = some (.bool b.wh)) ∧ Hid (Row w.heap.size (.slice a' N c') a.ls w4 ∧ Lc 24 (w.heap.size + 1) [.slice (some ⟨gb, ob, none⟩) M cb, .bool b.wh] w4 ∧ Lc 24 (w.heap.size + 1 + 1) [.slice none 0 0, .bool false] w4 ∧ Kp w w4)) := fun a' c' w4 q1 q2 => by
    have k4 := kp_grown0 q2 rfl
    have l1 := b1.kp k4
    have l2 := b2.kp k4
    exact ⟨⟨l1.at (j := 1) rfl, l2.at (j := 0) rfl, l2.at (j := 1) rfl⟩, q1, l2, b3.kp k4, kp_trans k3 k4⟩
  by_cases hw : (a.wh || b.wh) = true
  · have hR := whole_at h0 hw
    rw [hR]
    clear ha hb hN hM hW3 k3 b1 b2 b3 h0 h0' hR hs2 hsz
    have HFW : Hid (∀ a' c' w4, Row w.heap.size (.slice a' N c') a.ls w4 → Lc 24 (w.heap.size + 1 + 1) [.slice none 0 0, .bool false] w4 → Kp w w4 → ∀ a2 c2 w5, Row w.heap.size (.slice a2 (N + M) c2) (a.ls ++ b.ls) w5 → w4.grownBy w5 (Value.slice a' N c').ownBlock → (w5.cell? ⟨w.heap.size + 1 + 1, 0, none⟩ = some (.slice none 0 0) ∧ w5.cell? ⟨w.heap.size + 1 + 1, 1, none⟩ = some (.bool false)) ∧ (w5.frozen? ⟨w.heap.size + 1 + 1, 0, none⟩ = false ∧ w5.frozen? ⟨w.heap.size + 1 + 1, 1, none⟩ = false) ∧ Hid (Lc 24 (w.heap.size + 1 + 1) [.slice a2 (N + M) c2, .bool true] ((w5.setCell ⟨w.heap.size + 1 + 1, 0, none⟩ (.slice a2 (N + M) c2)).setCell ⟨w.heap.size + 1 + 1, 1, none⟩ (.bool true)) ∧ Row w.heap.size (.slice a2 (N + M) c2) (a.ls ++ b.ls) ((w5.setCell ⟨w.heap.size + 1 + 1, 0, none⟩ (.slice a2 (N + M) c2)).setCell ⟨w.heap.size + 1 + 1, 1, none⟩ (.bool true)) ∧ Kp w ((w5.setCell ⟨w.heap.size + 1 + 1, 0, none⟩ (.slice a2 (N + M) c2)).setCell ⟨w.heap.size + 1 + 1, 1, none⟩ (.bool true)))) := fun a' c' w4 r1 l3 k4 a2 c2 w5 q1 q2 => by
      have l3' : Lc 24 (w.heap.size + 1 + 1) [.slice none 0 0, .bool false] w5 := l3.heap (q2.block _ l3.lt fun e => row_ne r1 l3 (by decide) e.symm)
      exact ⟨⟨l3'.at (j := 0) rfl, l3'.at (j := 1) rfl⟩, ⟨l3'.fz _, l3'.fz _⟩, box_put l3' q1 (k4.trans (below_grown r1 k4.size q2)) (by omega) _ _⟩
    cases hwa : a.wh
    · have hwb : b.wh = true := by rw [hwa] at hw; simpa using hw
      rw [hwa] at HW HF
      rw [hwb] at HW HF ⊢
      clear hwa hwb hw
      go_enter Try.func50, Try.ntmps50
      go_upto_region 1 with fail
      rw [HW.out]
      clear HW
      go_upto_region 4 with (at_builtin; refine wpl_str (K := N) rfl (.tmp 6) (.tmp 8) rfl rfl HR0.out rfl HS.out.1 HS.out.2.1 HS.out.2.2.2 HS.out.2.2.1 ?_; intro a' c' w4 hc1 hc2 q1 q2; obtain ⟨⟨y1, y2, y3⟩, HX⟩ := HF.out a' c' w4 q1 q2; clear q1 q2)
      have HSB : Hid (Sl Q (.slice (some ⟨gb, ob, none⟩) M cb) b.ls w4 ∧ a.ls.length + b.ls.length = N + M ∧ N + M ≤ 8796093022208 ∧ w.heap.size ≤ w4.heap.size) := ⟨HNM.out.2.2.2.kp HX.out.2.2.2, by rw [HNM.out.1, HNM.out.2.1], by omega, HX.out.2.2.2.size⟩
      have HR4 : Hid (Row w.heap.size (.slice a' N c') a.ls w4) := HX.out.1
      have HG : Hid _ := HFW.out a' c' w4 HX.out.1 HX.out.2.2.1 HX.out.2.2.2
      clear HX HF HR0 u1 HFW
      go_wp2_with (at_builtin; refine wpl_str (K := N + M) rfl (.tmp 16) (.tmp 18) rfl rfl HR4.out rfl HSB.out.1 HSB.out.2.1 HSB.out.2.2.1 HSB.out.2.2.2 ?_; intro a2 c2 w5 hd1 hd2 q1 q2; obtain ⟨⟨z1, z2⟩, ⟨z3, z4⟩, HY⟩ := HG.out a2 c2 w5 q1 q2; clear q1 q2)
      refine bodyPost_ret (results_box1 rfl rfl HY.out.1 Try.underlying24 rfl (by kernel_rfl)) rfl ?_
      exact ⟨_, rfl, HY.out.2⟩
    · rw [hwa] at HW HF
      clear hwa hw
      go_enter Try.func50, Try.ntmps50
      go_upto_region 1 with fail
      rw [HW.out]
      clear HW
      go_upto_region 4 with (at_builtin; refine wpl_str (K := N) rfl (.tmp 6) (.tmp 8) rfl rfl HR0.out rfl HS.out.1 HS.out.2.1 HS.out.2.2.2 HS.out.2.2.1 ?_; intro a' c' w4 hc1 hc2 q1 q2; obtain ⟨⟨y1, y2, y3⟩, HX⟩ := HF.out a' c' w4 q1 q2; clear q1 q2)
      have HSB : Hid (Sl Q (.slice (some ⟨gb, ob, none⟩) M cb) b.ls w4 ∧ a.ls.length + b.ls.length = N + M ∧ N + M ≤ 8796093022208 ∧ w.heap.size ≤ w4.heap.size) := ⟨HNM.out.2.2.2.kp HX.out.2.2.2, by rw [HNM.out.1, HNM.out.2.1], by omega, HX.out.2.2.2.size⟩
      have HR4 : Hid (Row w.heap.size (.slice a' N c') a.ls w4) := HX.out.1
      have HG : Hid _ := HFW.out a' c' w4 HX.out.1 HX.out.2.2.1 HX.out.2.2.2
      clear HX HF HR0 u1 HFW
      go_wp2_with (at_builtin; refine wpl_str (K := N + M) rfl (.tmp 16) (.tmp 18) rfl rfl HR4.out rfl HSB.out.1 HSB.out.2.1 HSB.out.2.2.1 HSB.out.2.2.2 ?_; intro a2 c2 w5 hd1 hd2 q1 q2; obtain ⟨⟨z1, z2⟩, ⟨z3, z4⟩, HY⟩ := HG.out a2 c2 w5 q1 q2; clear q1 q2)
      refine bodyPost_ret (results_box1 rfl rfl HY.out.1 Try.underlying24 rfl (by kernel_rfl)) rfl ?_
      exact ⟨_, rfl, HY.out.2⟩
  · have hwa : a.wh = false := by cases h : a.wh <;> simp_all
    have hwb : b.wh = false := by cases h : b.wh <;> simp_all
    have hR := seam_eq h0 hwa hwb
    rw [hR]
    obtain ⟨n, hn⟩ : ∃ n, n + 1 = N := ⟨N - 1, by omega⟩
    obtain ⟨s1, hs1⟩ : ∃ s, a.ls[n]? = some s := ⟨_, List.getElem?_eq_getElem (by omega)⟩
    have en : a.ls.length - 1 = n := by omega
    rw [en] at hsz
    have hse : seam a.ls b.ls = s1 ++ s2 := by unfold seam; rw [en, hs1, hs2]; rfl
    rw [hs1, hs2] at hsz
    rw [hse, en]
    have had : ∀ z : World, (Op.stringOp .add s1 s2).run Try.prog z = .ok (.string (s1 ++ s2)) z := fun z => run_string_add_sum z _ _ hsz
    have hNn : (N : Int) - 1 = (n : Int) := by omega
    rw [hwa] at HW HF ⊢
    rw [hwb] at HW HF ⊢
    have HSE : Hid (a.ls[n]? = some s1 ∧ n + 1 = a.ls.length) := ⟨hs1, by omega⟩
    clear ha hb hN hM hW3 k3 b1 b2 b3 h0 h0' hR hs2 hsz hse hs1 en hwa hwb hw
    go_enter Try.func50, Try.ntmps50
    go_upto_region 1 with fail
    rw [HW.out]
    clear HW
    go_upto_region 6 with (at_builtin; refine wpl_str (K := N) rfl (.tmp 6) (.tmp 8) rfl rfl HR0.out rfl HS.out.1 HS.out.2.1 HS.out.2.2.2 HS.out.2.2.1 ?_; intro a' c' w4 hc1 hc2 q1 q2; obtain ⟨⟨y1, y2, y3⟩, HX⟩ := HF.out a' c' w4 q1 q2; clear q1 q2)
    obtain ⟨g0, rfl, hg0, hg1, qN, hgc, hgf⟩ := HX.out.1.head (by have := HSE.out.2; omega)
    have hwn : IntKind.i64.wrap (n : Int) = (n : Int) := by rw [IntKind.wrap_i64]; omega
    have hnN : (n : Int) < (N : Int) := by omega
    clear qN
    have c0 := hgc n s1 HSE.out.1
    have f0 := hgf n
    have e3 := kp_cell HX.out.2.2.2 e2
    have HX5 : Hid (Row w.heap.size (.slice (some ⟨g0, 0, none⟩) N c') (a.ls.take n ++ [s1 ++ s2]) ((w4.setCell ⟨g0, n, none⟩ (.string (s1 ++ s2))).drew) ∧ Lc 24 (w.heap.size + 1) [.slice (some ⟨gb, ob, none⟩) M cb, .bool false] ((w4.setCell ⟨g0, n, none⟩ (.string (s1 ++ s2))).drew) ∧ Lc 24 (w.heap.size + 1 + 1) [.slice none 0 0, .bool false] ((w4.setCell ⟨g0, n, none⟩ (.string (s1 ++ s2))).drew) ∧ Kp w ((w4.setCell ⟨g0, n, none⟩ (.string (s1 ++ s2))).drew)) := by
      have r4 := HX.out.1
      have l2 := HX.out.2.1
      have l3 := HX.out.2.2.1
      have n2 : g0 ≠ w.heap.size + 1 := fun e => row_ne r4 l2 (by decide) (by rw [← e]; rfl)
      have n3 : g0 ≠ w.heap.size + 1 + 1 := fun e => row_ne r4 l3 (by decide) (by rw [← e]; rfl)
      refine ⟨?_, (l2.other n2).kp (kp_drew _), (l3.other n3).kp (kp_drew _), kp_trans (kp_new HX.out.2.2.2 hg0) (kp_drew _)⟩
      rw [← set_last HSE.out.2 (s1 ++ s2)]
      exact row_kp (r4.set (by have := HSE.out.2; omega) _) (kp_drew _)
    have hne3 : w.heap.size + 1 ≠ g0 := fun e => row_ne HX.out.1 HX.out.2.1 (by decide) (by rw [e]; rfl)
    have hne4 : gb ≠ g0 := by omega
    clear HX hgc hgf HF HR0 u1
    refine wp_region_noPanic ?_
    refine wp_region_held_drew (S := fun z => z.cell? ⟨w.heap.size + 1, 0, none⟩ = some (.slice (some ⟨gb, ob, none⟩) M cb) ∧ z.cell? ⟨gb, ob, none⟩ = some (.string s2)) (by kernel_rfl) (⟨y2, e3⟩) (fun hHeld => ?_)
    refine takeAt 0 (some 22) ?_ rfl rfl (by kernel_rfl) (by kernel_rfl) (by kernel_rfl) (fun _ _ _ h => h) (Or.inl ⟨by rfl, ?_⟩) hHeld ?_
    rotate_left
    · intro w hSw
      go_simp <;> with_reducible rfl
    try simp only [Act.put, List.setIfInBounds_toArray, List.set_cons_zero, List.set_cons_succ]
    refine takeAt 1 (some 23) ?_ rfl rfl (by kernel_rfl) (by kernel_rfl) (by kernel_rfl) (fun _ _ _ h => h) (Or.inl ⟨by rfl, ?_⟩) hHeld ?_
    rotate_left
    · intro w hSw
      go_simp <;> with_reducible rfl
    try simp only [Act.put, List.setIfInBounds_toArray, List.set_cons_zero, List.set_cons_succ]
    refine takeAt 2 (some 24) ?_ rfl rfl (by kernel_rfl) (by kernel_rfl) (by kernel_rfl) (fun _ _ _ h => h) (Or.inl ⟨by rfl, ?_⟩) hHeld ?_
    rotate_left
    · intro w hSw
      go_simp <;> with_reducible rfl
    try simp only [Act.put, List.setIfInBounds_toArray, List.set_cons_zero, List.set_cons_succ]
    refine takeAt 3 (some 25) ?_ rfl rfl (by kernel_rfl) (by kernel_rfl) (by kernel_rfl) (fun _ _ _ h => h) (Or.inl ⟨by rfl, ?_⟩) hHeld ?_
    rotate_left
    · intro w hSw
      go_simp <;> with_reducible rfl
    try simp only [Act.put, List.setIfInBounds_toArray, List.set_cons_zero, List.set_cons_succ]
    refine takeAt 4 (some 26) ?_ rfl rfl (by kernel_rfl) (by kernel_rfl) (by kernel_rfl) (fun _ _ _ h => h) (Or.inl ⟨by rfl, ?_⟩) hHeld ?_
    rotate_left
    · intro w hSw
      go_simp <;> with_reducible rfl
    try simp only [Act.put, List.setIfInBounds_toArray, List.set_cons_zero, List.set_cons_succ]
    refine takeAt 5 (some 27) ?_ rfl rfl (by kernel_rfl) (by kernel_rfl) (by kernel_rfl) (fun _ _ _ h => h) (Or.inl ⟨by rfl, ?_⟩) hHeld ?_
    rotate_left
    · intro w hSw
      go_simp <;> with_reducible rfl
    try simp only [Act.put, List.setIfInBounds_toArray, List.set_cons_zero, List.set_cons_succ]
    refine takeAt 6 (some 28) ?_ rfl rfl (by kernel_rfl) (by kernel_rfl) (by kernel_rfl) (fun _ _ _ h => h) (Or.inl ⟨by rfl, ?_⟩) hHeld ?_
    rotate_left
    · intro w hSw
      go_simp <;> with_reducible rfl
    try simp only [Act.put, List.setIfInBounds_toArray, List.set_cons_zero, List.set_cons_succ]
    refine takeAt 7 (some 29) ?_ rfl rfl (by kernel_rfl) (by kernel_rfl) (by kernel_rfl) (fun _ _ _ h => h) (Or.inl ⟨by rfl, ?_⟩) hHeld ?_
    rotate_left
    · intro w hSw
      go_simp <;> with_reducible rfl
    try simp only [Act.put, List.setIfInBounds_toArray, List.set_cons_zero, List.set_cons_succ]
    refine takeAt 8 (some 30) ?_ rfl rfl (by kernel_rfl) (by kernel_rfl) (by kernel_rfl) (fun _ _ _ h => h) (Or.inl ⟨by rfl, ?_⟩) hHeld ?_
    rotate_left
    · intro w hSw
      go_simp <;> with_reducible rfl
    try simp only [Act.put, List.setIfInBounds_toArray, List.set_cons_zero, List.set_cons_succ]
    refine takeAt 10 (some 32) ?_ rfl rfl (by kernel_rfl) (by kernel_rfl) (by kernel_rfl) (fun _ _ _ h => h) (Or.inl ⟨by rfl, ?_⟩) hHeld ?_
    rotate_left
    · intro w hSw
      go_simp <;> with_reducible rfl
    try simp only [Act.put, List.setIfInBounds_toArray, List.set_cons_zero, List.set_cons_succ]
    refine takeAt 11 (some 33) ?_ rfl rfl (by kernel_rfl) (by kernel_rfl) (by kernel_rfl) (fun _ _ _ h => h) (Or.inl ⟨by rfl, ?_⟩) hHeld ?_
    rotate_left
    · intro w hSw
      go_simp <;> with_reducible rfl
    try simp only [Act.put, List.setIfInBounds_toArray, List.set_cons_zero, List.set_cons_succ]
    refine takeAt 12 (some 34) ?_ rfl rfl (by kernel_rfl) (by kernel_rfl) (by kernel_rfl) (fun _ _ _ h => h) (Or.inl ⟨by rfl, ?_⟩) hHeld ?_
    rotate_left
    · intro w hSw
      go_simp <;> with_reducible rfl
    try simp only [Act.put, List.setIfInBounds_toArray, List.set_cons_zero, List.set_cons_succ]
    refine takeAt 13 (some 35) ?_ rfl rfl (by kernel_rfl) (by kernel_rfl) (by kernel_rfl) (fun _ _ _ h => h) (Or.inl ⟨by rfl, ?_⟩) hHeld ?_
    rotate_left
    · intro w hSw
      go_simp <;> with_reducible rfl
    try simp only [Act.put, List.setIfInBounds_toArray, List.set_cons_zero, List.set_cons_succ]
    refine wpAnyH_ready (rs := [9]) (by kernel_rfl) (by simp) ?_
    refine AllReadyH.cons rfl (fun K hK => ?_) AllReadyH.nil
    go_simp
    refine hK.out _ _ (⟨y2, e3⟩) (fun hHeld => ?_)
    clear hK K
    try simp only [Act.put, List.setIfInBounds_toArray, List.set_cons_zero, List.set_cons_succ]
    refine takeAt 14 (some 36) ?_ rfl rfl (by kernel_rfl) (by kernel_rfl) (by kernel_rfl) (fun _ _ _ h => h) (Or.inl ⟨by rfl, ?_⟩) hHeld ?_
    rotate_left
    · intro w hSw
      go_simp <;> with_reducible rfl
    try simp only [Act.put, List.setIfInBounds_toArray, List.set_cons_zero, List.set_cons_succ]
    refine takeAt 15 (some 37) ?_ rfl rfl (by kernel_rfl) (by kernel_rfl) (by kernel_rfl) (fun _ _ _ h => h) (Or.inl ⟨by rfl, ?_⟩) hHeld ?_
    rotate_left
    · intro w hSw
      go_simp <;> with_reducible rfl
    try simp only [Act.put, List.setIfInBounds_toArray, List.set_cons_zero, List.set_cons_succ]
    refine wpAnyH_ready (rs := [16]) (by kernel_rfl) (by simp) ?_
    refine AllReadyH.cons rfl (fun K hK => ?_) AllReadyH.nil
    go_simp
    refine hK.out _ _ (⟨(cell_so (a := ⟨w.heap.size + 1, 0, none⟩) hne3).trans y2, (cell_so (a := ⟨gb, ob, none⟩) hne4).trans e3⟩) (fun hHeld => ?_)
    clear hK K
    try simp only [Act.put, List.setIfInBounds_toArray, List.set_cons_zero, List.set_cons_succ]
    refine wpAnyH_done (by kernel_rfl) ?_ _
    refine NoPanic.normal ?_
    have HT : Hid ((a.ls.take n ++ [s1 ++ s2]).length + (b.ls.drop 1).length = n + M ∧ n + M ≤ 8796093022208 ∧ (a.ls.take n ++ [s1 ++ s2]) ++ b.ls.drop 1 = a.ls.take n ++ ((s1 ++ s2) :: b.ls.drop 1)) := by
      refine ⟨?_, by omega, by simp⟩
      have := HSE.out.2
      have := HNM.out.2.1
      simp; omega
    generalize hx5 : (w4.setCell ⟨g0, n, none⟩ (.string (s1 ++ s2))).drew = x5 at HX5 ⊢
    have y6 := HX5.out.2.1.at (j := 0) rfl
    have HD := (HNM.out.2.2.2.kp HX5.out.2.2.2).drop1 (by omega)
    obtain ⟨sp, hsp⟩ : ∃ sp, (if cb = 1 then some (⟨gb, ob, none⟩ : Addr) else some ⟨gb, ob + 1, none⟩) = sp := ⟨_, rfl⟩
    rw [hsp] at HD
    have HDD : Hid (Sl Q (.slice sp (M - 1) (cb - 1)) (b.ls.drop 1) x5) := HD
    have HB : Hid (w.heap.size ≤ x5.heap.size) := HX5.out.2.2.2.size
    have HR5 : Hid (Row w.heap.size (.slice (some ⟨g0, 0, none⟩) N c') (a.ls.take n ++ [s1 ++ s2]) x5) := HX5.out.1
    have q2 : (1 : Int) ≤ (M : Int) := by omega
    have q3 : 1 ≤ M := by omega
    have HFW : Hid (∀ a2 c2 w6, Row w.heap.size (.slice a2 (n + M) c2) ((a.ls.take n ++ [s1 ++ s2]) ++ b.ls.drop 1) w6 → x5.grownBy w6 (Value.slice (some ⟨g0, 0, none⟩) N c').ownBlock → (w6.cell? ⟨w.heap.size + 1 + 1, 0, none⟩ = some (.slice none 0 0) ∧ w6.cell? ⟨w.heap.size + 1 + 1, 1, none⟩ = some (.bool false)) ∧ (w6.frozen? ⟨w.heap.size + 1 + 1, 0, none⟩ = false ∧ w6.frozen? ⟨w.heap.size + 1 + 1, 1, none⟩ = false) ∧ Hid (Lc 24 (w.heap.size + 1 + 1) [.slice a2 (n + M) c2, .bool false] ((w6.setCell ⟨w.heap.size + 1 + 1, 0, none⟩ (.slice a2 (n + M) c2)).setCell ⟨w.heap.size + 1 + 1, 1, none⟩ (.bool false)) ∧ Row w.heap.size (.slice a2 (n + M) c2) (a.ls.take n ++ ((s1 ++ s2) :: b.ls.drop 1)) ((w6.setCell ⟨w.heap.size + 1 + 1, 0, none⟩ (.slice a2 (n + M) c2)).setCell ⟨w.heap.size + 1 + 1, 1, none⟩ (.bool false)) ∧ Kp w ((w6.setCell ⟨w.heap.size + 1 + 1, 0, none⟩ (.slice a2 (n + M) c2)).setCell ⟨w.heap.size + 1 + 1, 1, none⟩ (.bool false)))) := fun a2 c2 w6 q1 q2 => by
      have l3 := HX5.out.2.2.1
      have l3' : Lc 24 (w.heap.size + 1 + 1) [.slice none 0 0, .bool false] w6 := l3.heap (q2.block _ l3.lt fun e => row_ne HR5.out l3 (by decide) e.symm)
      rw [HT.out.2.2] at q1
      exact ⟨⟨l3'.at (j := 0) rfl, l3'.at (j := 1) rfl⟩, ⟨l3'.fz _, l3'.fz _⟩, box_put l3' q1 (HX5.out.2.2.2.trans (below_grown HR5.out HB.out q2)) (by omega) _ _⟩
    clear hx5 HD HX5 y1 y2 y3 c0 f0 e3 HNM had
    go_wp2_with (at_builtin; refine wpl_str (K := n + M) rfl (.tmp 38) (.tmp 41) rfl rfl HR5.out rfl HDD.out HT.out.1 HT.out.2.1 HB.out ?_; intro a2 c2 w6 hd1 hd2 q1' q2'; obtain ⟨⟨z1, z2⟩, ⟨z3, z4⟩, HY⟩ := HFW.out a2 c2 w6 q1' q2'; clear q1' q2')
    refine bodyPost_ret (results_box1 rfl rfl HY.out.1 Try.underlying24 rfl (by kernel_rfl)) rfl ?_
    exact ⟨_, rfl, HY.out.2⟩
end
end Go.Proofs.Ytbnlenanfhggiaa
/- The document's registers in memory: New, set, lay. -/
namespace Go.Proofs.Ytbnlenanfhggiaa
open Go.ChangeShapes Go.WideShapes Go.ChangeAt Go.RowKit Go.Maps Go.MapKept
set_option linter.unusedVariables false
set_option linter.unusedSimpArgs false
set_option maxRecDepth 100000
/-- What stands in the document's box, by the byte. -/
def Rl (l : List Value) (f : Rf) (P : Nat → Prop) (w : World) : Prop :=
  l.length = 768 ∧ ∀ x : Nat, x < 256 → ∃ a n c wh, l[x * 2]? = some (.slice a n c) ∧ l[x * 2 + 1]? = some (.bool wh) ∧ l[512 + x]? = some (.bool (f (x : Int)).isSome) ∧ ∀ r, f (x : Int) = some r → wh = r.wh ∧ Sl P (.slice a n c) r.ls w
structure Rr (t : Nat) (f : Rf) (P : Nat → Prop) (w : World) : Prop where
  box : ∃ l, Lc 67 t l w ∧ Rl l f P w
  dom : ∀ x r, f x = some r → nmB x = true
  ok : ∀ x r, f x = some r → r.ls ≠ [] ∧ szL r.ls ≤ 20000
theorem Rl.nostr {l : List Value} {f : Rf} {P : Nat → Prop} {w : World} (h : Rl l f P w) : ∀ (i : Nat) (s : ByteArray), l[i]? ≠ some (.string s) := by
  intro i s e
  have hl := (List.getElem?_eq_some_iff.1 e).1
  rw [h.1] at hl
  by_cases q : i < 512
  · obtain ⟨a, n, c, wh, h1, h2, _⟩ := h.2 (i / 2) (by omega)
    by_cases p : i % 2 = 0
    · have : i / 2 * 2 = i := by omega
      rw [this, e] at h1; cases h1
    · have : i / 2 * 2 + 1 = i := by omega
      rw [this, e] at h2; cases h2
  · obtain ⟨a, n, c, wh, _, _, h3, _⟩ := h.2 (i - 512) (by omega)
    have : 512 + (i - 512) = i := by omega
    rw [this, e] at h3; cases h3
section
variable {t b : Nat} {f : Rf} {P Q : Nat → Prop} {w w1 : World} {v : Value} {r : Rv} {l : List Value}
theorem Rl.kp (h : Rl l f P w) (k : Kp w w1) : Rl l f P w1 := ⟨h.1, fun x hx => by
  obtain ⟨a, n, c, wh, h1, h2, h3, h4⟩ := h.2 x hx
  exact ⟨a, n, c, wh, h1, h2, h3, fun r hr => ⟨(h4 r hr).1, (h4 r hr).2.kp k⟩⟩⟩
theorem Rl.mono (h : Rl l f P w) (hq : ∀ k, k < w.heap.size → P k → Q k) : Rl l f Q w := ⟨h.1, fun x hx => by
  obtain ⟨a, n, c, wh, h1, h2, h3, h4⟩ := h.2 x hx
  exact ⟨a, n, c, wh, h1, h2, h3, fun r hr => ⟨(h4 r hr).1, (h4 r hr).2.mono hq⟩⟩⟩
theorem Rl.map_ (h : Rl l f P w) (hs : ∀ (v : Value) (ls : List ByteArray), Sl P v ls w → Sl P v ls w1) : Rl l f P w1 := ⟨h.1, fun x hx => by
  obtain ⟨a, n, c, wh, h1, h2, h3, h4⟩ := h.2 x hx
  exact ⟨a, n, c, wh, h1, h2, h3, fun r hr => ⟨(h4 r hr).1, hs _ _ (h4 r hr).2⟩⟩⟩
/-- One register is laid anew. -/
theorem Rl.put (h : Rl l f P w) {x : Nat} (hx : x < 256) {a : Option Addr} {n c : Nat} {wh : Bool} {o : Option Rv} (ho : ∀ r, o = some r → wh = r.wh ∧ Sl P (.slice a n c) r.ls w) :
    Rl (((l.set (x * 2) (.slice a n c)).set (x * 2 + 1) (.bool wh)).set (512 + x) (.bool o.isSome)) (setR f (x : Int) o) P w := by
  have hl := h.1
  refine ⟨by simp [hl], fun y hy => ?_⟩
  by_cases q : y = x
  · subst q
    refine ⟨a, n, c, wh, ?_, ?_, ?_, fun r hr => ?_⟩
    · rw [List.getElem?_set_ne (by omega), List.getElem?_set_ne (by omega), List.getElem?_set_self (by omega)]
    · rw [List.getElem?_set_ne (by omega), List.getElem?_set_self (by simp; omega)]
    · rw [List.getElem?_set_self (by simp; omega)]
      unfold setR; rw [if_pos rfl]
    · unfold setR at hr; rw [if_pos rfl] at hr; exact ho r hr
  · obtain ⟨a', n', c', wh', h1, h2, h3, h4⟩ := h.2 y hy
    have hne : ¬ ((y : Int) = (x : Int)) := by omega
    refine ⟨a', n', c', wh', ?_, ?_, ?_, fun r hr => ?_⟩
    · rw [List.getElem?_set_ne (by omega), List.getElem?_set_ne (by omega), List.getElem?_set_ne (by omega)]; exact h1
    · rw [List.getElem?_set_ne (by omega), List.getElem?_set_ne (by omega), List.getElem?_set_ne (by omega)]; exact h2
    · rw [List.getElem?_set_ne (by omega), List.getElem?_set_ne (by omega), List.getElem?_set_ne (by omega)]
      unfold setR; rw [if_neg hne]; exact h3
    · unfold setR at hr; rw [if_neg hne] at hr; exact h4 r hr
theorem Rr.kp (h : Rr t f P w) (k : Kp w w1) : Rr t f P w1 := by
  obtain ⟨l, h1, h2⟩ := h.box
  exact ⟨⟨l, h1.kp k, h2.kp k⟩, h.dom, h.ok⟩
theorem Rr.mono (h : Rr t f P w) (hq : ∀ k, k < w.heap.size → P k → Q k) : Rr t f Q w := by
  obtain ⟨l, h1, h2⟩ := h.box
  exact ⟨⟨l, h1, h2.mono hq⟩, h.dom, h.ok⟩
theorem Rr.fr {S : Nat → Prop} (h : Rr t f P w) (k : Fr S w w1) (hn : ∀ g, P g → ¬ S g) (ht : ¬ S t) : Rr t f P w1 := by
  obtain ⟨l, h1, h2⟩ := h.box
  exact ⟨⟨l, h1.fr k ht, h2.map_ fun v ls hs => hs.fr k hn⟩, h.dom, h.ok⟩
theorem Rr.onMap {m : Int → Option Value} (h : Rr t f P w) (hm : Mp b m w) (k : Fr (On b) w w1) : Rr t f P w1 := by
  obtain ⟨l, h1, h2⟩ := h.box
  exact ⟨⟨l, h1.fr k (hm.ne h1), h2.map_ fun v ls hs => hs.onMap hm k⟩, h.dom, h.ok⟩
theorem Rs.rr {t2 : Nat} {f2 : Rf} (h : Rs t b f P w) (h2 : Rr t2 f2 Q w) (k : Fr (On b) w w1) : Rr t2 f2 Q w1 := by
  obtain ⟨m, hm, _⟩ := h.map
  exact h2.onMap hm k
/-- What is done to the document's registers leaves the others as they were. -/
theorem Rr.rs {t2 : Nat} {f2 : Rf} (h2 : Rr t2 f2 Q w) (h : Rs t b f P w) (k : Fr (On t2) w w1) : Rs t b f P w1 := by
  obtain ⟨l, l1, l2⟩ := h2.box
  obtain ⟨m, hm, hv⟩ := h.map
  refine ⟨h.box.fr k (fun e => lc_ne h.box l1 (by decide) e), ⟨m, hm.fr k (fun e => hm.ne l1 e.symm), fun x => ?_⟩, h.dom, h.ok⟩
  rcases hv x with q | ⟨v, q, e1, e2, e3⟩
  · exact .inl q
  · exact .inr ⟨v, q, e1, e2, e3.off l1 l2.nostr k⟩
theorem Rr.sl_off {ls : List ByteArray} (h : Rr t f P w) (hs : Sl Q v ls w) (k : Fr (On t) w w1) : Sl Q v ls w1 := by
  obtain ⟨l, l1, l2⟩ := h.box
  exact hs.off l1 l2.nostr k
theorem Rr.box_off {T : TypeId} {m : Nat} {l' : List Value} (h : Rr t f P w) (hm : Lc T m l' w) (hT : T ≠ 67) (k : Fr (On t) w w1) : Lc T m l' w1 := by
  obtain ⟨l, l1, l2⟩ := h.box
  exact hm.fr k (fun e => lc_ne hm l1 hT e)
theorem Rr.dlc (h : Rr t f P w) {x : Nat} (hx : x < 256) : ∃ a n c wh, (w.cell? ⟨t, x * 2, none⟩ = some (.slice a n c) ∧ w.cell? ⟨t, x * 2 + 1, none⟩ = some (.bool wh)) ∧ w.cell? ⟨t, 512 + x, none⟩ = some (.bool (f (x : Int)).isSome) ∧ (∀ i, w.frozen? ⟨t, i, none⟩ = false) ∧ ∀ r, f (x : Int) = some r → wh = r.wh ∧ Sl P (.slice a n c) r.ls w := by
  obtain ⟨l, l1, l2⟩ := h.box
  obtain ⟨a, n, c, wh, h1, h2, h3, h4⟩ := l2.2 x hx
  exact ⟨a, n, c, wh, ⟨l1.at h1, l1.at h2⟩, l1.at h3, fun i => l1.fz i, h4⟩
/-- Three cells are laid anew. -/
theorem Rr.put (h : Rr t f P w) {x : Nat} (hx : x < 256) {a : Option Addr} {n c : Nat} {wh : Bool} {o : Option Rv} (ho : ∀ r, o = some r → wh = r.wh ∧ Sl P (.slice a n c) r.ls w ∧ r.ls ≠ [] ∧ szL r.ls ≤ 20000 ∧ nmB (x : Int) = true) :
    Rr t (setR f (x : Int) o) P (((w.setCell ⟨t, x * 2, none⟩ (.slice a n c)).setCell ⟨t, x * 2 + 1, none⟩ (.bool wh)).setCell ⟨t, 512 + x, none⟩ (.bool o.isSome)) ∧ Fr (On t) w (((w.setCell ⟨t, x * 2, none⟩ (.slice a n c)).setCell ⟨t, x * 2 + 1, none⟩ (.bool wh)).setCell ⟨t, 512 + x, none⟩ (.bool o.isSome)) := by
  obtain ⟨l, l1, l2⟩ := h.box
  have k : Fr (On t) w (((w.setCell ⟨t, x * 2, none⟩ (.slice a n c)).setCell ⟨t, x * 2 + 1, none⟩ (.bool wh)).setCell ⟨t, 512 + x, none⟩ (.bool o.isSome)) := ((fr_set t _ _ w).trans (fr_set t _ _ _)).trans (fr_set t _ _ _)
  refine ⟨⟨⟨_, ((l1.set _ _).set _ _).set _ _, (l2.put hx fun r hr => ⟨(ho r hr).1, (ho r hr).2.1⟩).map_ fun v ls hs => hs.off l1 l2.nostr k⟩, fun y r hy => ?_, fun y r hy => ?_⟩, k⟩
  · unfold setR at hy
    split at hy
    · rename_i e; rw [e]; exact (ho r hy).2.2.2.2
    · exact h.dom y r hy
  · unfold setR at hy
    split at hy
    · exact ⟨(ho r hy).2.2.1, (ho r hy).2.2.2.1⟩
    · exact h.ok y r hy
set_option maxHeartbeats 4000000 in
theorem rset_any (h : Rr t f P w) {x : Nat} (hx : x < 256) {a : Option Addr} {n c : Nat} (hv : Sl P (.slice a n c) r.ls w) (hr : r.ls ≠ [] ∧ szL r.ls ≤ 20000) (hnm : nmB (x : Int) = true) :
    Calls Try.prog 36 #[.pointer (some ⟨t, 0, none⟩), .int .u8 (x : Int), .agg #[.slice a n c, .bool r.wh]] w fun e w' => e = .returned (.tuple #[]) ∧ Rr t (setR f (x : Int) (some r)) P w' ∧ Fr (On t) w w' := by
  obtain ⟨W1, hW1⟩ : ∃ W1, w.alloc (.cells #[.slice a n c, .bool r.wh] 24) = W1 := ⟨_, rfl⟩
  have k1 : Kp w W1 := by rw [← hW1]; exact kp_alloc _ _
  have b5 : Lc 24 w.heap.size [.slice a n c, .bool r.wh] W1 := by rw [← hW1]; exact Lc.new w _ _
  have h1 := h.kp k1
  obtain ⟨a0, n0, c0, wh0, ⟨y1, y2⟩, y3, y4, _⟩ := h1.dlc hx
  have z1 := y4 (x * 2)
  have z2 := y4 (x * 2 + 1)
  have z3 := y4 (512 + x)
  have HP := h1.put hx (a := a) (n := n) (c := c) (wh := r.wh) (o := some r) fun q hq => by cases hq; exact ⟨rfl, hv.kp k1, hr.1, hr.2, hnm⟩
  have HQ : Hid (Rr t (setR f (x : Int) (some r)) P (((W1.setCell ⟨t, x * 2, none⟩ (.slice a n c)).setCell ⟨t, x * 2 + 1, none⟩ (.bool r.wh)).setCell ⟨t, 512 + x, none⟩ (.bool true)).drew ∧ Fr (On t) w (((W1.setCell ⟨t, x * 2, none⟩ (.slice a n c)).setCell ⟨t, x * 2 + 1, none⟩ (.bool r.wh)).setCell ⟨t, 512 + x, none⟩ (.bool true)).drew) := ⟨HP.1.kp (kp_drew _), ((Fr.of_below k1).trans HP.2).trans (Fr.of_below (kp_drew _))⟩
  have u1 := b5.at (j := 0) rfl
  have u2 := b5.at (j := 1) rfl
  have hx2 : (x : Int) < 256 := by omega
  obtain ⟨l0, l1, _⟩ := h1.box
  have hne : w.heap.size ≠ t := lc_ne b5 l1 (by decide)
  obtain ⟨b0, hb0⟩ : ∃ b0 : Bool, (f (x : Int)).isSome = b0 := ⟨_, rfl⟩
  rw [hb0] at y3
  have HW : Hid (_ = W1) := hW1
  clear h hv hr hnm hW1 k1 b5 h1 HP y4 l1 hb0
  go_enter Try.func36, Try.ntmps36
  go_upto_region 1 with fail
  rw [HW.out]
  clear HW
  refine wp_region_noPanic ?_
  refine wp_region_held_drew (S := fun z => z.cell? ⟨w.heap.size, 0, none⟩ = some (.slice a n c) ∧ z.cell? ⟨w.heap.size, 1, none⟩ = some (.bool r.wh)) (by kernel_rfl) (⟨u1, u2⟩) (fun hHeld => ?_)
  refine takeAt 0 (some 6) ?_ rfl rfl (by kernel_rfl) (by kernel_rfl) (by kernel_rfl) (fun _ _ _ h => h) (Or.inl ⟨by rfl, ?_⟩) hHeld ?_
  rotate_left
  · intro w hSw
    go_simp <;> with_reducible rfl
  try simp only [Act.put, List.setIfInBounds_toArray, List.set_cons_zero, List.set_cons_succ]
  refine takeAt 1 (some 7) ?_ rfl rfl (by kernel_rfl) (by kernel_rfl) (by kernel_rfl) (fun _ _ _ h => h) (Or.inl ⟨by rfl, ?_⟩) hHeld ?_
  rotate_left
  · intro w hSw
    go_simp <;> with_reducible rfl
  try simp only [Act.put, List.setIfInBounds_toArray, List.set_cons_zero, List.set_cons_succ]
  refine takeAt 2 (some 8) ?_ rfl rfl (by kernel_rfl) (by kernel_rfl) (by kernel_rfl) (fun _ _ _ h => h) (Or.inl ⟨by rfl, ?_⟩) hHeld ?_
  rotate_left
  · intro w hSw
    go_simp <;> with_reducible rfl
  try simp only [Act.put, List.setIfInBounds_toArray, List.set_cons_zero, List.set_cons_succ]
  refine takeAt 3 (some 9) ?_ rfl rfl (by kernel_rfl) (by kernel_rfl) (by kernel_rfl) (fun _ _ _ h => h) (Or.inl ⟨by rfl, ?_⟩) hHeld ?_
  rotate_left
  · intro w hSw
    go_simp <;> with_reducible rfl
  try simp only [Act.put, List.setIfInBounds_toArray, List.set_cons_zero, List.set_cons_succ]
  refine takeAt 4 (some 10) ?_ rfl rfl (by kernel_rfl) (by kernel_rfl) (by kernel_rfl) (fun _ _ _ h => h) (Or.inl ⟨by rfl, ?_⟩) hHeld ?_
  rotate_left
  · intro w hSw
    go_simp <;> with_reducible rfl
  try simp only [Act.put, List.setIfInBounds_toArray, List.set_cons_zero, List.set_cons_succ]
  refine takeAt 5 (some 11) ?_ rfl rfl (by kernel_rfl) (by kernel_rfl) (by kernel_rfl) (fun _ _ _ h => h) (Or.inl ⟨by rfl, ?_⟩) hHeld ?_
  rotate_left
  · intro w hSw
    go_simp <;> with_reducible rfl
  try simp only [Act.put, List.setIfInBounds_toArray, List.set_cons_zero, List.set_cons_succ]
  refine wpAnyH_ready (rs := [6]) (by kernel_rfl) (by simp) ?_
  refine AllReadyH.cons rfl (fun K hK => ?_) AllReadyH.nil
  go_simp
  refine hK.out _ _ (⟨(cell_so (a := ⟨w.heap.size, 0, none⟩) hne).trans ((cell_so (a := ⟨w.heap.size, 0, none⟩) hne).trans u1), (cell_so (a := ⟨w.heap.size, 1, none⟩) hne).trans ((cell_so (a := ⟨w.heap.size, 1, none⟩) hne).trans u2)⟩) (fun hHeld => ?_)
  clear hK K
  try simp only [Act.put, List.setIfInBounds_toArray, List.set_cons_zero, List.set_cons_succ]
  refine wpAnyH_done (by kernel_rfl) ?_ _
  refine NoPanic.normal ?_
  go_wp2_with fail
  go_end0
  exact ⟨rfl, HQ.out⟩
end
end Go.Proofs.Ytbnlenanfhggiaa
/- The document's registers: New, lay. -/
namespace Go.Proofs.Ytbnlenanfhggiaa
open Go.ChangeShapes Go.WideShapes Go.ChangeAt Go.RowKit Go.Maps Go.MapKept
set_option linter.unusedVariables false
set_option linter.unusedSimpArgs false
set_option maxRecDepth 100000
/-- The box as it is first. -/
def zR : List Value := (List.replicate 256 [Value.slice none 0 0, Value.bool false]).flatten ++ List.replicate 256 (Value.bool false)
theorem rep_two (p q : Value) : ∀ (k x : Nat), x < k → ((List.replicate k [p, q]).flatten)[x * 2]? = some p ∧ ((List.replicate k [p, q]).flatten)[x * 2 + 1]? = some q
  | 0, x, h => by omega
  | k + 1, 0, _ => ⟨rfl, rfl⟩
  | k + 1, x + 1, h => by
    have e : (List.replicate (k + 1) [p, q]).flatten = p :: q :: (List.replicate k [p, q]).flatten := by rw [List.replicate_succ]; rfl
    have := rep_two p q k x (by omega)
    rw [e]
    have e1 : (x + 1) * 2 = x * 2 + 1 + 1 := by omega
    rw [e1, List.getElem?_cons_succ, List.getElem?_cons_succ, List.getElem?_cons_succ, List.getElem?_cons_succ]
    exact this
theorem zR_len : ((List.replicate 256 [Value.slice none 0 0, Value.bool false]).flatten).length = 512 := by simp
theorem zR_ok (P : Nat → Prop) (w : World) : Rl zR (fun _ => none) P w := by
  refine ⟨by simp [zR], fun x hx => ?_⟩
  have h := rep_two (.slice none 0 0) (.bool false) 256 x hx
  refine ⟨none, 0, 0, false, ?_, ?_, ?_, fun r hr => by cases hr⟩
  · unfold zR; rw [List.getElem?_append_left (by rw [zR_len]; omega)]; exact h.1
  · unfold zR; rw [List.getElem?_append_left (by rw [zR_len]; omega)]; exact h.2
  · unfold zR; rw [List.getElem?_append_right (by rw [zR_len]; omega), zR_len]
    have : 512 + x - 512 = x := by omega
    rw [this, List.getElem?_replicate, if_pos hx]; rfl
section
variable {t b : Nat} {f : Rf} {P Q : Nat → Prop} {w w1 : World} {v : Value} {r : Rv} {l : List Value}
set_option maxHeartbeats 4000000 in
theorem rnew_any (P : Nat → Prop) (w : World) : Calls Try.prog 17 #[] w fun e w' => ∃ t, e = .returned (.pointer (some ⟨t, 0, none⟩)) ∧ Rr t (fun _ => none) P w' ∧ Kp w w' ∧ w.heap.size ≤ t := by
  have hz : Try.zeroCells67 = zR.toArray := by kernel_rfl
  have HZ : Hid (Rr w.heap.size (fun _ => none) P (w.alloc (.cells Try.zeroCells67 67))) := by
    rw [hz]
    exact ⟨⟨zR, Lc.new w zR 67, zR_ok _ _⟩, (fun _ _ h => by cases h), (fun _ _ h => by cases h)⟩
  clear hz
  go_enter Try.func17, Try.ntmps17
  go_wp2_with fail
  go_ret
  exact ⟨_, rfl, HZ.out, kp_alloc _ _, Nat.le_refl _⟩
set_option maxHeartbeats 4000000 in
theorem rlay_no (x : Int) (hk : kwB x = false) (a : Option Addr) (n c : Nat) (bb : Bool) :
    Calls Try.prog 35 #[.pointer (some ⟨t, 0, none⟩), .int .u8 x, .agg #[.slice a n c, .bool bb]] w fun e w' => e = .returned (.int .i64 110) ∧ Kp w w' := by
  have HK : Hid (∀ w, Calls Try.prog 19 #[.int .u8 x] w fun e w' => e = .returned (.bool (kwB x)) ∧ Kp w w') := rrknown_any x
  rw [hk] at HK
  clear hk
  go_enter Try.func35, Try.ntmps35
  go_wp2_with fail
  refine Calls.mono (HK.out _) ?_
  rintro e w1 ⟨rfl, k1⟩
  go_wp2_with fail
  go_ret
  exact ⟨rfl, kp_trans (kp_alloc _ _) k1⟩
set_option maxHeartbeats 4000000 in
theorem rlay_nowhere (a : Option Addr) (n c : Nat) (bb : Bool) :
    Calls Try.prog 35 #[.pointer (some ⟨t, 0, none⟩), .int .u8 95, .agg #[.slice a n c, .bool bb]] w fun e w' => e = .returned (.int .i64 0) ∧ Kp w w' := by
  have HK : Hid (∀ w, Calls Try.prog 19 #[.int .u8 95] w fun e w' => e = .returned (.bool (kwB 95)) ∧ Kp w w') := rrknown_any 95
  have hk : kwB 95 = true := by simp [kwB]
  rw [hk] at HK
  clear hk
  go_enter Try.func35, Try.ntmps35
  go_wp2_with fail
  refine Calls.mono (HK.out _) ?_
  rintro e w1 ⟨rfl, k1⟩
  go_wp2_with fail
  go_ret
  exact ⟨rfl, kp_trans (kp_alloc _ _) k1⟩
set_option maxHeartbeats 8000000 in
theorem rlay_some (h : Rr t f P w) (hP : ∀ k, w.heap.size ≤ k → P k) {x : Nat} (hx : x < 256) (hk : kwB (x : Int) = true) (h95 : (x : Int) ≠ 95) {a : Option Addr} {n c : Nat} (hv : Sl P (.slice a n c) (ownR r).ls w) (hz : szL (ownR r).ls ≤ 1048577) :
    Calls Try.prog 35 #[.pointer (some ⟨t, 0, none⟩), .int .u8 (x : Int), .agg #[.slice a n c, .bool (ownR r).wh]] w fun e w' => e = .returned (.int .i64 (if szL (isR f (x : Int) r).ls ≤ 20000 then 0 else 112)) ∧ Rr t (if szL (isR f (x : Int) r).ls ≤ 20000 then setR (setR f (smI (x : Int)) (some (isR f (x : Int) r))) 34 (some (isR f (x : Int) r)) else f) P w' ∧ Fr (On t) w w' := by
  obtain ⟨R, hR⟩ : ∃ R, isR f (x : Int) r = R := ⟨_, rfl⟩
  obtain ⟨X0, hX0⟩ : ∃ X0 : Nat, smI (x : Int) = (X0 : Int) := ⟨(smI (x : Int)).toNat, by have := sm_in (x := (x : Int)) (by omega) (by omega); omega⟩
  have hXb : X0 < 256 := by have := sm_in (x := (x : Int)) (by omega) (by omega); omega
  have hXn : nmB (X0 : Int) = true := by rw [← hX0]; exact sm_nm hk h95
  rw [hR, hX0]
  obtain ⟨E, hE⟩ : ∃ E : Int, (if szL R.ls ≤ 20000 then (0 : Int) else 112) = E := ⟨_, rfl⟩
  obtain ⟨F, hF⟩ : ∃ F : Rf, (if szL R.ls ≤ 20000 then setR (setR f (X0 : Int) (some R)) 34 (some R) else f) = F := ⟨_, rfl⟩
  rw [hE, hF]
  have HEF : Hid ((if szL R.ls ≤ 20000 then (0 : Int) else 112) = E ∧ (if szL R.ls ≤ 20000 then setR (setR f (X0 : Int) (some R)) 34 (some R) else f) = F ∧ R.ls ≠ [] ∧ nmB (X0 : Int) = true) := ⟨hE, hF, by rw [← hR]; exact isR_ne _ _ _, hXn⟩
  have HK : Hid (∀ w, Calls Try.prog 19 #[.int .u8 (x : Int)] w fun e w' => e = .returned (.bool (kwB (x : Int))) ∧ Kp w w') := rrknown_any _
  rw [hk] at HK
  have HS : Hid (∀ X, Calls Try.prog 37 #[.int .u8 (x : Int)] X fun e w' => e = .returned (.int .u8 (X0 : Int)) ∧ w' = X) := fun X => by rw [← hX0]; exact rSmall_any _ X
  have d1 : ((x : Int) == 95) = false := by simpa using h95
  have HH : Hid (Rr t f P w ∧ (∀ k, w.heap.size ≤ k → P k)) := ⟨h, hP⟩
  obtain ⟨bw, hbw⟩ : ∃ bw, (ownR r).wh = bw := ⟨_, rfl⟩
  have HO : Hid (Sl P (.slice a n c) (ownR r).ls w ∧ (ownR r).wh = bw ∧ szL (ownR r).ls ≤ 1048577 ∧ isR f (x : Int) r = R ∧ smI (x : Int) = (X0 : Int)) := ⟨hv, hbw, hz, hR, hX0⟩
  rw [hbw]
  clear hv hbw hE hF hXn hz
  have hgo : ∀ z : World, True := fun _ => trivial
  go_enter Try.func35, Try.ntmps35
  go_wp2_with fail
  refine Calls.mono (HK.out _) ?_
  rintro e w1 ⟨rfl, k1⟩
  have b5 : Lc 24 w.heap.size [.slice a n c, .bool bw] w1 := (Lc.new w [.slice a n c, .bool bw] 24).kp k1
  have HW1 : Hid (Kp w w1 ∧ Lc 24 w.heap.size [.slice a n c, .bool bw] w1) := ⟨kp_trans (kp_alloc _ _) k1, b5⟩
  clear HK k1 b5 hgo
  go_wp2_with fail
  refine Calls.mono (HS.out _) ?_
  rintro e w2 ⟨rfl, e2⟩
  rw [e2]
  clear e2 HS
  by_cases hsx : (X0 : Int) = (x : Int)
  · have d2 : ((X0 : Int) != (x : Int)) = false := by simp [hsx]
    have HX : Hid (Lc 24 w.heap.size [.slice a n c, .bool R.wh] w1 ∧ Sl P (.slice a n c) R.ls w1 ∧ Kp w w1 ∧ szL R.ls ≤ 4194304) := by
      have e : ownR r = R := by rw [← HO.out.2.2.2.1]; unfold isR; rw [if_pos (by rw [HO.out.2.2.2.2]; exact hsx)]
      have hh := HO.out
      rw [e] at hh
      exact ⟨by rw [hh.2.1]; exact HW1.out.2, hh.1.kp HW1.out.1, HW1.out.1, by have := hh.2.2.1; omega⟩
    clear hsx hR hX0 h hP hk h95 HO HW1
    have ff1 := HX.out.1.at (j := 0) rfl
    have ff2 := HX.out.1.at (j := 1) rfl
    have HFt : Hid (Calls Try.prog 51 #[.agg #[.slice a n c, .bool R.wh]] w1 fun e w' => e = .returned (.int .i64 (szL R.ls : Int)) ∧ Kp w1 w') := rsize_any (r := R) HX.out.2.1 HX.out.2.2.2
    go_wp2_with fail
    refine Calls.mono HFt.out ?_
    rintro e x1 ⟨rfl, kx1⟩
    replace HX : Hid (Lc 24 w.heap.size [.slice a n c, .bool R.wh] x1 ∧ Sl P (.slice a n c) R.ls x1 ∧ Kp w x1) := ⟨HX.out.1.kp kx1, HX.out.2.1.kp kx1, kp_trans HX.out.2.2.1 kx1⟩
    clear HFt ff1 ff2 kx1
    by_cases hz : szL R.ls ≤ 20000
    · have HV : Hid (E = 0) := by rw [← HEF.out.1]; exact if_pos hz
      have e1 : decide ((szL R.ls : Int) > 20000) = false := decide_eq_false (by omega)
      have e2 : decide ((20000 : Int) < (szL R.ls : Int)) = false := decide_eq_false (by omega)
      have HC1 : Hid (Calls Try.prog 36 #[.pointer (some ⟨t, 0, none⟩), .int .u8 (X0 : Int), .agg #[.slice a n c, .bool R.wh]] x1 fun e w' => e = .returned (.tuple #[]) ∧ Hid (Rr t (setR f (X0 : Int) (some R)) P w' ∧ Fr (On t) x1 w' ∧ Lc 24 w.heap.size [.slice a n c, .bool R.wh] w' ∧ Sl P (.slice a n c) R.ls w')) := by
        have hrr := HH.out.1.kp HX.out.2.2
        refine (rset_any hrr hXb HX.out.2.1 ⟨HEF.out.2.2.1, hz⟩ HEF.out.2.2.2).mono ?_
        rintro e w' ⟨he, q1, q2⟩
        exact ⟨he, q1, q2, hrr.box_off HX.out.1 (by decide) q2, hrr.sl_off HX.out.2.1 q2⟩
      have HC2 : Hid (∀ x2, Rr t (setR f (X0 : Int) (some R)) P x2 → Fr (On t) x1 x2 → Sl P (.slice a n c) R.ls x2 → Calls Try.prog 36 #[.pointer (some ⟨t, 0, none⟩), .int .u8 34, .agg #[.slice a n c, .bool R.wh]] x2 fun e w' => e = .returned (.tuple #[]) ∧ Hid (Rr t F P w' ∧ Fr (On t) w w')) := fun x2 hrr hf hsl => by
        refine (rset_any (x := 34) hrr (by omega) hsl ⟨HEF.out.2.2.1, hz⟩ (by simp [nmB])).mono ?_
        rintro e w' ⟨he, q1, q2⟩
        refine ⟨he, ?_, ((Fr.of_below HX.out.2.2).trans hf).trans q2⟩
        rw [← HEF.out.2.1, if_pos hz]; exact q1
      have v1 := HX.out.1.at (j := 0) rfl
      have v2 := HX.out.1.at (j := 1) rfl
      clear HX HH HEF hz
      go_wp2_with fail
      refine Calls.mono HC1.out ?_
      rintro e x2 ⟨rfl, H2⟩
      have v3 := H2.out.2.2.1.at (j := 0) rfl
      have v4 := H2.out.2.2.1.at (j := 1) rfl
      have HC3 : Hid _ := HC2.out x2 H2.out.1 H2.out.2.1 H2.out.2.2.2
      clear HC1 HC2 H2 v1 v2
      go_wp2_with fail
      refine Calls.mono HC3.out ?_
      rintro e x3 ⟨rfl, H3⟩
      clear HC3 v3 v4
      go_wp2_with fail
      go_ret
      exact ⟨by rw [HV.out]; rfl, H3.out⟩
    · have HV : Hid (E = 112) := by rw [← HEF.out.1]; exact if_neg hz
      have e1 : decide ((szL R.ls : Int) > 20000) = true := decide_eq_true (by omega)
      have e2 : decide ((20000 : Int) < (szL R.ls : Int)) = true := decide_eq_true (by omega)
      have HE : Hid (Rr t F P x1 ∧ Fr (On t) w x1) := ⟨by rw [← HEF.out.2.1, if_neg hz]; exact HH.out.1.kp HX.out.2.2, Fr.of_below HX.out.2.2⟩
      clear hz HX HH HEF
      go_wp2_with fail
      go_ret
      exact ⟨by rw [HV.out]; rfl, HE.out⟩
  · have d2 : ((X0 : Int) != (x : Int)) = true := by simp; omega
    cases hfo : f (X0 : Int) with
    | none =>
      have HX : Hid (Lc 24 w.heap.size [.slice a n c, .bool R.wh] w1 ∧ Sl P (.slice a n c) R.ls w1 ∧ Kp w w1 ∧ szL R.ls ≤ 4194304) := by
        have e : ownR r = R := by rw [← HO.out.2.2.2.1]; unfold isR; rw [if_neg (by rw [HO.out.2.2.2.2]; exact hsx), HO.out.2.2.2.2, hfo]
        have hh := HO.out
        rw [e] at hh
        exact ⟨by rw [hh.2.1]; exact HW1.out.2, hh.1.kp HW1.out.1, HW1.out.1, by have := hh.2.2.1; omega⟩
      obtain ⟨_, _, _, _, _, y3, _, _⟩ := (HH.out.1.kp HW1.out.1).dlc hXb
      rw [hfo] at y3
      have hxi : (X0 : Int) < 256 := by omega
      simp only [Option.isSome_none] at y3
      clear hsx hR hX0 h hP hk h95 HO HW1 hfo
      go_upto_region 9 with fail
      clear y3
      have ff1 := HX.out.1.at (j := 0) rfl
      have ff2 := HX.out.1.at (j := 1) rfl
      have HFt : Hid (Calls Try.prog 51 #[.agg #[.slice a n c, .bool R.wh]] w1 fun e w' => e = .returned (.int .i64 (szL R.ls : Int)) ∧ Kp w1 w') := rsize_any (r := R) HX.out.2.1 HX.out.2.2.2
      go_wp2_with fail
      refine Calls.mono HFt.out ?_
      rintro e x1 ⟨rfl, kx1⟩
      replace HX : Hid (Lc 24 w.heap.size [.slice a n c, .bool R.wh] x1 ∧ Sl P (.slice a n c) R.ls x1 ∧ Kp w x1) := ⟨HX.out.1.kp kx1, HX.out.2.1.kp kx1, kp_trans HX.out.2.2.1 kx1⟩
      clear HFt ff1 ff2 kx1
      by_cases hz : szL R.ls ≤ 20000
      · have HV : Hid (E = 0) := by rw [← HEF.out.1]; exact if_pos hz
        have e1 : decide ((szL R.ls : Int) > 20000) = false := decide_eq_false (by omega)
        have e2 : decide ((20000 : Int) < (szL R.ls : Int)) = false := decide_eq_false (by omega)
        have HC1 : Hid (Calls Try.prog 36 #[.pointer (some ⟨t, 0, none⟩), .int .u8 (X0 : Int), .agg #[.slice a n c, .bool R.wh]] x1 fun e w' => e = .returned (.tuple #[]) ∧ Hid (Rr t (setR f (X0 : Int) (some R)) P w' ∧ Fr (On t) x1 w' ∧ Lc 24 w.heap.size [.slice a n c, .bool R.wh] w' ∧ Sl P (.slice a n c) R.ls w')) := by
          have hrr := HH.out.1.kp HX.out.2.2
          refine (rset_any hrr hXb HX.out.2.1 ⟨HEF.out.2.2.1, hz⟩ HEF.out.2.2.2).mono ?_
          rintro e w' ⟨he, q1, q2⟩
          exact ⟨he, q1, q2, hrr.box_off HX.out.1 (by decide) q2, hrr.sl_off HX.out.2.1 q2⟩
        have HC2 : Hid (∀ x2, Rr t (setR f (X0 : Int) (some R)) P x2 → Fr (On t) x1 x2 → Sl P (.slice a n c) R.ls x2 → Calls Try.prog 36 #[.pointer (some ⟨t, 0, none⟩), .int .u8 34, .agg #[.slice a n c, .bool R.wh]] x2 fun e w' => e = .returned (.tuple #[]) ∧ Hid (Rr t F P w' ∧ Fr (On t) w w')) := fun x2 hrr hf hsl => by
          refine (rset_any (x := 34) hrr (by omega) hsl ⟨HEF.out.2.2.1, hz⟩ (by simp [nmB])).mono ?_
          rintro e w' ⟨he, q1, q2⟩
          refine ⟨he, ?_, ((Fr.of_below HX.out.2.2).trans hf).trans q2⟩
          rw [← HEF.out.2.1, if_pos hz]; exact q1
        have v1 := HX.out.1.at (j := 0) rfl
        have v2 := HX.out.1.at (j := 1) rfl
        clear HX HH HEF hz
        go_wp2_with fail
        refine Calls.mono HC1.out ?_
        rintro e x2 ⟨rfl, H2⟩
        have v3 := H2.out.2.2.1.at (j := 0) rfl
        have v4 := H2.out.2.2.1.at (j := 1) rfl
        have HC3 : Hid _ := HC2.out x2 H2.out.1 H2.out.2.1 H2.out.2.2.2
        clear HC1 HC2 H2 v1 v2
        go_wp2_with fail
        refine Calls.mono HC3.out ?_
        rintro e x3 ⟨rfl, H3⟩
        clear HC3 v3 v4
        go_wp2_with fail
        go_ret
        exact ⟨by rw [HV.out]; rfl, H3.out⟩
      · have HV : Hid (E = 112) := by rw [← HEF.out.1]; exact if_neg hz
        have e1 : decide ((szL R.ls : Int) > 20000) = true := decide_eq_true (by omega)
        have e2 : decide ((20000 : Int) < (szL R.ls : Int)) = true := decide_eq_true (by omega)
        have HE : Hid (Rr t F P x1 ∧ Fr (On t) w x1) := ⟨by rw [← HEF.out.2.1, if_neg hz]; exact HH.out.1.kp HX.out.2.2, Fr.of_below HX.out.2.2⟩
        clear hz HX HH HEF
        go_wp2_with fail
        go_ret
        exact ⟨by rw [HV.out]; rfl, HE.out⟩
    | some q =>
      obtain ⟨qa, qn, qc, qw, ⟨y1, y2⟩, y3, _, hq⟩ := (HH.out.1.kp (kp_trans HW1.out.1 (kp_drew _))).dlc hXb
      obtain ⟨rfl, hqs⟩ := hq q hfo
      rw [hfo] at y3
      simp only [Option.isSome_some] at y3
      have y3' : w1.cell? ⟨t, 512 + X0, none⟩ = some (.bool true) := y3
      have hxi : (X0 : Int) < 256 := by omega
      have hRR : addR q (ownR r) = R := by rw [← HO.out.2.2.2.1]; unfold isR; rw [if_neg (by rw [HO.out.2.2.2.2]; exact hsx), HO.out.2.2.2.2, hfo]
      have hok := HH.out.1.ok _ _ hfo
      have hl1 := szL_len q.ls
      have hl2 := szL_len (ownR r).ls
      have hsz : (q.ls[q.ls.length - 1]?.getD emp).size + ((ownR r).ls[0]?.getD emp).size ≤ 9223372036854775807 := by
        have e1 : (q.ls[q.ls.length - 1]?.getD emp).size ≤ 20000 := by
          cases p : q.ls[q.ls.length - 1]? with
          | none => simp [emp, ByteArray.size]
          | some s0 =>
            have := szL_take q.ls p
            have h2 := szL_le q.ls (q.ls.length - 1 + 1)
            show s0.size ≤ _
            omega
        have e2 : ((ownR r).ls[0]?.getD emp).size ≤ 1048577 := by
          cases p : (ownR r).ls[0]? with
          | none => simp [emp, ByteArray.size]
          | some s0 =>
            have := szL_take (ownR r).ls p
            have h2 := szL_le (ownR r).ls (0 + 1)
            have := HO.out.2.2.1
            show s0.size ≤ _
            omega
        omega
      have HAD : Hid (Calls Try.prog 50 #[.agg #[.slice qa qn qc, .bool q.wh], .agg #[.slice a n c, .bool bw]] w1.drew fun e w' => ∃ a2 n2 c2, e = .returned (.agg #[.slice a2 n2 c2, .bool R.wh]) ∧ Hid (Sl P (.slice a2 n2 c2) R.ls w' ∧ Kp w1.drew w')) := by
        have k := kp_trans HW1.out.1 (kp_drew w1)
        have hob := HO.out.2.1
        rw [← hob]
        refine (radded_any hqs (HO.out.1.kp k) hok.1 (ownR_ne r) (by have := HO.out.2.2.1; omega) hsz).mono ?_
        rintro e w' ⟨v', he, q1, q2⟩
        rw [hRR] at he q1
        obtain ⟨a2, c2, rfl, _⟩ := q1.form
        exact ⟨a2, _, c2, he, (Sl.of_row q1).mono fun j _ hj => hP j (Nat.le_trans k.size hj), q2⟩
      have HRL : Hid (szL R.ls ≤ 4194304) := by
        have hh := HO.out.2.2.1
        show _ ≤ _
        rw [← hRR]; unfold addR
        rw [if_neg hok.1]
        split
        · show szL (q.ls ++ (ownR r).ls) ≤ _
          rw [szL_app]; omega
        · show szL (q.ls.take (q.ls.length - 1) ++ (seam q.ls (ownR r).ls :: (ownR r).ls.drop 1)) ≤ _
          have e1 := szL_le q.ls (q.ls.length - 1)
          have e2 : szL ((ownR r).ls.drop 1) ≤ szL (ownR r).ls := by
            have : szL (ownR r).ls = szL ((ownR r).ls.take 1) + szL ((ownR r).ls.drop 1) := by rw [← szL_app, List.take_append_drop]
            omega
          have e3 : (seam q.ls (ownR r).ls).size ≤ 1200000 := by
            unfold seam
            rw [ByteArray.size_append]
            have a1 : (q.ls[q.ls.length - 1]?.getD emp).size ≤ 20000 := by
              cases p : q.ls[q.ls.length - 1]? with
              | none => simp [emp, ByteArray.size]
              | some s0 =>
                have := szL_take q.ls p
                have h2 := szL_le q.ls (q.ls.length - 1 + 1)
                show s0.size ≤ _
                omega
            have a2 : ((ownR r).ls[0]?.getD emp).size ≤ 1048577 := by
              cases p : (ownR r).ls[0]? with
              | none => simp [emp, ByteArray.size]
              | some s0 =>
                have := szL_take (ownR r).ls p
                have h2 := szL_le (ownR r).ls (0 + 1)
                show s0.size ≤ _
                omega
            omega
          rw [szL_app]
          have : szL (seam q.ls (ownR r).ls :: (ownR r).ls.drop 1) = (seam q.ls (ownR r).ls).size + 1 + szL ((ownR r).ls.drop 1) := by simp [szL]
          omega
      have b5 := HW1.out.2.kp (kp_drew w1)
      have u1 := b5.at (j := 0) rfl
      have u2 := b5.at (j := 1) rfl
      obtain ⟨l0, lt0, _⟩ := (HH.out.1.kp (kp_trans HW1.out.1 (kp_drew w1))).box
      have hne : t ≠ w.heap.size := fun e => lc_ne lt0 b5 (by decide) e
      have HB5 : Hid (Lc 24 w.heap.size [.slice a n c, .bool bw] w1.drew ∧ Kp w w1.drew) := ⟨b5, kp_trans HW1.out.1 (kp_drew w1)⟩
      clear hsx hR hX0 h hP hk h95 HO hfo hqs hRR hok hl1 hl2 hsz b5 lt0 HW1
      go_upto_region 8 with fail
      refine wp_region_noPanic ?_
      refine wp_region_held_drew (S := fun z => z.cell? ⟨t, X0 * 2, none⟩ = some (.slice qa qn qc) ∧ z.cell? ⟨t, X0 * 2 + 1, none⟩ = some (.bool q.wh)) (by kernel_rfl) (⟨y1, y2⟩) (fun hHeld => ?_)
      refine takeAt 0 (some 28) ?_ rfl rfl (by kernel_rfl) (by kernel_rfl) (by kernel_rfl) (fun _ _ _ h => h) (Or.inl ⟨by rfl, ?_⟩) hHeld ?_
      rotate_left
      · intro w hSw
        go_simp <;> with_reducible rfl
      try simp only [Act.put, List.setIfInBounds_toArray, List.set_cons_zero, List.set_cons_succ]
      refine takeAt 1 (some 29) ?_ rfl rfl (by kernel_rfl) (by kernel_rfl) (by kernel_rfl) (fun _ _ _ h => h) (Or.inl ⟨by rfl, ?_⟩) hHeld ?_
      rotate_left
      · intro w hSw
        go_simp <;> with_reducible rfl
      try simp only [Act.put, List.setIfInBounds_toArray, List.set_cons_zero, List.set_cons_succ]
      refine takeAt 2 (some 30) ?_ rfl rfl (by kernel_rfl) (by kernel_rfl) (by kernel_rfl) (fun _ _ _ h => h) (Or.inl ⟨by rfl, ?_⟩) hHeld ?_
      rotate_left
      · intro w hSw
        go_simp <;> with_reducible rfl
      try simp only [Act.put, List.setIfInBounds_toArray, List.set_cons_zero, List.set_cons_succ]
      refine takeAt 3 (some 31) ?_ rfl rfl (by kernel_rfl) (by kernel_rfl) (by kernel_rfl) (fun _ _ _ h => h) (Or.inl ⟨by rfl, ?_⟩) hHeld ?_
      rotate_left
      · intro w hSw
        go_simp <;> with_reducible rfl
      try simp only [Act.put, List.setIfInBounds_toArray, List.set_cons_zero, List.set_cons_succ]
      refine takeAt 4 (some 32) ?_ rfl rfl (by kernel_rfl) (by kernel_rfl) (by kernel_rfl) (fun _ _ _ h => h) (Or.inl ⟨by rfl, ?_⟩) hHeld ?_
      rotate_left
      · intro w hSw
        go_simp <;> with_reducible rfl
      try simp only [Act.put, List.setIfInBounds_toArray, List.set_cons_zero, List.set_cons_succ]
      refine takeAt 5 (some 33) ?_ rfl rfl (by kernel_rfl) (by kernel_rfl) (by kernel_rfl) (fun _ _ _ h => h) (Or.inl ⟨by rfl, ?_⟩) hHeld ?_
      rotate_left
      · intro w hSw
        go_simp <;> with_reducible rfl
      try simp only [Act.put, List.setIfInBounds_toArray, List.set_cons_zero, List.set_cons_succ]
      refine wpAnyH_ready (rs := [6]) (by kernel_rfl) (by simp) ?_
      refine AllReadyH.cons rfl (fun K hK => ?_) AllReadyH.nil
      go_simp
      refine hK.out _ _ (⟨y1, y2⟩) (fun hHeld => ?_)
      clear hK K
      try simp only [Act.put, List.setIfInBounds_toArray, List.set_cons_zero, List.set_cons_succ]
      refine callAt 7 35 50 (vals := #[.agg #[.slice qa qn qc, .bool q.wh], .agg #[.slice a n c, .bool bw]]) (by kernel_rfl) rfl rfl rfl rfl (by simp [Act.eval]) Try.func50 (by kernel_rfl) (by kernel_rfl) ?_
      refine Calls.mono (HAD.out) ?_
      rintro e w4 ⟨a2, n2, c2, rfl, qq⟩
      have b9 := HB5.out.1.kp qq.out.2
      have hk4 : Kp w w4 := kp_trans HB5.out.2 qq.out.2
      have HX0 : Hid _ := box_sl (p := .slice a2 n2 c2) (q := R.wh) b9 qq.out.1 hk4 (Nat.le_refl _)
      have y5 := b9.at (j := 0) rfl
      have y6 := b9.at (j := 1) rfl
      have y7 := b9.fz 0
      have y8 := b9.fz 1
      have hS4 := And.intro (kp_cell qq.out.2 y1) (kp_cell qq.out.2 y2)
      clear qq b9 HAD HB5
      refine ⟨_, rfl, hS4, fun hHeld => ?_⟩
      try simp only [Act.put, List.setIfInBounds_toArray, List.set_cons_zero, List.set_cons_succ]
      refine wpAnyH_ready (rs := [8]) (by kernel_rfl) (by simp) ?_
      refine AllReadyH.cons rfl (fun K hK => ?_) AllReadyH.nil
      go_simp
      refine hK.out _ _ (⟨(cell_so (a := ⟨t, X0 * 2, none⟩) hne).trans ((cell_so (a := ⟨t, X0 * 2, none⟩) hne).trans hS4.1), (cell_so (a := ⟨t, X0 * 2 + 1, none⟩) hne).trans ((cell_so (a := ⟨t, X0 * 2 + 1, none⟩) hne).trans hS4.2)⟩) (fun hHeld => ?_)
      clear hK K
      try simp only [Act.put, List.setIfInBounds_toArray, List.set_cons_zero, List.set_cons_succ]
      refine wpAnyH_done (by kernel_rfl) ?_ _
      refine NoPanic.normal ?_
      generalize hx9 : (w4.setCell ⟨w.heap.size, 0, none⟩ (.slice a2 n2 c2)).setCell ⟨w.heap.size, 1, none⟩ (.bool R.wh) = x9 at HX0 ⊢
      have HX : Hid (Lc 24 w.heap.size [.slice a2 n2 c2, .bool R.wh] x9 ∧ Sl P (.slice a2 n2 c2) R.ls x9 ∧ Kp w x9 ∧ szL R.ls ≤ 4194304) := ⟨HX0.out.1, HX0.out.2.1, HX0.out.2.2, HRL.out⟩
      clear hx9 HX0 HRL y1 y2 y3 y3' y5 y6 y7 y8 u1 u2
      have ff1 := HX.out.1.at (j := 0) rfl
      have ff2 := HX.out.1.at (j := 1) rfl
      have HFt : Hid (Calls Try.prog 51 #[.agg #[.slice a2 n2 c2, .bool R.wh]] x9 fun e w' => e = .returned (.int .i64 (szL R.ls : Int)) ∧ Kp x9 w') := rsize_any (r := R) HX.out.2.1 HX.out.2.2.2
      go_wp2_with fail
      refine Calls.mono HFt.out ?_
      rintro e x1 ⟨rfl, kx1⟩
      replace HX : Hid (Lc 24 w.heap.size [.slice a2 n2 c2, .bool R.wh] x1 ∧ Sl P (.slice a2 n2 c2) R.ls x1 ∧ Kp w x1) := ⟨HX.out.1.kp kx1, HX.out.2.1.kp kx1, kp_trans HX.out.2.2.1 kx1⟩
      clear HFt ff1 ff2 kx1
      by_cases hz : szL R.ls ≤ 20000
      · have HV : Hid (E = 0) := by rw [← HEF.out.1]; exact if_pos hz
        have e1 : decide ((szL R.ls : Int) > 20000) = false := decide_eq_false (by omega)
        have e2 : decide ((20000 : Int) < (szL R.ls : Int)) = false := decide_eq_false (by omega)
        have HC1 : Hid (Calls Try.prog 36 #[.pointer (some ⟨t, 0, none⟩), .int .u8 (X0 : Int), .agg #[.slice a2 n2 c2, .bool R.wh]] x1 fun e w' => e = .returned (.tuple #[]) ∧ Hid (Rr t (setR f (X0 : Int) (some R)) P w' ∧ Fr (On t) x1 w' ∧ Lc 24 w.heap.size [.slice a2 n2 c2, .bool R.wh] w' ∧ Sl P (.slice a2 n2 c2) R.ls w')) := by
          have hrr := HH.out.1.kp HX.out.2.2
          refine (rset_any hrr hXb HX.out.2.1 ⟨HEF.out.2.2.1, hz⟩ HEF.out.2.2.2).mono ?_
          rintro e w' ⟨he, q1, q2⟩
          exact ⟨he, q1, q2, hrr.box_off HX.out.1 (by decide) q2, hrr.sl_off HX.out.2.1 q2⟩
        have HC2 : Hid (∀ x2, Rr t (setR f (X0 : Int) (some R)) P x2 → Fr (On t) x1 x2 → Sl P (.slice a2 n2 c2) R.ls x2 → Calls Try.prog 36 #[.pointer (some ⟨t, 0, none⟩), .int .u8 34, .agg #[.slice a2 n2 c2, .bool R.wh]] x2 fun e w' => e = .returned (.tuple #[]) ∧ Hid (Rr t F P w' ∧ Fr (On t) w w')) := fun x2 hrr hf hsl => by
          refine (rset_any (x := 34) hrr (by omega) hsl ⟨HEF.out.2.2.1, hz⟩ (by simp [nmB])).mono ?_
          rintro e w' ⟨he, q1, q2⟩
          refine ⟨he, ?_, ((Fr.of_below HX.out.2.2).trans hf).trans q2⟩
          rw [← HEF.out.2.1, if_pos hz]; exact q1
        have v1 := HX.out.1.at (j := 0) rfl
        have v2 := HX.out.1.at (j := 1) rfl
        clear HX HH HEF hz
        go_wp2_with fail
        refine Calls.mono HC1.out ?_
        rintro e x2 ⟨rfl, H2⟩
        have v3 := H2.out.2.2.1.at (j := 0) rfl
        have v4 := H2.out.2.2.1.at (j := 1) rfl
        have HC3 : Hid _ := HC2.out x2 H2.out.1 H2.out.2.1 H2.out.2.2.2
        clear HC1 HC2 H2 v1 v2
        go_wp2_with fail
        refine Calls.mono HC3.out ?_
        rintro e x3 ⟨rfl, H3⟩
        clear HC3 v3 v4
        go_wp2_with fail
        go_ret
        exact ⟨by rw [HV.out]; rfl, H3.out⟩
      · have HV : Hid (E = 112) := by rw [← HEF.out.1]; exact if_neg hz
        have e1 : decide ((szL R.ls : Int) > 20000) = true := decide_eq_true (by omega)
        have e2 : decide ((20000 : Int) < (szL R.ls : Int)) = true := decide_eq_true (by omega)
        have HE : Hid (Rr t F P x1 ∧ Fr (On t) w x1) := ⟨by rw [← HEF.out.2.1, if_neg hz]; exact HH.out.1.kp HX.out.2.2, Fr.of_below HX.out.2.2⟩
        clear hz HX HH HEF
        go_wp2_with fail
        go_ret
        exact ⟨by rw [HV.out]; rfl, HE.out⟩
end
end Go.Proofs.Ytbnlenanfhggiaa
/- The document's registers: Yank, Cut, Get. -/
namespace Go.Proofs.Ytbnlenanfhggiaa
open Go.ChangeShapes Go.WideShapes Go.ChangeAt Go.RowKit Go.Maps Go.MapKept
set_option linter.unusedVariables false
set_option linter.unusedSimpArgs false
set_option maxRecDepth 100000
section
variable {t b : Nat} {f : Rf} {P Q : Nat → Prop} {w w1 : World} {v : Value} {r : Rv} {l : List Value}
theorem rlay_any (h : Rr t f P w) (hP : ∀ k, w.heap.size ≤ k → P k) {x : Nat} (hx : x < 256) {a : Option Addr} {n c : Nat} (hv : Sl P (.slice a n c) (ownR r).ls w) (hz : szL (ownR r).ls ≤ 1048577) :
    Calls Try.prog 35 #[.pointer (some ⟨t, 0, none⟩), .int .u8 (x : Int), .agg #[.slice a n c, .bool (ownR r).wh]] w fun e w' => e = .returned (.int .i64 (layE f (x : Int) r)) ∧ Rr t (layF f (x : Int) r) P w' ∧ Fr (On t) w w' := by
  unfold layE layF
  by_cases hk : kwB (x : Int) = true
  · by_cases h9 : (x : Int) = 95
    · obtain rfl : x = 95 := by omega
      refine (rlay_nowhere (t := t) (w := w) a _ c _).mono ?_
      rintro e w' ⟨he, k⟩
      rw [if_neg (by rw [hk]; simp), if_pos (show ((95 : Nat) : Int) = 95 from rfl), if_neg (fun e => e.2.1 rfl)]
      exact ⟨he, h.kp k, Fr.of_below k⟩
    · rw [if_neg (by rw [hk]; simp), if_neg h9]
      refine (rlay_some h hP hx hk h9 hv hz).mono ?_
      rintro e w' ⟨he, k1, k2⟩
      refine ⟨he, ?_, k2⟩
      by_cases q : szL (isR f (x : Int) r).ls ≤ 20000
      · rw [if_pos ⟨hk, h9, q⟩]; rw [if_pos q] at k1; exact k1
      · rw [if_neg fun e => q e.2.2]; rw [if_neg q] at k1; exact k1
  · have hk' : kwB (x : Int) = false := by cases e : kwB (x : Int) <;> simp_all
    refine (rlay_no (t := t) (w := w) (x : Int) hk' a _ c _).mono ?_
    rintro e w' ⟨he, k⟩
    rw [if_pos hk', if_neg fun e => hk e.1]
    exact ⟨he, h.kp k, Fr.of_below k⟩
theorem own_sz (h : szL r.ls ≤ 1048576) : szL (ownR r).ls ≤ 1048577 := by
  unfold ownR; split
  · show szL [emp] ≤ _; rw [szL_one]; show 0 + 1 ≤ _; omega
  · omega
set_option maxHeartbeats 8000000 in
theorem ryank_any (h : Rr t f P w) (hP : ∀ k, w.heap.size ≤ k → P k) {x : Nat} (hx : x < 256) (hv : Sl Q v r.ls w) (hz : szL r.ls ≤ 1048576) :
    Calls Try.prog 24 #[.pointer (some ⟨t, 0, none⟩), .int .u8 (x : Int), .agg #[v, .bool r.wh]] w fun e w' => e = .returned (.int .i64 (layE f (x : Int) r)) ∧ Rr t (yankF f (x : Int) r) P w' ∧ Fr (On t) w w' := by
  obtain ⟨a, c, rfl, _⟩ := hv.form
  obtain ⟨n, hn⟩ : ∃ n, r.ls.length = n := ⟨_, rfl⟩
  have hlen : r.ls.length ≤ 8796093022208 := by have := szL_len r.ls; omega
  obtain ⟨W1, hW1⟩ : ∃ W1, w.alloc (.cells #[.slice a n c, .bool r.wh] 24) = W1 := ⟨_, rfl⟩
  have k1 : Kp w W1 := by rw [← hW1]; exact kp_alloc _ _
  have b5 : Lc 24 w.heap.size [.slice a n c, .bool r.wh] W1 := by rw [← hW1]; exact Lc.new w _ _
  have HLn : Hid (Calls Try.prog 34 #[.agg #[.slice a n c, .bool r.wh]] W1 fun e w' => ∃ a' n' c', e = .returned (.agg #[.slice a' n' c', .bool (ownR r).wh]) ∧ Hid (Row w.heap.size (.slice a' n' c') (ownR r).ls w' ∧ Kp W1 w')) := by
    rw [← hn]
    refine (rlent_any (hv.kp k1) hlen).mono ?_
    rintro e w' ⟨v', he, q1, q2⟩
    obtain ⟨a', c', rfl, _, _⟩ := q1.form
    exact ⟨a', _, c', he, row_lift q1 fun j hj => Nat.le_trans k1.size (q1.lt j hj).1, q2⟩
  have HH : Hid (Rr t f P w ∧ (∀ k, w.heap.size ≤ k → P k) ∧ szL (ownR r).ls ≤ 1048577 ∧ Kp w W1) := ⟨h, hP, own_sz hz, k1⟩
  have u1 := b5.at (j := 0) rfl
  have u2 := b5.at (j := 1) rfl
  have HW : Hid (_ = W1) := hW1
  obtain ⟨bw, hbw⟩ : ∃ bw, (ownR r).wh = bw := ⟨_, rfl⟩
  have HBW : Hid ((ownR r).wh = bw) := hbw
  rw [hbw] at HLn
  rw [hn]
  obtain ⟨E, hE⟩ : ∃ E, layE f (x : Int) r = E := ⟨_, rfl⟩
  obtain ⟨F2, hF2⟩ : ∃ F2, yankF f (x : Int) r = F2 := ⟨_, rfl⟩
  have HEF : Hid (layE f (x : Int) r = E ∧ yankF f (x : Int) r = F2) := ⟨hE, hF2⟩
  rw [hE, hF2]
  clear h hP hv hz hlen hn hW1 k1 b5 hbw hE hF2
  go_enter Try.func24, Try.ntmps24
  go_upto_region 1 with fail
  rw [HW.out]
  clear HW
  go_wp2_with fail
  refine Calls.mono HLn.out ?_
  rintro e x2 ⟨a', n', c', rfl, H2⟩
  clear HLn u1 u2
  obtain ⟨W2, hW2⟩ : ∃ W2, x2.alloc (.cells #[.slice a' n' c', .bool bw] 24) = W2 := ⟨_, rfl⟩
  have k2 : Kp w W2 := by rw [← hW2]; exact kp_trans (kp_trans HH.out.2.2.2 H2.out.2) (kp_alloc _ _)
  have b7 : Lc 24 x2.heap.size [.slice a' n' c', .bool bw] W2 := by rw [← hW2]; exact Lc.new x2 _ _
  have s7 : Sl P (.slice a' n' c') (ownR r).ls W2 := by
    have q := row_kp H2.out.1 (kp_alloc x2 (.cells #[.slice a' n' c', .bool bw] 24))
    rw [hW2] at q
    exact (Sl.of_row q).mono fun j _ hj => HH.out.2.1 j hj
  have hrr := HH.out.1.kp k2
  have HLy : Hid (Calls Try.prog 35 #[.pointer (some ⟨t, 0, none⟩), .int .u8 (x : Int), .agg #[.slice a' n' c', .bool bw]] W2 fun e w' => e = .returned (.int .i64 E) ∧ Hid (Rr t (layF f (x : Int) r) P w' ∧ Fr (On t) W2 w' ∧ Lc 24 x2.heap.size [.slice a' n' c', .bool bw] w' ∧ Sl P (.slice a' n' c') (ownR r).ls w')) := by
    have hb := HBW.out
    subst hb
    refine (rlay_any hrr (fun j hj => HH.out.2.1 j (Nat.le_trans k2.size hj)) hx s7 HH.out.2.2.1).mono ?_
    rintro e w' ⟨he, q1, q2⟩
    rw [HEF.out.1] at he
    exact ⟨he, q1, q2, hrr.box_off b7 (by decide) q2, hrr.sl_off s7 q2⟩
  have v1 := b7.at (j := 0) rfl
  have v2 := b7.at (j := 1) rfl
  obtain ⟨b7', hb7⟩ : ∃ b7', x2.heap.size = b7' := ⟨_, rfl⟩
  rw [hb7] at v1 v2 HLy
  have HK2 : Hid (Kp w W2) := k2
  have HW : Hid (_ = W2) := hW2
  clear hW2 k2 b7 s7 hrr H2
  go_upto_region 2 with fail
  rw [HW.out]
  clear HW hb7
  go_wp2_with fail
  refine Calls.mono HLy.out ?_
  rintro e x3 ⟨rfl, H3⟩
  clear HLy v1 v2
  have H3F : Hid (Fr (On t) w x3) := (Fr.of_below HK2.out).trans H3.out.2.1
  by_cases hx0 : E = 0
  · subst hx0
    have d0 : ((0 : Int) == 0) = true := by simp
    by_cases hq : x = 34
    · subst hq
      obtain ⟨l1, l2, l3⟩ := lay_34 f r HEF.out.1
      have hFF : setR (layF f 34 r) 48 (some (ownR r)) = F2 := by rw [← HEF.out.2]; show _ = yankF f 34 r; unfold yankF; rw [if_pos ⟨HEF.out.1, rfl⟩]
      have HC : Hid (Calls Try.prog 36 #[.pointer (some ⟨t, 0, none⟩), .int .u8 48, .agg #[.slice a' n' c', .bool bw]] x3 fun e w' => e = .returned (.tuple #[]) ∧ Hid (Rr t F2 P w' ∧ Fr (On t) w w')) := by
        have hb := HBW.out
        subst hb
        refine (rset_any (x := 48) (r := ownR r) H3.out.1 (by omega) H3.out.2.2.2 ⟨l2, l3⟩ (by simp [nmB, digB, bt])).mono ?_
        rintro e w' ⟨he, q1, q2⟩
        exact ⟨he, by rw [← hFF]; exact q1, H3F.out.trans q2⟩
      have v3 := H3.out.2.2.1.at (j := 0) rfl
      have v4 := H3.out.2.2.1.at (j := 1) rfl
      clear l1 l2 l3 hFF H3 HEF
      go_wp2_with fail
      refine Calls.mono HC.out ?_
      rintro e x4 ⟨rfl, H4⟩
      clear HC v3 v4
      go_wp2_with fail
      go_ret
      exact ⟨rfl, H4.out⟩
    · have d1 : ((x : Int) == 34) = false := by simp; omega
      have HE : Hid (Rr t F2 P x3 ∧ Fr (On t) w x3) := ⟨by rw [← HEF.out.2]; show Rr t (yankF f (x : Int) r) P x3; unfold yankF; rw [if_neg (by omega)]; exact H3.out.1, H3F.out⟩
      clear H3 HEF
      go_wp2_with fail
      go_ret
      exact ⟨rfl, HE.out⟩
  · have d1 : (E == 0) = false := by simpa using hx0
    have HE : Hid (Rr t F2 P x3 ∧ Fr (On t) w x3) := ⟨by rw [← HEF.out.2]; unfold yankF; rw [if_neg (by rw [HEF.out.1]; exact fun e => hx0 e.1)]; exact H3.out.1, H3F.out⟩
    clear H3 HEF
    go_wp2_with fail
    go_ret
    exact ⟨rfl, HE.out⟩
set_option maxHeartbeats 8000000 in
theorem rcut_any (h : Rr t f P w) (hP : ∀ k, w.heap.size ≤ k → P k) {x : Nat} (hx : x < 256) (hv : Sl Q v r.ls w) (hz : szL r.ls ≤ 1048576) :
    Calls Try.prog 20 #[.pointer (some ⟨t, 0, none⟩), .int .u8 (x : Int), .agg #[v, .bool r.wh]] w fun e w' => e = .returned (.int .i64 (layE f (x : Int) r)) ∧ Rr t (cutF f (x : Int) r) P w' ∧ Fr (On t) w w' := by
  obtain ⟨a, c, rfl, _⟩ := hv.form
  obtain ⟨n, hn⟩ : ∃ n, r.ls.length = n := ⟨_, rfl⟩
  have hlen : r.ls.length ≤ 8796093022208 := by have := szL_len r.ls; omega
  obtain ⟨W1, hW1⟩ : ∃ W1, w.alloc (.cells #[.slice a n c, .bool r.wh] 24) = W1 := ⟨_, rfl⟩
  have k1 : Kp w W1 := by rw [← hW1]; exact kp_alloc _ _
  have b5 : Lc 24 w.heap.size [.slice a n c, .bool r.wh] W1 := by rw [← hW1]; exact Lc.new w _ _
  have HLn : Hid (Calls Try.prog 34 #[.agg #[.slice a n c, .bool r.wh]] W1 fun e w' => ∃ a' n' c', e = .returned (.agg #[.slice a' n' c', .bool (ownR r).wh]) ∧ Hid (Row w.heap.size (.slice a' n' c') (ownR r).ls w' ∧ Kp W1 w')) := by
    rw [← hn]
    refine (rlent_any (hv.kp k1) hlen).mono ?_
    rintro e w' ⟨v', he, q1, q2⟩
    obtain ⟨a', c', rfl, _, _⟩ := q1.form
    exact ⟨a', _, c', he, row_lift q1 fun j hj => Nat.le_trans k1.size (q1.lt j hj).1, q2⟩
  have HH : Hid (Rr t f P w ∧ (∀ k, w.heap.size ≤ k → P k) ∧ szL (ownR r).ls ≤ 1048577 ∧ Kp w W1) := ⟨h, hP, own_sz hz, k1⟩
  have u1 := b5.at (j := 0) rfl
  have u2 := b5.at (j := 1) rfl
  have HW : Hid (_ = W1) := hW1
  obtain ⟨bw, hbw⟩ : ∃ bw, (ownR r).wh = bw := ⟨_, rfl⟩
  have HBW : Hid ((ownR r).wh = bw) := hbw
  rw [hbw] at HLn
  rw [hn]
  obtain ⟨E, hE⟩ : ∃ E, layE f (x : Int) r = E := ⟨_, rfl⟩
  obtain ⟨F2, hF2⟩ : ∃ F2, cutF f (x : Int) r = F2 := ⟨_, rfl⟩
  have HEF : Hid (layE f (x : Int) r = E ∧ cutF f (x : Int) r = F2) := ⟨hE, hF2⟩
  rw [hE, hF2]
  clear h hP hv hz hlen hn hW1 k1 b5 hbw hE hF2
  go_enter Try.func20, Try.ntmps20
  go_upto_region 1 with fail
  rw [HW.out]
  clear HW
  go_wp2_with fail
  refine Calls.mono HLn.out ?_
  rintro e x2 ⟨a', n', c', rfl, H2⟩
  clear HLn u1 u2
  obtain ⟨W2, hW2⟩ : ∃ W2, x2.alloc (.cells #[.slice a' n' c', .bool bw] 24) = W2 := ⟨_, rfl⟩
  have k2 : Kp w W2 := by rw [← hW2]; exact kp_trans (kp_trans HH.out.2.2.2 H2.out.2) (kp_alloc _ _)
  have b7 : Lc 24 x2.heap.size [.slice a' n' c', .bool bw] W2 := by rw [← hW2]; exact Lc.new x2 _ _
  have s7 : Sl P (.slice a' n' c') (ownR r).ls W2 := by
    have q := row_kp H2.out.1 (kp_alloc x2 (.cells #[.slice a' n' c', .bool bw] 24))
    rw [hW2] at q
    exact (Sl.of_row q).mono fun j _ hj => HH.out.2.1 j hj
  have hrr := HH.out.1.kp k2
  have HLy : Hid (Calls Try.prog 35 #[.pointer (some ⟨t, 0, none⟩), .int .u8 (x : Int), .agg #[.slice a' n' c', .bool bw]] W2 fun e w' => e = .returned (.int .i64 E) ∧ Hid (Rr t (layF f (x : Int) r) P w' ∧ Fr (On t) W2 w' ∧ Lc 24 x2.heap.size [.slice a' n' c', .bool bw] w' ∧ Sl P (.slice a' n' c') (ownR r).ls w')) := by
    have hb := HBW.out
    subst hb
    refine (rlay_any hrr (fun j hj => HH.out.2.1 j (Nat.le_trans k2.size hj)) hx s7 HH.out.2.2.1).mono ?_
    rintro e w' ⟨he, q1, q2⟩
    rw [HEF.out.1] at he
    exact ⟨he, q1, q2, hrr.box_off b7 (by decide) q2, hrr.sl_off s7 q2⟩
  have v1 := b7.at (j := 0) rfl
  have v2 := b7.at (j := 1) rfl
  obtain ⟨b7', hb7⟩ : ∃ b7', x2.heap.size = b7' := ⟨_, rfl⟩
  rw [hb7] at v1 v2 HLy
  have HK2 : Hid (Kp w W2) := k2
  have HW : Hid (_ = W2) := hW2
  clear hW2 k2 b7 s7 hrr H2
  go_upto_region 2 with fail
  rw [HW.out]
  clear HW hb7
  go_wp2_with fail
  refine Calls.mono HLy.out ?_
  rintro e x3 ⟨rfl, H3⟩
  clear HLy v1 v2
  have H3F : Hid (Fr (On t) w x3) := (Fr.of_below HK2.out).trans H3.out.2.1
  by_cases hx0 : E = 0
  · subst hx0
    have d0 : ((0 : Int) == 0) = true := by simp
    by_cases hq : x = 34
    · subst hq
      obtain ⟨l1, l2, l3⟩ := lay_34 f r HEF.out.1
      have hFF : setR (ageF (layF f 34 r)) 49 (some (ownR r)) = F2 := by rw [← HEF.out.2]; show _ = cutF f 34 r; unfold cutF; rw [if_pos ⟨HEF.out.1, rfl⟩]
      have H0 : Hid (Rr t (ageC (layF f 34 r) 57) P x3 ∧ Fr (On t) w x3 ∧ Lc 24 b7' [.slice a' n' c', .bool bw] x3 ∧ Sl P (.slice a' n' c') (ownR r).ls x3) := ⟨by rw [ageC_start]; exact H3.out.1, H3F.out, H3.out.2.2.1, H3.out.2.2.2⟩
      generalize layF f 34 r = G at *
      clear l1 H3 HEF H3F HK2
      go_wp2_with fail
      go_loopw [9] (fun v9 wr => ∃ c : Nat, 49 ≤ c ∧ c ≤ 57 ∧ v9 = .int .u8 (c : Int) ∧ Hid (Rr t (ageC G c) P wr ∧ Fr (On t) w wr ∧ Lc 24 b7' [.slice a' n' c', .bool bw] wr ∧ Sl P (.slice a' n' c') (ownR r).ls wr)) (fun v9 _ => (intOf v9).toNat)
      case atStart => exact ⟨57, by omega, by omega, rfl, H0.out⟩
      case round =>
        obtain ⟨cN, hc0, hc1, rfl, HI⟩ := hrel
        clear H0
        by_cases q : cN = 49
        · subst q
          have HC : Hid (Calls Try.prog 36 #[.pointer (some ⟨t, 0, none⟩), .int .u8 49, .agg #[.slice a' n' c', .bool bw]] wr fun e w' => e = .returned (.tuple #[]) ∧ Hid (Rr t F2 P w' ∧ Fr (On t) w w')) := by
            have hb := HBW.out
            subst hb
            refine (rset_any (x := 49) (r := ownR r) HI.out.1 (by omega) HI.out.2.2.2 ⟨l2, l3⟩ (by simp [nmB, digB, bt])).mono ?_
            rintro e w' ⟨he, q1, q2⟩
            exact ⟨he, by rw [← hFF]; exact q1, HI.out.2.1.trans q2⟩
          have v3 := HI.out.2.2.1.at (j := 0) rfl
          have v4 := HI.out.2.2.1.at (j := 1) rfl
          clear l2 l3 hFF HI hc0 hc1
          go_wp2_with fail
          refine Calls.mono HC.out ?_
          rintro e x4 ⟨rfl, H4⟩
          clear HC v3 v4
          go_wp2_with fail
          go_ret
          exact ⟨rfl, H4.out⟩
        · obtain ⟨d, hd⟩ : ∃ d, d + 1 = cN := ⟨cN - 1, by omega⟩
          have hdb : 49 ≤ d ∧ d < 57 := by omega
          obtain ⟨sa, sn, sc, sw, ⟨y1, y2⟩, y3, y4, hy⟩ := HI.out.1.dlc (x := d) (by omega)
          obtain ⟨_, _, _, _, ⟨p1, p2⟩, p3, _, _⟩ := HI.out.1.dlc (x := cN) (by omega)
          have HST : Hid (setR (ageC G cN) (cN : Int) (ageC G cN (d : Int)) = ageC G d) := by rw [← hd]; exact ageC_step G d hdb.2
          have hput := HI.out.1.put (x := cN) (by omega) (a := sa) (n := sn) (c := sc) (wh := sw) (o := ageC G cN (d : Int)) fun q hq => ⟨(hy q hq).1, (hy q hq).2, (HI.out.1.ok _ _ hq).1, (HI.out.1.ok _ _ hq).2, dig_nm (by omega) (by omega)⟩
          rw [HST.out] at hput
          obtain ⟨bo, hbo⟩ : ∃ bo : Bool, (ageC G cN (d : Int)).isSome = bo := ⟨_, rfl⟩
          rw [hbo] at y3 hput
          obtain ⟨bq, hbq⟩ : ∃ bq : Bool, (ageC G cN (cN : Int)).isSome = bq := ⟨_, rfl⟩
          rw [hbq] at p3
          have z1 := y4 (cN * 2)
          have z2 := y4 (cN * 2 + 1)
          have z3 := y4 (512 + cN)
          have HX : Hid (Rr t (ageC G d) P (((wr.setCell ⟨t, cN * 2, none⟩ (.slice sa sn sc)).setCell ⟨t, cN * 2 + 1, none⟩ (.bool sw)).setCell ⟨t, 512 + cN, none⟩ (.bool bo)).drew.drew ∧ Fr (On t) w (((wr.setCell ⟨t, cN * 2, none⟩ (.slice sa sn sc)).setCell ⟨t, cN * 2 + 1, none⟩ (.bool sw)).setCell ⟨t, 512 + cN, none⟩ (.bool bo)).drew.drew ∧ Lc 24 b7' [.slice a' n' c', .bool bw] (((wr.setCell ⟨t, cN * 2, none⟩ (.slice sa sn sc)).setCell ⟨t, cN * 2 + 1, none⟩ (.bool sw)).setCell ⟨t, 512 + cN, none⟩ (.bool bo)).drew.drew ∧ Sl P (.slice a' n' c') (ownR r).ls (((wr.setCell ⟨t, cN * 2, none⟩ (.slice sa sn sc)).setCell ⟨t, cN * 2 + 1, none⟩ (.bool sw)).setCell ⟨t, 512 + cN, none⟩ (.bool bo)).drew.drew) := by
            have kd := kp_trans (kp_drew (((wr.setCell ⟨t, cN * 2, none⟩ (.slice sa sn sc)).setCell ⟨t, cN * 2 + 1, none⟩ (.bool sw)).setCell ⟨t, 512 + cN, none⟩ (.bool bo))) (kp_drew _)
            exact ⟨hput.1.kp kd, (HI.out.2.1.trans hput.2).trans (Fr.of_below kd), (HI.out.1.box_off HI.out.2.2.1 (by decide) hput.2).kp kd, (HI.out.1.sl_off HI.out.2.2.2 hput.2).kp kd⟩
          have g1 : decide ((cN : Int) > 49) = true := decide_eq_true (by omega)
          have g2 : decide (49 < (cN : Int)) = true := decide_eq_true (by omega)
          have hw1 : IntKind.u8.wrap ((cN : Int) - 1) = (d : Int) := by rw [IntKind.wrap_u8]; omega
          have hn1 : (cN : Int) - 1 = (d : Int) := by omega
          have hw2 : IntKind.u8.wrap (d : Int) = (d : Int) := by rw [IntKind.wrap_u8]; omega
          have hdi : (d : Int) < 256 := by omega
          have hci : (cN : Int) < 256 := by omega
          have y5 : ((wr.setCell ⟨t, cN * 2, none⟩ (.slice sa sn sc)).setCell ⟨t, cN * 2 + 1, none⟩ (.bool sw)).cell? ⟨t, 512 + d, none⟩ = some (.bool bo) := by
            obtain ⟨l0, lt0, _⟩ := HI.out.1.box
            have := (lt0.set (cN * 2) (.slice sa sn sc)).set (cN * 2 + 1) (.bool sw)
            rw [this.cell, List.getElem?_set_ne (by omega), List.getElem?_set_ne (by omega), ← lt0.cell]
            exact y3
          have p5 : ((wr.setCell ⟨t, cN * 2, none⟩ (.slice sa sn sc)).setCell ⟨t, cN * 2 + 1, none⟩ (.bool sw)).cell? ⟨t, 512 + cN, none⟩ = some (.bool bq) := by
            obtain ⟨l0, lt0, _⟩ := HI.out.1.box
            have := (lt0.set (cN * 2) (.slice sa sn sc)).set (cN * 2 + 1) (.bool sw)
            rw [this.cell, List.getElem?_set_ne (by omega), List.getElem?_set_ne (by omega), ← lt0.cell]
            exact p3
          have z5 : ((wr.setCell ⟨t, cN * 2, none⟩ (.slice sa sn sc)).setCell ⟨t, cN * 2 + 1, none⟩ (.bool sw)).frozen? ⟨t, 512 + cN, none⟩ = false := by
            obtain ⟨l0, lt0, _⟩ := HI.out.1.box
            exact ((lt0.set (cN * 2) (.slice sa sn sc)).set (cN * 2 + 1) (.bool sw)).fz _
          have y6 : ((wr.setCell ⟨t, cN * 2, none⟩ (.slice sa sn sc)).setCell ⟨t, cN * 2 + 1, none⟩ (.bool sw)).cell? ⟨t, d * 2, none⟩ = some (.slice sa sn sc) ∧ ((wr.setCell ⟨t, cN * 2, none⟩ (.slice sa sn sc)).setCell ⟨t, cN * 2 + 1, none⟩ (.bool sw)).cell? ⟨t, d * 2 + 1, none⟩ = some (.bool sw) := by
            obtain ⟨l0, lt0, _⟩ := HI.out.1.box
            have := (lt0.set (cN * 2) (.slice sa sn sc)).set (cN * 2 + 1) (.bool sw)
            refine ⟨?_, ?_⟩
            · rw [this.cell, List.getElem?_set_ne (by omega), List.getElem?_set_ne (by omega), ← lt0.cell]; exact y1
            · rw [this.cell, List.getElem?_set_ne (by omega), List.getElem?_set_ne (by omega), ← lt0.cell]; exact y2
          have y7 : (((wr.setCell ⟨t, cN * 2, none⟩ (.slice sa sn sc)).setCell ⟨t, cN * 2 + 1, none⟩ (.bool sw)).setCell ⟨t, 512 + cN, none⟩ (.bool bo)).cell? ⟨t, 512 + d, none⟩ = some (.bool bo) := by
            obtain ⟨l0, lt0, _⟩ := HI.out.1.box
            have := ((lt0.set (cN * 2) (.slice sa sn sc)).set (cN * 2 + 1) (.bool sw)).set (512 + cN) (.bool bo)
            rw [this.cell, List.getElem?_set_ne (by omega), List.getElem?_set_ne (by omega), List.getElem?_set_ne (by omega), ← lt0.cell]; exact y3
          clear hput hy y4 HI HST hbo hbq q hd l2 l3 hFF HBW
          go_upto_region 7 with fail
          refine wp_region_noPanic ?_
          refine wp_region_held_drew (S := fun z => z.cell? ⟨t, d * 2, none⟩ = some (.slice sa sn sc) ∧ z.cell? ⟨t, d * 2 + 1, none⟩ = some (.bool sw)) (by kernel_rfl) (⟨y1, y2⟩) (fun hHeld => ?_)
          refine takeAt 0 (some 26) ?_ rfl rfl (by kernel_rfl) (by kernel_rfl) (by kernel_rfl) (fun _ _ _ h => h) (Or.inl ⟨by rfl, ?_⟩) hHeld ?_
          rotate_left
          · intro w hSw
            go_simp <;> with_reducible rfl
          try simp only [Act.put, List.setIfInBounds_toArray, List.set_cons_zero, List.set_cons_succ]
          refine takeAt 1 (some 27) ?_ rfl rfl (by kernel_rfl) (by kernel_rfl) (by kernel_rfl) (fun _ _ _ h => h) (Or.inl ⟨by rfl, ?_⟩) hHeld ?_
          rotate_left
          · intro w hSw
            go_simp <;> with_reducible rfl
          try simp only [Act.put, List.setIfInBounds_toArray, List.set_cons_zero, List.set_cons_succ]
          refine takeAt 2 (some 28) ?_ rfl rfl (by kernel_rfl) (by kernel_rfl) (by kernel_rfl) (fun _ _ _ h => h) (Or.inl ⟨by rfl, ?_⟩) hHeld ?_
          rotate_left
          · intro w hSw
            go_simp <;> with_reducible rfl
          try simp only [Act.put, List.setIfInBounds_toArray, List.set_cons_zero, List.set_cons_succ]
          refine takeAt 3 (some 29) ?_ rfl rfl (by kernel_rfl) (by kernel_rfl) (by kernel_rfl) (fun _ _ _ h => h) (Or.inl ⟨by rfl, ?_⟩) hHeld ?_
          rotate_left
          · intro w hSw
            go_simp <;> with_reducible rfl
          try simp only [Act.put, List.setIfInBounds_toArray, List.set_cons_zero, List.set_cons_succ]
          refine takeAt 4 (some 30) ?_ rfl rfl (by kernel_rfl) (by kernel_rfl) (by kernel_rfl) (fun _ _ _ h => h) (Or.inl ⟨by rfl, ?_⟩) hHeld ?_
          rotate_left
          · intro w hSw
            go_simp <;> with_reducible rfl
          try simp only [Act.put, List.setIfInBounds_toArray, List.set_cons_zero, List.set_cons_succ]
          refine takeAt 5 (some 31) ?_ rfl rfl (by kernel_rfl) (by kernel_rfl) (by kernel_rfl) (fun _ _ _ h => h) (Or.inl ⟨by rfl, ?_⟩) hHeld ?_
          rotate_left
          · intro w hSw
            go_simp <;> with_reducible rfl
          try simp only [Act.put, List.setIfInBounds_toArray, List.set_cons_zero, List.set_cons_succ]
          refine takeAt 6 (some 32) ?_ rfl rfl (by kernel_rfl) (by kernel_rfl) (by kernel_rfl) (fun _ _ _ h => h) (Or.inl ⟨by rfl, ?_⟩) hHeld ?_
          rotate_left
          · intro w hSw
            go_simp <;> with_reducible rfl
          try simp only [Act.put, List.setIfInBounds_toArray, List.set_cons_zero, List.set_cons_succ]
          refine takeAt 7 (some 33) ?_ rfl rfl (by kernel_rfl) (by kernel_rfl) (by kernel_rfl) (fun _ _ _ h => h) (Or.inl ⟨by rfl, ?_⟩) hHeld ?_
          rotate_left
          · intro w hSw
            go_simp <;> with_reducible rfl
          try simp only [Act.put, List.setIfInBounds_toArray, List.set_cons_zero, List.set_cons_succ]
          refine takeAt 8 (some 34) ?_ rfl rfl (by kernel_rfl) (by kernel_rfl) (by kernel_rfl) (fun _ _ _ h => h) (Or.inl ⟨by rfl, ?_⟩) hHeld ?_
          rotate_left
          · intro w hSw
            go_simp <;> with_reducible rfl
          try simp only [Act.put, List.setIfInBounds_toArray, List.set_cons_zero, List.set_cons_succ]
          refine takeAt 9 (some 35) ?_ rfl rfl (by kernel_rfl) (by kernel_rfl) (by kernel_rfl) (fun _ _ _ h => h) (Or.inl ⟨by rfl, ?_⟩) hHeld ?_
          rotate_left
          · intro w hSw
            go_simp <;> with_reducible rfl
          try simp only [Act.put, List.setIfInBounds_toArray, List.set_cons_zero, List.set_cons_succ]
          refine takeAt 10 (some 36) ?_ rfl rfl (by kernel_rfl) (by kernel_rfl) (by kernel_rfl) (fun _ _ _ h => h) (Or.inl ⟨by rfl, ?_⟩) hHeld ?_
          rotate_left
          · intro w hSw
            go_simp <;> with_reducible rfl
          try simp only [Act.put, List.setIfInBounds_toArray, List.set_cons_zero, List.set_cons_succ]
          refine takeAt 11 (some 37) ?_ rfl rfl (by kernel_rfl) (by kernel_rfl) (by kernel_rfl) (fun _ _ _ h => h) (Or.inl ⟨by rfl, ?_⟩) hHeld ?_
          rotate_left
          · intro w hSw
            go_simp <;> with_reducible rfl
          try simp only [Act.put, List.setIfInBounds_toArray, List.set_cons_zero, List.set_cons_succ]
          refine wpAnyH_ready (rs := [12]) (by kernel_rfl) (by simp) ?_
          refine AllReadyH.cons rfl (fun K hK => ?_) AllReadyH.nil
          go_simp
          refine hK.out _ _ (y6) (fun hHeld => ?_)
          clear hK K
          try simp only [Act.put, List.setIfInBounds_toArray, List.set_cons_zero, List.set_cons_succ]
          refine wpAnyH_done (by kernel_rfl) ?_ _
          refine NoPanic.normal ?_
          generalize hx5 : (wr.setCell ⟨t, cN * 2, none⟩ (.slice sa sn sc)).setCell ⟨t, cN * 2 + 1, none⟩ (.bool sw) = x5 at HX y5 p5 z5 y7 ⊢
          clear hx5 y6 y1 y2 y3 p1 p2 p3 z1 z2 z3
          go_upto_region 8 with fail
          refine wp_region_noPanic ?_
          refine wp_region_held_drew (S := fun z => z.cell? ⟨t, 512 + d, none⟩ = some (.bool bo)) (by kernel_rfl) (y5) (fun hHeld => ?_)
          refine takeAt 0 (some 38) ?_ rfl rfl (by kernel_rfl) (by kernel_rfl) (by kernel_rfl) (fun _ _ _ h => h) (Or.inl ⟨by rfl, ?_⟩) hHeld ?_
          rotate_left
          · intro w hSw
            go_simp <;> with_reducible rfl
          try simp only [Act.put, List.setIfInBounds_toArray, List.set_cons_zero, List.set_cons_succ]
          refine takeAt 1 (some 39) ?_ rfl rfl (by kernel_rfl) (by kernel_rfl) (by kernel_rfl) (fun _ _ _ h => h) (Or.inl ⟨by rfl, ?_⟩) hHeld ?_
          rotate_left
          · intro w hSw
            go_simp <;> with_reducible rfl
          try simp only [Act.put, List.setIfInBounds_toArray, List.set_cons_zero, List.set_cons_succ]
          refine takeAt 2 (some 40) ?_ rfl rfl (by kernel_rfl) (by kernel_rfl) (by kernel_rfl) (fun _ _ _ h => h) (Or.inl ⟨by rfl, ?_⟩) hHeld ?_
          rotate_left
          · intro w hSw
            go_simp <;> with_reducible rfl
          try simp only [Act.put, List.setIfInBounds_toArray, List.set_cons_zero, List.set_cons_succ]
          refine takeAt 3 (some 41) ?_ rfl rfl (by kernel_rfl) (by kernel_rfl) (by kernel_rfl) (fun _ _ _ h => h) (Or.inl ⟨by rfl, ?_⟩) hHeld ?_
          rotate_left
          · intro w hSw
            go_simp <;> with_reducible rfl
          try simp only [Act.put, List.setIfInBounds_toArray, List.set_cons_zero, List.set_cons_succ]
          refine takeAt 4 (some 42) ?_ rfl rfl (by kernel_rfl) (by kernel_rfl) (by kernel_rfl) (fun _ _ _ h => h) (Or.inl ⟨by rfl, ?_⟩) hHeld ?_
          rotate_left
          · intro w hSw
            go_simp <;> with_reducible rfl
          try simp only [Act.put, List.setIfInBounds_toArray, List.set_cons_zero, List.set_cons_succ]
          refine takeAt 5 (some 43) ?_ rfl rfl (by kernel_rfl) (by kernel_rfl) (by kernel_rfl) (fun _ _ _ h => h) (Or.inl ⟨by rfl, ?_⟩) hHeld ?_
          rotate_left
          · intro w hSw
            go_simp <;> with_reducible rfl
          try simp only [Act.put, List.setIfInBounds_toArray, List.set_cons_zero, List.set_cons_succ]
          refine takeAt 6 (some 44) ?_ rfl rfl (by kernel_rfl) (by kernel_rfl) (by kernel_rfl) (fun _ _ _ h => h) (Or.inl ⟨by rfl, ?_⟩) hHeld ?_
          rotate_left
          · intro w hSw
            go_simp <;> with_reducible rfl
          try simp only [Act.put, List.setIfInBounds_toArray, List.set_cons_zero, List.set_cons_succ]
          refine takeAt 7 (some 45) ?_ rfl rfl (by kernel_rfl) (by kernel_rfl) (by kernel_rfl) (fun _ _ _ h => h) (Or.inl ⟨by rfl, ?_⟩) hHeld ?_
          rotate_left
          · intro w hSw
            go_simp <;> with_reducible rfl
          try simp only [Act.put, List.setIfInBounds_toArray, List.set_cons_zero, List.set_cons_succ]
          refine takeAt 8 (some 46) ?_ rfl rfl (by kernel_rfl) (by kernel_rfl) (by kernel_rfl) (fun _ _ _ h => h) (Or.inl ⟨by rfl, ?_⟩) hHeld ?_
          rotate_left
          · intro w hSw
            go_simp <;> with_reducible rfl
          try simp only [Act.put, List.setIfInBounds_toArray, List.set_cons_zero, List.set_cons_succ]
          refine takeAt 9 (some 47) ?_ rfl rfl (by kernel_rfl) (by kernel_rfl) (by kernel_rfl) (fun _ _ _ h => h) (Or.inl ⟨by rfl, ?_⟩) hHeld ?_
          rotate_left
          · intro w hSw
            go_simp <;> with_reducible rfl
          try simp only [Act.put, List.setIfInBounds_toArray, List.set_cons_zero, List.set_cons_succ]
          refine takeAt 10 (some 48) ?_ rfl rfl (by kernel_rfl) (by kernel_rfl) (by kernel_rfl) (fun _ _ _ h => h) (Or.inl ⟨by rfl, ?_⟩) hHeld ?_
          rotate_left
          · intro w hSw
            go_simp <;> with_reducible rfl
          try simp only [Act.put, List.setIfInBounds_toArray, List.set_cons_zero, List.set_cons_succ]
          refine takeAt 11 (some 49) ?_ rfl rfl (by kernel_rfl) (by kernel_rfl) (by kernel_rfl) (fun _ _ _ h => h) (Or.inl ⟨by rfl, ?_⟩) hHeld ?_
          rotate_left
          · intro w hSw
            go_simp <;> with_reducible rfl
          try simp only [Act.put, List.setIfInBounds_toArray, List.set_cons_zero, List.set_cons_succ]
          refine wpAnyH_ready (rs := [12]) (by kernel_rfl) (by simp) ?_
          refine AllReadyH.cons rfl (fun K hK => ?_) AllReadyH.nil
          go_simp
          refine hK.out _ _ (y7) (fun hHeld => ?_)
          clear hK K
          try simp only [Act.put, List.setIfInBounds_toArray, List.set_cons_zero, List.set_cons_succ]
          refine wpAnyH_done (by kernel_rfl) ?_ _
          refine NoPanic.normal ?_
          clear y5 p5 z5 y7
          go_wp2_with fail
          go_roundw
          case rel => exact ⟨d, by omega, by omega, rfl, HX.out⟩
          case measure => simp only [intOf]; omega
    · have d1 : ((x : Int) == 34) = false := by simp; omega
      have HE : Hid (Rr t F2 P x3 ∧ Fr (On t) w x3) := ⟨by rw [← HEF.out.2]; show Rr t (cutF f (x : Int) r) P x3; unfold cutF; rw [if_neg (by omega)]; exact H3.out.1, H3F.out⟩
      clear H3 HEF
      go_wp2_with fail
      go_ret
      exact ⟨rfl, HE.out⟩
  · have d1 : (E == 0) = false := by simpa using hx0
    have HE : Hid (Rr t F2 P x3 ∧ Fr (On t) w x3) := ⟨by rw [← HEF.out.2]; unfold cutF; rw [if_neg (by rw [HEF.out.1]; exact fun e => hx0 e.1)]; exact H3.out.1, H3F.out⟩
    clear H3 HEF
    go_wp2_with fail
    go_ret
    exact ⟨rfl, HE.out⟩
end
end Go.Proofs.Ytbnlenanfhggiaa
/- The document's Get, Names; alike. -/
namespace Go.Proofs.Ytbnlenanfhggiaa
open Go.ChangeShapes Go.WideShapes Go.ChangeAt Go.RowKit Go.Maps Go.MapKept
set_option linter.unusedVariables false
set_option linter.unusedSimpArgs false
set_option maxRecDepth 100000
section
variable {t b : Nat} {f : Rf} {P Q : Nat → Prop} {w w1 : World} {v : Value} {r : Rv} {l : List Value}
set_option maxHeartbeats 8000000 in
theorem rget_any (h : Rr t f P w) {x : Nat} (hx : x < 256) :
    Calls Try.prog 21 #[.pointer (some ⟨t, 0, none⟩), .int .u8 (x : Int)] w fun e w' => ∃ v', e = .returned (.tuple #[.agg #[v', .bool (getR f (x : Int)).wh], .int .i64 (getE f (x : Int))]) ∧ Row w.heap.size v' (getR f (x : Int)).ls w' ∧ Kp w w' := by
  have HKn : Hid (∀ X, Calls Try.prog 19 #[.int .u8 (x : Int)] X fun e w' => e = .returned (.bool (kwB (x : Int))) ∧ Kp X w') := rrknown_any _
  have NB : Hid (∀ X : World, w.heap.size ≤ X.heap.size → Row w.heap.size (.slice none 0 0) [] X) := fun X _ => World.ownsRow_nil _ _ _ _
  unfold getR getE
  cases hk : kwB (x : Int)
  · rw [if_neg (by simp), if_neg (by simp)]
    rw [hk] at HKn
    clear h hk
    go_enter Try.func21, Try.ntmps21
    go_wp2_with fail
    refine Calls.mono (HKn.out _) ?_
    rintro e x1 ⟨rfl, k1⟩
    have b4 := (Lc.new w [.slice none 0 0, .bool false] 24).kp k1
    have kk : Kp w x1 := kp_trans (kp_alloc _ _) k1
    have HQ : Hid _ := box_put b4 (NB.out x1 kk.size) kk (Nat.le_refl _) (.slice none 0 0) (.bool false)
    have y3 := b4.at (j := 0) rfl
    have y4 := b4.at (j := 1) rfl
    have y5 := b4.fz 0
    have y6 := b4.fz 1
    clear b4 kk k1 HKn NB
    go_wp2_with fail
    refine bodyPost_ret (results_box2 rfl rfl HQ.out.1 Try.underlying24 rfl (by kernel_rfl)) rfl ?_
    exact ⟨_, rfl, HQ.out.2⟩
  · rw [if_pos rfl, if_pos rfl]
    rw [hk] at HKn
    obtain ⟨X0, hX0⟩ : ∃ X0 : Nat, smI (x : Int) = (X0 : Int) := ⟨(smI (x : Int)).toNat, by have := sm_in (x := (x : Int)) (by omega) (by omega); omega⟩
    have hXb : X0 < 256 := by have := sm_in (x := (x : Int)) (by omega) (by omega); omega
    have HS : Hid (∀ X, Calls Try.prog 37 #[.int .u8 (x : Int)] X fun e w' => e = .returned (.int .u8 (X0 : Int)) ∧ w' = X) := fun X => by rw [← hX0]; exact rSmall_any _ X
    rw [hX0]
    have hxi : (X0 : Int) < 256 := by omega
    have HD : Hid (∀ X, Kp w X → ∃ a n c wh, (X.cell? ⟨t, X0 * 2, none⟩ = some (.slice a n c) ∧ X.cell? ⟨t, X0 * 2 + 1, none⟩ = some (.bool wh)) ∧ X.cell? ⟨t, 512 + X0, none⟩ = some (.bool (f (X0 : Int)).isSome) ∧ ∀ r, f (X0 : Int) = some r → wh = r.wh ∧ Sl P (.slice a n c) r.ls X) := fun X k => by
      obtain ⟨a, n, c, wh, h1, h2, _, h4⟩ := (h.kp k).dlc hXb
      exact ⟨a, n, c, wh, h1, h2, h4⟩
    have HU : Hid (∀ q, f (X0 : Int) = some q → q.ls ≠ [] ∧ q.ls.length ≤ 8796093022208) := fun q hy => by
      have := h.ok _ q hy
      have h2 := szL_len q.ls
      exact ⟨this.1, by omega⟩
    clear h hk hX0
    cases hf : f (X0 : Int) with
    | none =>
      rw [hf] at HD
      simp only [Option.getD_none, Option.isSome_none, Bool.false_eq_true, if_false] at HD ⊢
      clear HU hf
      go_enter Try.func21, Try.ntmps21
      go_wp2_with fail
      refine Calls.mono (HKn.out _) ?_
      rintro e x1 ⟨rfl, k1⟩
      have b4 := (Lc.new w [.slice none 0 0, .bool false] 24).kp k1
      have kk : Kp w x1 := kp_trans (kp_alloc _ _) k1
      have HQ : Hid _ := box_put b4 (NB.out x1 kk.size) kk (Nat.le_refl _) (.slice none 0 0) (.bool false)
      have y3 := b4.at (j := 0) rfl
      have y4 := b4.at (j := 1) rfl
      have y5 := b4.fz 0
      have y6 := b4.fz 1
      obtain ⟨_, _, _, _, _, y7, _⟩ := HD.out x1 kk
      clear b4 kk k1 HKn NB HD
      go_wp2_with fail
      refine Calls.mono (HS.out _) ?_
      rintro e x2 ⟨rfl, e2⟩
      rw [e2]
      clear e2 HS
      go_wp2_with fail
      refine bodyPost_ret (results_box2 rfl rfl HQ.out.1 Try.underlying24 rfl (by kernel_rfl)) rfl ?_
      exact ⟨_, rfl, HQ.out.2⟩
    | some q =>
      have hq := HU.out q hf
      rw [hf] at HD
      simp only [Option.getD_some, Option.isSome_some, if_true] at HD ⊢
      have HL : Hid (∀ X a n c, Kp w X → Sl P (.slice a n c) q.ls X → Calls Try.prog 34 #[.agg #[.slice a n c, .bool q.wh]] X fun e w' => ∃ a' n' c', e = .returned (.agg #[.slice a' n' c', .bool q.wh]) ∧ Hid (Row w.heap.size (.slice a' n' c') q.ls w' ∧ Kp X w')) := fun X a n c k hs => by
        refine (rlent_any hs hq.2).mono ?_
        rintro e w' ⟨v', he, q1, q2⟩
        rw [ownR_idem hq.1] at he q1
        obtain ⟨a', c', rfl, _, _⟩ := q1.form
        exact ⟨a', _, c', he, row_lift q1 fun j hj => Nat.le_trans k.size (q1.lt j hj).1, q2⟩
      clear HU hf hq NB
      go_enter Try.func21, Try.ntmps21
      go_wp2_with fail
      refine Calls.mono (HKn.out _) ?_
      rintro e x1 ⟨rfl, k1⟩
      have b4 := (Lc.new w [.slice none 0 0, .bool false] 24).kp k1
      have kk : Kp w x1 := kp_trans (kp_alloc _ _) k1
      obtain ⟨a, n, c, wh, ⟨y1, y2⟩, y7, hh⟩ := HD.out x1 kk
      obtain ⟨rfl, hsl⟩ := hh q rfl
      have HL2 : Hid _ := HL.out x1 a n c kk hsl
      have HB4 : Hid (Lc 24 w.heap.size [.slice none 0 0, .bool false] x1 ∧ Kp w x1) := ⟨b4, kk⟩
      clear b4 kk k1 HKn HD hh hsl HL
      go_wp2_with fail
      refine Calls.mono (HS.out _) ?_
      rintro e x2 ⟨rfl, e2⟩
      rw [e2]
      clear e2 HS
      go_wp2_with fail
      refine Calls.mono HL2.out ?_
      rintro e x3 ⟨a', n', c', rfl, H3⟩
      have b7 := HB4.out.1.kp H3.out.2
      have HQ : Hid _ := box_put b7 H3.out.1 (kp_trans HB4.out.2 H3.out.2) (Nat.le_refl _) (.slice a' n' c') (.bool q.wh)
      have y3 := b7.at (j := 0) rfl
      have y4 := b7.at (j := 1) rfl
      have y5 := b7.fz 0
      have y6 := b7.fz 1
      clear b7 H3 HB4 HL2 y1 y2 y7
      go_wp2_with fail
      refine bodyPost_ret (results_box2 rfl rfl HQ.out.1 Try.underlying24 rfl (by kernel_rfl)) rfl ?_
      exact ⟨_, rfl, HQ.out.2⟩
/-- Names up to a byte. -/
def namesTo (f : Rf) (c : Nat) : List Int := ((List.range c).map Int.ofNat).filter fun x => (f x).isSome
theorem namesTo_step (f : Rf) (c : Nat) : namesTo f (c + 1) = namesTo f c ++ (if (f (c : Int)).isSome then [(c : Int)] else []) := by
  unfold namesTo
  rw [List.range_succ, List.map_append, List.filter_append]
  congr 1
  simp only [List.map_cons, List.map_nil]
  show List.filter _ [(c : Int)] = _
  cases q : (f (c : Int)).isSome <;> simp [q]
theorem namesTo_len (f : Rf) (c : Nat) : (namesTo f c).length ≤ c := by
  unfold namesTo
  refine Nat.le_trans (List.length_filter_le _ _) ?_
  simp
theorem Zl.of_row {B : Nat} {ss : List Int} (h : w.ownsRow B 5 1 v ss.length (zcs ss)) : Zl v ss w := by
  rcases h.2 with ⟨rfl, h0⟩ | ⟨g, cap, cur, rfl, _, hg, r1, r2, r3, r4⟩
  · exact .inl ⟨rfl, List.eq_nil_of_length_eq_zero h0⟩
  · refine .inr ⟨g, cap, rfl, r1, r2, cur, hg, by simp; omega, fun i hi => ?_⟩
    simp only [List.size_toArray] at hi
    have : (zcs ss)[i]? = some (.int .u8 ss[i]) := by simp [zcs, hi]
    rw [← r4, List.getElem?_take] at this
    split at this
    · rw [← Array.getElem?_toList, this]
      simp [getElem!_pos, hi]
    · cases this
set_option maxHeartbeats 8000000 in
theorem rnames_any (h : Rr t f P w) : Calls Try.prog 38 #[.pointer (some ⟨t, 0, none⟩)] w fun e w' => ∃ v, e = .returned v ∧ Hid (Zl v (namesF f) w' ∧ Kp w w') := by
  obtain ⟨i9, hi9, z0, z1, z2⟩ := info_parts infoUB
  have HD : Hid (∀ X (c : Nat), Kp w X → c < 256 → X.cell? ⟨t, 512 + c, none⟩ = some (.bool (f (c : Int)).isSome)) := fun X c k hc => by
    obtain ⟨_, _, _, _, _, h2, _, _⟩ := (h.kp k).dlc hc
    exact h2
  clear h
  go_enter Try.func38, Try.ntmps38
  go_wp2_with fail
  go_loopw [3, 4] (fun v3 v4 wr => ∃ (c n : Nat) (a : Option Addr) (cp : Nat), c ≤ 256 ∧ v4 = .int .i64 c ∧ v3 = .slice a n cp ∧ n ≤ 256 ∧ Hid (wr.ownsRow w.heap.size 5 1 (.slice a n cp) n (zcs (namesTo f c)) ∧ Kp w wr ∧ (namesTo f c).length = n)) (fun _ v4 _ => 256 - (intOf v4).toNat)
  case atStart => exact ⟨0, 0, none, 0, by omega, rfl, rfl, by omega, World.ownsRow_nil _ _ _ _, Below.refl _ _, rfl⟩
  case round =>
    obtain ⟨c, n, a, cp, hc, rfl, rfl, hn, HI⟩ := hrel
    by_cases q : c < 256
    · have d1 : decide ((c : Int) < 256) = true := decide_eq_true (by omega)
      have hci : (c : Int) < 256 := by omega
      have y1 := HD.out wr c HI.out.2.1 q
      have hst := namesTo_step f c
      cases hb : (f (c : Int)).isSome
      · rw [hb] at y1 hst
        simp only [Bool.false_eq_true, if_false, List.append_nil] at hst
        have HX : Hid (wr.ownsRow w.heap.size 5 1 (.slice a n cp) n (zcs (namesTo f (c + 1))) ∧ Kp w wr ∧ (namesTo f (c + 1)).length = n) := by rw [hst]; exact HI.out
        clear HI hst hb
        go_wp2_with fail
        go_roundw
        case rel => exact ⟨c + 1, n, a, cp, by omega, by go_num, rfl, by omega, HX.out⟩
        case measure => simp only [intOf]; omega
      · rw [hb] at y1 hst
        simp only [if_true] at hst
        have hn2 : n + 1 ≤ 256 := by
          have h1 := namesTo_len f c
          have := HI.out.2.2
          omega
        obtain ⟨bt, hbt⟩ : ∃ bt, wr.heap.size = bt := ⟨_, rfl⟩
        obtain ⟨W1, hW1⟩ : ∃ W1, wr.alloc (.cells #[.int .u8 (c : Int)] 5) = W1 := ⟨_, rfl⟩
        have kk : Kp wr W1 := by rw [← hW1]; exact kp_alloc _ _
        have HA : Hid (W1.ownsRow w.heap.size 5 1 (.slice a n cp) n (zcs (namesTo f c)) ∧ (∀ j u, ([.int .u8 (c : Int)] : List Value)[j]? = some u → W1.cell? ((⟨bt, 0, none⟩ : Addr).add j) = some u) ∧ w.heap.size ≤ W1.heap.size ∧ Kp w W1) := by
          refine ⟨row_kp HI.out.1 kk, fun j u hj => ?_, Nat.le_trans HI.out.2.1.size kk.size, kp_trans HI.out.2.1 kk⟩
          rw [← hW1, ← hbt, addr_add, (Lc.new wr [.int .u8 (c : Int)] 5).cell]
          exact hj
        have HE : Hid (∀ v' w2, w2.ownsRow w.heap.size 5 1 v' (n + 1) (zcs (namesTo f c) ++ [.int .u8 (c : Int)]) → W1.grownBy w2 (Value.slice a n cp).ownBlock → ∃ a2 c2, v' = .slice a2 (n + 1) c2 ∧ Hid (w2.ownsRow w.heap.size 5 1 (.slice a2 (n + 1) c2) (n + 1) (zcs (namesTo f (c + 1))) ∧ Kp w w2 ∧ (namesTo f (c + 1)).length = n + 1)) := fun v' w2 r1 r2 => by
          obtain ⟨a2, c2, rfl, _, _⟩ := owns_form r1
          refine ⟨a2, c2, rfl, ?_, HA.out.2.2.2.trans (below_grown HA.out.1 HA.out.2.2.1 r2), by rw [hst, List.length_append, HI.out.2.2]; rfl⟩
          rw [hst]
          have : zcs (namesTo f c ++ [(c : Int)]) = zcs (namesTo f c) ++ [.int .u8 (c : Int)] := by simp [zcs]
          rw [this]; exact r1
        have hcw : IntKind.u8.wrap (c : Int) = (c : Int) := by rw [IntKind.wrap_u8]; omega
        have hcm : (c : Int) % 256 = (c : Int) := by omega
        have HW : Hid (_ = W1) := hW1
        clear HI hst hb kk hW1
        go_wp2_with (at_builtin; refine wpList_append_own _ rfl (.tmp 15) (.tmp 18) 39 rfl w.heap.size 5 i9 _ 1 1 Try.underlying39 hi9 z0 z1 z2 rfl (by decide) (.slice a n cp) n (zcs (namesTo f c)) rfl (HW.out ▸ HA.out.1) ⟨bt, 0, none⟩ 1 1 [.int .u8 (c : Int)] rfl rfl (HW.out ▸ HA.out.2.1) (by simp [Value.oneCell']) (by unfold maxLen; omega) (by omega) (HW.out ▸ HA.out.2.2.1) ?_; intro v' w2 q1 q2 q3; obtain ⟨a2, c2, rfl, HX⟩ := HE.out v' w2 q1 (HW.out ▸ q2); clear q1 q2 q3)
        clear HA HE HW hbt
        go_roundw
        case rel => exact ⟨c + 1, n + 1, a2, c2, by omega, by go_num, rfl, by omega, HX.out⟩
        case measure => simp only [intOf]; omega
    · obtain rfl : c = 256 := by omega
      have HX : Hid (Zl (.slice a n cp) (namesF f) wr ∧ Kp w wr) := by
        have h1 := HI.out.1
        have h2 := HI.out.2.2
        refine ⟨Zl.of_row (B := w.heap.size) (ss := namesTo f 256) ?_, HI.out.2.1⟩
        rw [h2]; exact h1
      clear HI
      go_wp2_with fail
      go_ret
      exact ⟨_, rfl, HX.out⟩
end
end Go.Proofs.Ytbnlenanfhggiaa
/- alike: is the same in all registers? -/
namespace Go.Proofs.Ytbnlenanfhggiaa
open Go.ChangeShapes Go.WideShapes Go.ChangeAt Go.RowKit Go.Maps Go.MapKept
set_option linter.unusedVariables false
set_option linter.unusedSimpArgs false
set_option maxRecDepth 100000
def bsI (ss : List Int) : List UInt8 := ss.map fun x => UInt8.ofNat x.toNat
theorem zl_str {v : Value} {ss : List Int} {w : World} (h : Zl v ss w) (hb : ∀ x ∈ ss, 0 ≤ x ∧ x < 256) : (convert 39 9 v).run Try.prog w = .ok (.string ⟨(bsI ss).toArray⟩) w := by
  rcases h with ⟨rfl, rfl⟩ | ⟨g, cap, rfl, h1, h2, cur, hg, hs, hc⟩
  · rw [run_convert_bytes_string w 39 9 5 none 0 0 Try.underlying39 Try.underlying5 Try.underlying9]
    simp [Conv.bytesToString]
    rfl
  · have hl : (bsI ss).length = ss.length := by simp [bsI]
    rw [← hl]
    refine run_convert_bytes_back w 39 9 5 ⟨g, 0, none⟩ cap (bsI ss) Try.underlying39 Try.underlying5 Try.underlying9 fun j hj => ?_
    rw [hl] at hj
    rw [addr_add, cell_at hg, hc j (by simpa using hj)]
    have e : ss.toArray[j]! = ss[j] := by simp [getElem!_pos, hj]
    have hx := hb ss[j] (List.getElem_mem hj)
    rw [e]
    congr 2
    simp only [bsI, List.getElem_map]
    rw [UInt8.toNat_ofNat']
    omega
theorem zl_at {v : Value} {ss : List Int} {w : World} (h : Zl v ss w) : ∃ a c, v = .slice a ss.length c ∧ ss.length ≤ c ∧ c ≤ maxLen ∧ ∀ i y, ss[i]? = some y → ∃ g, a = some ⟨g, 0, none⟩ ∧ w.cell? ⟨g, i, none⟩ = some (.int .u8 y) := by
  rcases h with ⟨rfl, rfl⟩ | ⟨g, cap, rfl, h1, h2, cur, hg, hs, hc⟩
  · exact ⟨none, 0, rfl, by simp, by simp [maxLen], fun i y hi => by cases hi⟩
  · refine ⟨_, cap, rfl, h1, h2, fun i y hi => ⟨g, rfl, ?_⟩⟩
    obtain ⟨hl, rfl⟩ := List.getElem?_eq_some_iff.1 hi
    rw [cell_at hg, hc i (by simpa using hl)]
    simp [getElem!_pos, hl]
theorem Zl.kp {v : Value} {ss : List Int} {w w1 : World} (h : Zl v ss w) (k : Kp w w1) : Zl v ss w1 := by
  rcases h with h | ⟨g, cap, e, h1, h2, h3⟩
  · exact .inl h
  · exact .inr ⟨g, cap, e, h1, h2, h3.heap (k.block g h3.lt)⟩
/-- A name in which something is. -/
theorem name_got {f : Rf} {y : Int} {q : Rv} (hd : nmB y = true) (hf : f y = some q) : getR f y = q ∧ getE f y = 0 := by
  have h := nm_all hd
  have hs : smI y = y := by
    unfold smI
    have : grtB y = false := by
      cases p : grtB y with
      | false => rfl
      | true => have := grtB_iff.1 p; omega
    rw [this]; simp
  have hk : kwB y = true := by
    unfold nmB at hd
    unfold kwB letB
    cases h1 : (y == 34) <;> cases h2 : digB y <;> cases h3 : smlB y <;> simp_all
  unfold getR getE
  rw [if_pos hk, if_pos hk, hs, hf]
  exact ⟨rfl, rfl⟩
set_option maxHeartbeats 8000000 in
theorem alike_any {t b t2 : Nat} {f : Rf} {P Q : Nat → Prop} {w : World} (h : Rs t b f P w) (h2 : Rr t2 f Q w) :
    Calls Try.prog 25 #[.pointer (some ⟨t, 0, none⟩), .pointer (some ⟨t2, 0, none⟩)] w fun e w' => e = .returned (.bool true) ∧ Kp w w' := by
  have hbd : ∀ x ∈ namesF f, 0 ≤ x ∧ x < 256 := fun x hx => by
    have := (names_mem h.dom x).1 hx
    cases q : f x with
    | none => exact absurd q this
    | some r => exact nm_in (h.dom x r q)
  have HG : Hid (∀ y ∈ namesF f, ∃ q, f y = some q ∧ nmB y = true) := fun y hy => by
    have := (names_mem h.dom y).1 hy
    cases q : f y with
    | none => exact absurd q this
    | some r => exact ⟨r, rfl, h.dom y r q⟩
  have HN1 : Hid _ := gnames_any h
  have HN2 : Hid (∀ X, Kp w X → Calls Try.prog 38 #[.pointer (some ⟨t2, 0, none⟩)] X fun e w' => ∃ v, e = .returned v ∧ Hid (Zl v (namesF f) w' ∧ Kp X w')) := fun X k => rnames_any (h2.kp k)
  have HH : Hid (Rs t b f P w ∧ Rr t2 f Q w) := ⟨h, h2⟩
  obtain ⟨ss, hss⟩ : ∃ ss, namesF f = ss := ⟨_, rfl⟩
  rw [hss] at HN1 HN2 HG hbd
  obtain ⟨N, hN⟩ : ∃ N, ss.length = N := ⟨_, rfl⟩
  have hN256 : N ≤ 256 := by have := namesTo_len f 256; have e : namesTo f 256 = ss := hss; rw [e] at this; omega
  clear h h2 hss
  go_enter Try.func25, Try.ntmps25
  go_wp2_with fail
  refine Calls.mono HN1.out ?_
  rintro e x1 ⟨v1, rfl, H1⟩
  clear HN1
  have HN3 : Hid _ := HN2.out x1 H1.out.2
  go_wp2_with fail
  refine Calls.mono HN3.out ?_
  rintro e x2 ⟨v2, rfl, H2⟩
  have hz1 := H1.out.1.kp H2.out.2
  have kc1 := zl_str hz1 hbd
  have kc2 := zl_str H2.out.1 hbd
  obtain ⟨a1, c1, rfl, g1, g2, hat⟩ := zl_at hz1
  rw [hN] at kc1 g1
  have HAT : Hid (∀ i y, ss[i]? = some y → ∃ g, a1 = some ⟨g, 0, none⟩ ∧ x2.cell? ⟨g, i, none⟩ = some (.int .u8 y)) := hat
  have HK2 : Hid (Kp w x2) := kp_trans H1.out.2 H2.out.2
  obtain ⟨S, hS⟩ : ∃ S : ByteArray, (⟨(bsI ss).toArray⟩ : ByteArray) = S := ⟨_, rfl⟩
  rw [hS] at kc1 kc2
  unfold maxLen at g2
  rw [hN]
  have HSN : Hid (ss.length = N ∧ ∀ x ∈ ss, 0 ≤ x ∧ x < 256) := ⟨hN, hbd⟩
  clear HN2 HN3 H1 H2 hz1 hat hS hN hbd
  go_wp2_with fail
  clear kc1 kc2
  go_loopw [7] (fun v7 wr => ∃ (i : Nat), i ≤ N ∧ v7 = .int .i64 i ∧ Hid (Kp x2 wr)) (fun v7 _ => N - (intOf v7).toNat)
  case atStart => exact ⟨0, Nat.zero_le _, rfl, Below.refl _ _⟩
  case round =>
    obtain ⟨i, hi, rfl, HI⟩ := hrel
    by_cases hlt : i < N
    · have d1 : decide ((i : Int) < (N : Int)) = true := decide_eq_true (by omega)
      have d2 : decide (i < N) = true := decide_eq_true (by omega)
      obtain ⟨yv, hyv⟩ : ∃ y, ss[i]? = some y := ⟨_, List.getElem?_eq_getElem (by rw [HSN.out.1]; exact hlt)⟩
      have hmem := List.mem_of_getElem? hyv
      obtain ⟨q, hq, hnm⟩ := HG.out yv hmem
      have hyb := HSN.out.2 yv hmem
      obtain ⟨y, rfl⟩ : ∃ y : Nat, yv = (y : Int) := ⟨yv.toNat, by omega⟩
      obtain ⟨gR, gE⟩ := name_got hnm hq
      obtain ⟨g, rfl, hc⟩ := HAT.out i _ hyv
      have kw := kp_trans HK2.out HI.out
      have HG1 : Hid _ := get_some (HH.out.1.kp kw) (x := (y : Int)) (by omega) (by omega) gR gE
      have HG2 : Hid (∀ X, Kp wr X → Calls Try.prog 21 #[.pointer (some ⟨t2, 0, none⟩), .int .u8 (y : Int)] X fun e w' => ∃ a n c, e = .returned (.tuple #[.agg #[.slice a n c, .bool q.wh], .int .i64 0]) ∧ Hid (Row X.heap.size (.slice a n c) q.ls w' ∧ Kp X w')) := fun X k => by
        refine (rget_any (HH.out.2.kp (kp_trans kw k)) (by omega)).mono ?_
        rintro e w' ⟨v', he, q1, q2⟩
        rw [gR, gE] at he
        rw [gR] at q1
        obtain ⟨a, c, rfl, _, _⟩ := q1.form
        exact ⟨a, _, c, he, q1, q2⟩
      have f1 := kp_cell HI.out hc
      have HKW : Hid (Kp w wr) := kw
      clear hyv hmem hq hnm hyb gR gE hc kw
      go_wp2_with fail
      refine Calls.mono HG1.out ?_
      rintro e x3 ⟨a3, n3, c3, rfl, qn, hn3, hn3', H3⟩
      clear HG1 qn
      obtain ⟨W3, hW3⟩ : ∃ W3, x3.alloc (.cells #[.slice a3 n3 c3, .bool q.wh] 24) = W3 := ⟨_, rfl⟩
      have k3 : Kp wr W3 := by rw [← hW3]; exact kp_trans H3.out.2 (kp_alloc _ _)
      have b3 : Lc 24 x3.heap.size [.slice a3 n3 c3, .bool q.wh] W3 := by rw [← hW3]; exact Lc.new x3 _ _
      have s3 : Sl Anyw (.slice a3 n3 c3) q.ls W3 := by
        have := ((Sl.of_row H3.out.1).mono (Q := Anyw) fun _ _ _ => trivial).kp (kp_alloc x3 (.cells #[.slice a3 n3 c3, .bool q.wh] 24))
        rw [hW3] at this; exact this
      have HG3 : Hid _ := HG2.out W3 k3
      replace f1 := kp_cell k3 f1
      obtain ⟨b8, hb8⟩ : ∃ b8, x3.heap.size = b8 := ⟨_, rfl⟩
      rw [hb8] at b3
      have HS3 : Hid (Lc 24 b8 [.slice a3 n3 c3, .bool q.wh] W3 ∧ Sl Anyw (.slice a3 n3 c3) q.ls W3 ∧ Kp wr W3) := ⟨b3, s3, k3⟩
      have HW : Hid (_ = W3) := hW3
      clear hW3 k3 b3 s3 H3 HG2
      go_upto_region 9 with fail
      rw [HW.out]
      clear HW hb8
      go_wp2_with fail
      refine Calls.mono HG3.out ?_
      rintro e x4 ⟨a4, n4, c4, rfl, H4⟩
      clear HG3
      obtain ⟨W4, hW4⟩ : ∃ W4, x4.alloc (.cells #[.slice a4 n4 c4, .bool q.wh] 24) = W4 := ⟨_, rfl⟩
      have k4 : Kp W3 W4 := by rw [← hW4]; exact kp_trans H4.out.2 (kp_alloc _ _)
      have b4 : Lc 24 x4.heap.size [.slice a4 n4 c4, .bool q.wh] W4 := by rw [← hW4]; exact Lc.new x4 _ _
      have s4 : Sl Anyw (.slice a4 n4 c4) q.ls W4 := by
        have := ((Sl.of_row H4.out.1).mono (Q := Anyw) fun _ _ _ => trivial).kp (kp_alloc x4 (.cells #[.slice a4 n4 c4, .bool q.wh] 24))
        rw [hW4] at this; exact this
      have HSA : Hid (Calls Try.prog 22 #[.agg #[.slice a3 n3 c3, .bool q.wh], .agg #[.slice a4 n4 c4, .bool q.wh]] W4 fun e w' => e = .returned (.bool true) ∧ Kp W4 w') := same_any (HS3.out.2.1.kp k4) s4
      have y1 := (HS3.out.1.kp k4).at (j := 0) rfl
      have y2 := (HS3.out.1.kp k4).at (j := 1) rfl
      have y3 := b4.at (j := 0) rfl
      have y4 := b4.at (j := 1) rfl
      obtain ⟨b10, hb10⟩ : ∃ b10, x4.heap.size = b10 := ⟨_, rfl⟩
      rw [hb10] at y3 y4
      have HK4 : Hid (Kp x2 W4) := kp_trans HI.out (kp_trans HS3.out.2.2 k4)
      have HW : Hid (_ = W4) := hW4
      clear hW4 k4 b4 s4 H4 HS3 f1 HI
      go_upto_region 10 with fail
      rw [HW.out]
      clear HW hb10
      go_wp2_with fail
      refine Calls.mono HSA.out ?_
      rintro e x5 ⟨rfl, k5⟩
      have HX : Hid (Kp x2 x5) := kp_trans HK4.out k5
      clear HSA y1 y2 y3 y4 k5 HK4
      go_wp2_with fail
      go_roundw
      case rel => exact ⟨i + 1, by omega, by go_num, HX.out⟩
      case measure => simp only [intOf]; omega
    · obtain rfl : i = N := by omega
      have d1 : decide ((i : Int) < (i : Int)) = false := by simp
      have HE : Hid (Kp w wr) := kp_trans HK2.out HI.out
      clear HI HAT HG HSN
      go_wp2_with fail
      go_ret
      exact ⟨rfl, HE.out⟩
end Go.Proofs.Ytbnlenanfhggiaa
