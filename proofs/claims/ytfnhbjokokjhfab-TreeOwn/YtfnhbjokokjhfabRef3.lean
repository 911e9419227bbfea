/- The document's answer: its call Splice. -/
import Derived.Test.YtfnhbjokokjhfabRef2
namespace Go.Proofs.Ytfnhbjokokjhfab
open Go.ChangeShapes Go.WideShapes Go.ChangeAt Go.RowKit
section
variable {o : Own} {w : World} {r : Nat} {ls ms : List ByteArray}

def Out (B : Nat) (w1 wk : World) (vk : Value) (xs : List ByteArray) : Prop := wk.ownsRow B 9 1 vk xs.length (strs xs) ∧ Below B w1 wk ∧ B ≤ wk.heap.size ∧ ∀ k, vk.ownBlock = some k → B ≤ k
theorem Out.step {B : Nat} {w1 wk wk' : World} {vk v' : Value} {xs ys : List ByteArray} {n m : Nat} (h : Out B w1 wk vk xs) (hn : xs.length = n) (hm : ys.length = m) (ho : wk'.ownsRow B 9 1 v' (n + m) (strs xs ++ strs ys)) (hg : wk.grownBy wk' vk.ownBlock) :
    ∃ a c, v' = .slice a (n + m) c ∧ Hid (Out B w1 wk' v' (xs ++ ys)) := by
  obtain ⟨a, c, e⟩ := owns_form ho
  have e1 : strs xs ++ strs ys = strs (xs ++ ys) := by simp [strs]
  have e2 : (xs ++ ys).length = n + m := by simp; omega
  refine ⟨a, c, e, by rw [e2, ← e1]; exact ho, below_grown h.2.1 h.2.2.1 hg h.2.2.2, Nat.le_trans h.2.2.1 hg.size, fun k hk => (ho.lt k hk).1⟩
set_option maxHeartbeats 2000000 in
set_option maxRecDepth 100000 in
theorem rsplice_ok (h : Rf o w r ls) (hlt : ∀ k, o k ≠ .free → k < w.heap.size) (hl : ls.length + ms.length < 2 ^ 38) {v : Value} (hv : Lies nobody w v ms) (hnn : ∀ n c, v = .slice none n c → n = 0 ∧ c = 0) {i n : Nat} (hin : i + n ≤ ls.length) :
    Calls Try.prog 21 #[.pointer (some ⟨r, 0, none⟩), .int .i64 i, .int .i64 n, v] w fun e w' => e = .returned (.bool true) ∧ Rf o w' r (mix ls ms i ms.length (i + n)) ∧ Keeps (refOwn r) (refOwn r) w w' := by
  have HP : Hid (Calls Try.prog 23 #[.pointer (some ⟨r, 0, none⟩), .int .i64 i, .int .i64 n] w fun e w' => ∃ a c, e = .returned (.tuple #[.slice a n c, .bool true]) ∧ Below w.heap.size w w') := by
    refine (rpart_ok h (by omega) hin).mono ?_
    rintro e w' ⟨a, c, e1, _, e3⟩
    exact ⟨a, c, e1, e3⟩
  obtain ⟨i9, hi9, z0, z1, z2⟩ := info_parts info9
  obtain ⟨lv, h1, h2⟩ := h.ex
  have hrl := h.lt
  have hrf := h.free
  obtain ⟨av, cv, hvf, v1, v2⟩ := hv.form
  subst hvf
  obtain ⟨M, hM⟩ : ∃ M, ms.length = M := ⟨_, rfl⟩
  obtain ⟨L, hL⟩ : ∃ L, ls.length = L := ⟨_, rfl⟩
  obtain ⟨Z, hZ⟩ : ∃ Z : Nat, Z = L - (i + n) := ⟨_, rfl⟩
  have F1 : Hid ((ls.take i).length = i) := by show (ls.take i).length = i; simp; omega
  have F2 : Hid (ms.length = M) := hM
  have F3 : Hid ((ls.drop (i + n)).length = Z) := by show (ls.drop (i + n)).length = Z; simp; omega
  have N1 : Hid ((strs (ls.take i)).length = i * 1) := by show (strs (ls.take i)).length = i * 1; simp only [strs, List.length_map]; have := F1.out; omega
  have N2 : Hid ((strs ms).length = M * 1) := by show (strs ms).length = M * 1; simp only [strs, List.length_map]; omega
  have N3 : Hid ((strs (ls.drop (i + n))).length = Z * 1) := by show (strs (ls.drop (i + n))).length = Z * 1; simp only [strs, List.length_map]; have := F3.out; omega
  have U1 : Hid (∀ u ∈ strs (ls.take i), u.oneCell' = true) := strs_one _
  have U2 : Hid (∀ u ∈ strs ms, u.oneCell' = true) := strs_one _
  have U3 : Hid (∀ u ∈ strs (ls.drop (i + n)), u.oneCell' = true) := strs_one _
  rw [hM] at v1 hl hv ⊢
  have HNN : Hid (av = none → M = 0 ∧ cv = 0) := fun e => hnn M cv (by rw [e, hM])
  have hw2 : IntKind.i64.wrap ((i : Int) + (n : Int)) = (i : Int) + (n : Int) := by rw [IntKind.wrap_i64]; omega
  have CV : Hid (∀ x, Below w.heap.size w x → ∀ ad, av = some ad → ∀ j u, (strs ms)[j]? = some u → x.cell? (ad.add j) = some u) := by
    intro x hx ad e j u hj
    have hj' := hj
    simp only [strs, List.getElem?_map, Option.map_eq_some_iff] at hj
    obtain ⟨y, hy, rfl⟩ := hj
    have hvx := hv.below hx (Nat.le_refl _)
    obtain ⟨b, off, e1, _⟩ := hvx.cell hy
    rw [e] at e1; cases e1
    subst e
    exact lies_news hvx j _ hj'
  have CL : Hid (∀ x, Below w.heap.size w x → x.cell? ⟨r, 0, none⟩ = some lv ∧ x.frozen? ⟨r, 0, none⟩ = false) := by
    intro x hx
    have : x.heap[r]? = some (.cells #[lv] 36 (0, 0)) := by rw [hx.block r hrl]; exact h1
    exact ⟨by simp [World.cell?, this], by simp [World.frozen?, this]⟩
  have CS : Hid (∀ b cap, lv = .slice (some ⟨b, 0, none⟩) ls.length cap → ∀ x, Below w.heap.size w x → (∀ j u, (strs (ls.take i))[j]? = some u → x.cell? ((⟨b, 0, none⟩ : Addr).add j) = some u) ∧ (∀ j u, (strs (ls.drop (i + n)))[j]? = some u → x.cell? ((⟨b, i + n, none⟩ : Addr).add j) = some u)) := by
    intro b cap e x hx
    subst e
    have hq := h2.lies.below hx (Nat.le_refl _)
    refine ⟨fun j u hj => ?_, fun j u hj => ?_⟩
    · simp only [strs, List.getElem?_map, Option.map_eq_some_iff] at hj
      obtain ⟨y, hy, rfl⟩ := hj
      rw [List.getElem?_take] at hy
      split at hy
      · obtain ⟨b', off, e, hc⟩ := hq.cell hy
        cases e
        rw [Addr.add_lit]; exact hc
      · cases hy
    · simp only [strs, List.getElem?_map, Option.map_eq_some_iff] at hj
      obtain ⟨y, hy, rfl⟩ := hj
      rw [List.getElem?_drop] at hy
      obtain ⟨b', off, e, hc⟩ := hq.cell hy
      cases e
      rw [Addr.add_lit]; rw [Nat.zero_add] at hc; exact hc
  have FIN : Hid (∀ x x4 v3, Below w.heap.size w x → Out x.heap.size x x4 v3 (ls.take i ++ ms ++ ls.drop (i + n)) → Rf o (x4.setCell ⟨r, 0, none⟩ v3) r (mix ls ms i M (i + n)) ∧ Keeps (refOwn r) (refOwn r) w (x4.setCell ⟨r, 0, none⟩ v3)) := by
    intro x x4 v3 hx ⟨q1, q2, q3, q4⟩
    have hb4 : Below w.heap.size w x4 := hx.trans (below_mono q2 hx.size)
    have hr4 : x4.heap[r]? = some (.cells #[lv] 36 (0, 0)) := by rw [hb4.block r hrl]; exact h1
    have e : ls.take i ++ ms ++ ls.drop (i + n) = mix ls ms i M (i + n) := by unfold mix; rw [← F2.out, List.take_length]; simp
    rw [e] at q1
    refine ⟨⟨hrf, v3, by rw [heap_setCell hr4]; rfl, ?_⟩, hb4.os, hb4.tape, hb4.output, by rw [size_setCell]; exact hb4.size, fun k hk hf => ?_, fun _ _ hf => hf⟩
    · rcases q1.2 with ⟨e1, e2⟩ | ⟨b, cap, cur, e1, hge, hg, r1, r2, r3, r4⟩
      · left; exact ⟨e1, List.eq_nil_of_length_eq_zero e2⟩
      · right
        have hxs := hx.size
        refine ⟨b, cap, e1, r1, r2, by rw [size_setCell]; exact (Array.getElem?_eq_some_iff.1 hg).1, ?_, by omega, fun j y hj => ?_⟩
        · by_cases h : o b = .free
          · exact h
          · exact absurd (hlt b h) (by omega)
        · have hg' : (x4.setCell ⟨r, 0, none⟩ v3).heap[b]? = some (.cells cur 9 (0, 0)) := by rw [heap_setCell_other (by omega)]; exact hg
          exact (row_cell hg' r4 (cap := cap) (by simp [strs, hj])).1
    · have hne : k ≠ r := fun e => by subst e; simp [refOwn] at hf
      rw [heap_setCell_other hne]; exact hb4.block k hk
  unfold maxLen at v2
  clear h h1 hv hnn hrl hrf hlt hM
  rcases h2 with ⟨rfl, rfl⟩ | ⟨b, cap, rfl, x1, x2, _⟩
  · obtain ⟨rfl, rfl⟩ : i = 0 ∧ n = 0 := by simp at hin; omega
    obtain rfl : Z = 0 := by simp at hL; omega
    clear CS hL hZ
    go_enter Try.func21, Try.ntmps21
    go_wp2_with fail
    refine Calls.mono HP.out ?_
    rintro e x1 ⟨ap, cp, rfl, hbx⟩
    have HBX : Hid (Below w.heap.size w x1) := hbx
    obtain ⟨d0, d1⟩ := CL.out x1 hbx
    have O0 : Hid (Out x1.heap.size x1 x1 (.slice none 0 0) []) := ⟨World.ownsRow_nil _ _ _ _, Below.refl _ _, Nat.le_refl _, fun k hk => by cases hk⟩
    have HB : Hid (∀ x, Below x1.heap.size x1 x → Below w.heap.size w x) := fun x hx => HBX.out.trans (below_mono hx HBX.out.size)
    clear hbx
    have HD : Hid (∀ x, Below x1.heap.size x1 x → x.cell? ⟨r, 0, none⟩ = some (.slice none 0 0) ∧ x.frozen? ⟨r, 0, none⟩ = false) := fun x hx => CL.out x (HB.out x hx)
    go_wp2_with (first
      | (at_builtin; refine wpList_append_src rfl (.tmp 21) (.tmp 27) 22 rfl x1.heap.size 9 i9 _ 1 16 Try.underlying22 hi9 z0 z1 z2 rfl (by decide) (.slice none 0 0) 0 (strs []) rfl O0.out.1 none 0 0 (strs (([] : List ByteArray).take 0)) rfl N1.out (fun _ => ⟨rfl, rfl⟩) (fun ad e => by cases e) U1.out (by unfold maxLen; omega) (by omega) (Nat.le_refl _) ?_; intro vv w2 ho hg; obtain ⟨a1, c1, he, Q1⟩ := Out.step O0.out rfl F1.out ho hg; subst he; simp only [List.length_nil, Nat.zero_add] at Q1 ⊢; obtain ⟨d2, d3⟩ := HD.out w2 Q1.out.2.1; clear ho hg)
      | (at_builtin; refine wpList_append_src rfl (.tmp 29) (.tmp 30) 22 rfl x1.heap.size 9 i9 _ 1 16 Try.underlying22 hi9 z0 z1 z2 rfl (by decide) (.slice a1 0 c1) 0 (strs (([] : List ByteArray).take 0)) rfl (by have := Q1.out.1; rw [List.nil_append, F1.out] at this; exact this) av M cv (strs ms) rfl N2.out HNN.out (CV.out _ (HB.out _ Q1.out.2.1)) U2.out (by unfold maxLen; omega) (by omega) Q1.out.2.2.1 ?_; intro vv w3 ho hg; obtain ⟨a2, c2, he, Q2⟩ := Out.step Q1.out (by rw [List.nil_append]; exact F1.out) F2.out ho hg; subst he; simp only [Nat.zero_add] at Q2 ⊢; obtain ⟨d4, d5⟩ := HD.out w3 Q2.out.2.1; clear ho hg)
      | (at_builtin; refine wpList_append_src rfl (.tmp 32) (.tmp 40) 22 rfl x1.heap.size 9 i9 _ 1 16 Try.underlying22 hi9 z0 z1 z2 rfl (by decide) (.slice a2 M c2) M (strs ((([] : List ByteArray).take 0) ++ ms)) rfl (by have := Q2.out.1; rw [List.nil_append, List.length_append, F1.out, F2.out, Nat.zero_add] at this; exact this) none 0 0 (strs (([] : List ByteArray).drop (0 + 0))) rfl N3.out (fun _ => ⟨rfl, rfl⟩) (fun ad e => by cases e) U3.out (by unfold maxLen; omega) (by omega) Q2.out.2.2.1 ?_; intro vv w4 ho hg; obtain ⟨a3, c3, he, Q3⟩ := Out.step Q2.out (by rw [List.nil_append, List.length_append, F1.out, F2.out, Nat.zero_add]) F3.out ho hg; subst he; obtain ⟨d6, d7⟩ := HD.out w4 Q3.out.2.1; clear ho hg))
    go_ret
    exact ⟨rfl, FIN.out x1 w4 _ HBX.out (by have := Q3.out; rw [List.nil_append] at this; exact this)⟩
  · have CS2 : Hid _ := CS.out b cap rfl
    have GL : Hid (ls.length = L) := hL
    rw [hL] at x1 hin hl
    rw [hL] at CL
    clear CS
    unfold maxLen at x2
    by_cases hc : cap = i + n
    · have hZ0 : Z = 0 := by omega
      subst hZ0
      have C0 : Hid (∀ x : World, ∀ j u, (strs (ls.drop (i + n)))[j]? = some u → x.cell? ((⟨b, 0, none⟩ : Addr).add j) = some u) := by
        intro x j u hj
        have := (List.getElem?_eq_some_iff.1 hj).1
        have := N3.out
        omega
      have N4 : Hid ((strs (ls.drop (i + n))).length = (L - (i + n)) * 1) := by show (strs (ls.drop (i + n))).length = (L - (i + n)) * 1; have := N3.out; omega
      have F4 : Hid ((ls.drop (i + n)).length = L - (i + n)) := by show (ls.drop (i + n)).length = L - (i + n); have := F3.out; omega
      subst hc
      clear hL hZ
      go_enter Try.func21, Try.ntmps21
      go_wp2_with fail
      refine Calls.mono HP.out ?_
      rintro e x1 ⟨ap, cp, rfl, hbx⟩
      have HBX : Hid (Below w.heap.size w x1) := hbx
      obtain ⟨d0, d1⟩ := CL.out x1 hbx
      have O0 : Hid (Out x1.heap.size x1 x1 (.slice none 0 0) []) := ⟨World.ownsRow_nil _ _ _ _, Below.refl _ _, Nat.le_refl _, fun k hk => by cases hk⟩
      have HB : Hid (∀ x, Below x1.heap.size x1 x → Below w.heap.size w x) := fun x hx => HBX.out.trans (below_mono hx HBX.out.size)
      clear hbx
      have HD : Hid (∀ x, Below x1.heap.size x1 x → x.cell? ⟨r, 0, none⟩ = some (.slice (some ⟨b, 0, none⟩) L (i + n)) ∧ x.frozen? ⟨r, 0, none⟩ = false) := fun x hx => CL.out x (HB.out x hx)
      go_wp2_with (first
        | (at_builtin; refine wpList_append_src rfl (.tmp 21) (.tmp 27) 22 rfl x1.heap.size 9 i9 _ 1 16 Try.underlying22 hi9 z0 z1 z2 rfl (by decide) (.slice none 0 0) 0 (strs []) rfl O0.out.1 (some ⟨b, 0, none⟩) i (i + n) (strs (ls.take i)) rfl N1.out (fun e => by cases e) (fun ad e => by cases e; exact (CS2.out _ HBX.out).1) U1.out (by unfold maxLen; omega) (by omega) (Nat.le_refl _) ?_; intro vv w2 ho hg; obtain ⟨a1, c1, he, Q1⟩ := Out.step O0.out rfl F1.out ho hg; subst he; simp only [List.length_nil, Nat.zero_add] at Q1 ⊢; obtain ⟨d2, d3⟩ := HD.out w2 Q1.out.2.1; clear ho hg)
        | (at_builtin; refine wpList_append_src rfl (.tmp 29) (.tmp 30) 22 rfl x1.heap.size 9 i9 _ 1 16 Try.underlying22 hi9 z0 z1 z2 rfl (by decide) (.slice a1 i c1) i (strs (ls.take i)) rfl (by have := Q1.out.1; rw [List.nil_append, F1.out] at this; exact this) av M cv (strs ms) rfl N2.out HNN.out (CV.out _ (HB.out _ Q1.out.2.1)) U2.out (by unfold maxLen; omega) (by omega) Q1.out.2.2.1 ?_; intro vv w3 ho hg; obtain ⟨a2, c2, he, Q2⟩ := Out.step Q1.out (by rw [List.nil_append]; exact F1.out) F2.out ho hg; subst he; obtain ⟨d4, d5⟩ := HD.out w3 Q2.out.2.1; clear ho hg)
        | (at_builtin; refine wpList_append_src rfl (.tmp 32) (.tmp 40) 22 rfl x1.heap.size 9 i9 _ 1 16 Try.underlying22 hi9 z0 z1 z2 rfl (by decide) (.slice a2 (i + M) c2) (i + M) (strs ((ls.take i) ++ ms)) rfl (by have := Q2.out.1; rw [List.nil_append, List.length_append, F1.out, F2.out] at this; exact this) (some ⟨b, 0, none⟩) (L - (i + n)) (i + n - (i + n)) (strs (ls.drop (i + n))) rfl N4.out (fun e => by cases e) (fun ad e => by cases e; exact C0.out _) U3.out (by unfold maxLen; omega) (by omega) Q2.out.2.2.1 ?_; intro vv w4 ho hg; obtain ⟨a3, c3, he, Q3⟩ := Out.step Q2.out (by rw [List.nil_append, List.length_append, F1.out, F2.out]) F4.out ho hg; subst he; obtain ⟨d6, d7⟩ := HD.out w4 Q3.out.2.1; clear ho hg))
      go_ret
      exact ⟨rfl, FIN.out x1 w4 _ HBX.out (by have := Q3.out; rw [List.nil_append, show L - (i + n) = 0 by omega, Nat.add_zero] at this; exact this)⟩
    · skip
      have N4 : Hid ((strs (ls.drop (i + n))).length = (L - (i + n)) * 1) := by show (strs (ls.drop (i + n))).length = (L - (i + n)) * 1; have := N3.out; omega
      have F4 : Hid ((ls.drop (i + n)).length = L - (i + n)) := by show (ls.drop (i + n)).length = L - (i + n); have := F3.out; omega
      clear hL hZ
      go_enter Try.func21, Try.ntmps21
      go_wp2_with fail
      refine Calls.mono HP.out ?_
      rintro e x1 ⟨ap, cp, rfl, hbx⟩
      have HBX : Hid (Below w.heap.size w x1) := hbx
      obtain ⟨d0, d1⟩ := CL.out x1 hbx
      have O0 : Hid (Out x1.heap.size x1 x1 (.slice none 0 0) []) := ⟨World.ownsRow_nil _ _ _ _, Below.refl _ _, Nat.le_refl _, fun k hk => by cases hk⟩
      have HB : Hid (∀ x, Below x1.heap.size x1 x → Below w.heap.size w x) := fun x hx => HBX.out.trans (below_mono hx HBX.out.size)
      clear hbx
      have HD : Hid (∀ x, Below x1.heap.size x1 x → x.cell? ⟨r, 0, none⟩ = some (.slice (some ⟨b, 0, none⟩) L cap) ∧ x.frozen? ⟨r, 0, none⟩ = false) := fun x hx => CL.out x (HB.out x hx)
      go_wp2_with (first
        | (at_builtin; refine wpList_append_src rfl (.tmp 21) (.tmp 27) 22 rfl x1.heap.size 9 i9 _ 1 16 Try.underlying22 hi9 z0 z1 z2 rfl (by decide) (.slice none 0 0) 0 (strs []) rfl O0.out.1 (some ⟨b, 0, none⟩) i cap (strs (ls.take i)) rfl N1.out (fun e => by cases e) (fun ad e => by cases e; exact (CS2.out _ HBX.out).1) U1.out (by unfold maxLen; omega) (by omega) (Nat.le_refl _) ?_; intro vv w2 ho hg; obtain ⟨a1, c1, he, Q1⟩ := Out.step O0.out rfl F1.out ho hg; subst he; simp only [List.length_nil, Nat.zero_add] at Q1 ⊢; obtain ⟨d2, d3⟩ := HD.out w2 Q1.out.2.1; clear ho hg)
        | (at_builtin; refine wpList_append_src rfl (.tmp 29) (.tmp 30) 22 rfl x1.heap.size 9 i9 _ 1 16 Try.underlying22 hi9 z0 z1 z2 rfl (by decide) (.slice a1 i c1) i (strs (ls.take i)) rfl (by have := Q1.out.1; rw [List.nil_append, F1.out] at this; exact this) av M cv (strs ms) rfl N2.out HNN.out (CV.out _ (HB.out _ Q1.out.2.1)) U2.out (by unfold maxLen; omega) (by omega) Q1.out.2.2.1 ?_; intro vv w3 ho hg; obtain ⟨a2, c2, he, Q2⟩ := Out.step Q1.out (by rw [List.nil_append]; exact F1.out) F2.out ho hg; subst he; obtain ⟨d4, d5⟩ := HD.out w3 Q2.out.2.1; clear ho hg)
        | (at_builtin; refine wpList_append_src rfl (.tmp 32) (.tmp 40) 22 rfl x1.heap.size 9 i9 _ 1 16 Try.underlying22 hi9 z0 z1 z2 rfl (by decide) (.slice a2 (i + M) c2) (i + M) (strs ((ls.take i) ++ ms)) rfl (by have := Q2.out.1; rw [List.nil_append, List.length_append, F1.out, F2.out] at this; exact this) (some ⟨b, i + n, none⟩) (L - (i + n)) (cap - (i + n)) (strs (ls.drop (i + n))) rfl N4.out (fun e => by cases e) (fun ad e => by cases e; exact (CS2.out _ (HB.out _ Q2.out.2.1)).2) U3.out (by unfold maxLen; omega) (by omega) Q2.out.2.2.1 ?_; intro vv w4 ho hg; obtain ⟨a3, c3, he, Q3⟩ := Out.step Q2.out (by rw [List.nil_append, List.length_append, F1.out, F2.out]) F4.out ho hg; subst he; obtain ⟨d6, d7⟩ := HD.out w4 Q3.out.2.1; clear ho hg))
      go_ret
      exact ⟨rfl, FIN.out x1 w4 _ HBX.out (by have := Q3.out; rw [List.nil_append] at this; exact this)⟩
end
end Go.Proofs.Ytfnhbjokokjhfab
