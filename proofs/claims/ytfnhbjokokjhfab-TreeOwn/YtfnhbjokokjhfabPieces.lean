/- The tree's call pieces. -/
import Derived.Test.YtfnhbjokokjhfabPart
namespace Go.Proofs.Ytfnhbjokokjhfab
open Go.ChangeShapes Go.WideShapes Go.ChangeAt Go.RowKit
section
variable {o : Own} {w0 W : World} {t pb nb gb n : Nat} {s : St} {vn vg : Value} {acc : List ByteArray}
theorem RepX.below (h : Rep o w0 t s vn vg) (hb : Below w0.heap.size w0 W) : Rep o W t s vn vg := by
  have r : ∀ {g e size v n xs}, Row o w0 g e size v n xs → Row o W g e size v n xs := fun hr => hr.below hb
  exact ⟨h.ot, by rw [hb.block t h.tlt]; exact h.tree, r h.nodes, r h.gone, fun i n hi hx => r (h.lines i n hi hx), fun i n hi hx => r (h.kids i n hi hx), fun k hk => Nat.lt_of_lt_of_le (h.lt k hk) hb.size⟩
set_option maxHeartbeats 1000000 in
theorem pieces_leaf (h : Rep o w0 t s vn vg) (hG : Got w0 W pb nb gb n acc) {a i : Nat} {ls : List ByteArray} {js : List Nat} (hs : Sub s 0 a ls js) (hi : i ≤ ls.length) (hn : n < 2 ^ 38) (hl : ls.length < 2 ^ 38) :
    Calls Try.prog 31 #[.pointer (some ⟨t, 0, none⟩), .int .i64 a, .int .i64 i, .func (.func 32) #[] #[.pointer (some ⟨pb, 0, none⟩), .pointer (some ⟨nb, 0, none⟩)]] W fun e w' => e = .returned (.bool (decide (((acc ++ ls.drop i).take n).length < n))) ∧ Got w0 w' pb nb gb n ((acc ++ ls.drop i).take n) := by
  obtain ⟨rfl, v, hnd⟩ := hs
  have h1 := h.below hG.below
  have ha := (List.getElem?_eq_some_iff.1 hnd).1
  obtain ⟨b, cap, hvn, hob, n1, n2, hcc⟩ := h1.nodeCells (by omega)
  clear hcc
  obtain ⟨a0, c0, c1, c2, c3, cf⟩ := h1.cellsAt hnd hvn
  obtain ⟨la, lc, hvl, l1, l2⟩ := (h1.lines a _ hnd (by simp)).form
  replace hvl : v = .slice la ls.length lc := hvl
  subst hvl
  replace l1 : ls.length ≤ lc := l1
  rw [hvn] at a0
  replace c0 : W.cell? ⟨b, a * 4, none⟩ = some (.slice la ls.length lc) := c0
  replace c1 : W.cell? ⟨b, a * 4 + 1, none⟩ = some (.slice none 0 0) := c1
  replace c2 : W.cell? ⟨b, a * 4 + 2, none⟩ = some (.int .i64 ls.length) := c2
  replace c3 : W.cell? ⟨b, a * 4 + 3, none⟩ = some (.int .i64 (sizes ls)) := c3
  have HL : Hid (∀ ob, Calls Try.prog 29 #[.pointer (some ⟨t, 0, none⟩), .int .i64 a] (W.alloc ob) fun e w' => e = .returned (.bool true) ∧ w' = W.alloc ob) := fun ob => by
    have := last_any (h1.alloc ob) hnd
    rw [show decide ((⟨.slice la ls.length lc, .slice none 0 0, ls, [], ls.length, sizes ls⟩ : Node).kids = []) = true by simp] at this; exact this
  obtain ⟨acc2, hacc⟩ : ∃ acc2, (acc ++ ls.drop i).take n = acc2 := ⟨_, rfl⟩
  obtain ⟨R, hR⟩ : ∃ R : Bool, decide (acc2.length < n) = R := ⟨_, rfl⟩
  rw [hacc, hR]
  have HF : Hid (∀ ob ao, (ao = none → ls.length - i = 0 ∧ lc - i = 0) → (∀ ad, ao = some ad → ∀ (j : Nat) y, (ls.drop i)[j]? = some y → (W.alloc ob).cell? (ad.add j) = some (.string y)) →
      Calls Try.prog 32 #[.slice ao (ls.length - i) (lc - i), .pointer (some ⟨pb, 0, none⟩), .pointer (some ⟨nb, 0, none⟩)] (W.alloc ob) fun e w' => e = .returned (.bool R) ∧ Got w0 w' pb nb gb n acc2) := by
    intro ob ao q1 q2
    have := partF_any (hG.alloc ob) (ao := ao) (l := ls.drop i) (c := lc - i) hn (by simp; omega) (by simp; omega) (by omega) (by simpa using q1) q2
    rw [List.length_drop, hacc, hR] at this; exact this
  have HR : Hid (Row o W (.lines a) 9 1 (.slice la ls.length lc) ls.length (strs ls)) := h1.lines a _ hnd (by simp)
  have HC : Hid (∀ lb, la = some ⟨lb, 0, none⟩ → ∀ ob (j : Nat) y, (ls.drop i)[j]? = some y → (W.alloc ob).cell? ⟨lb, i + j, none⟩ = some (.string y)) := by
    intro lb e ob j y hj
    subst e
    rw [List.getElem?_drop] at hj
    obtain ⟨lb', e1, e2⟩ := lineAt (h1.alloc ob) hnd (by simp) rfl hj
    cases e1; exact e2
  have hform : (la = none ∧ ls.length = 0 ∧ lc = 0) ∨ ∃ lb, la = some ⟨lb, 0, none⟩ := by
    rcases HR.out.1.2 with ⟨e, e0⟩ | ⟨lb, cap', cur, e, _⟩
    · injection e with e1 e2 e3; exact .inl ⟨e1, e2, e3⟩
    · injection e with e1 e2 e3; exact .inr ⟨lb, e1⟩
  unfold maxLen at n2 l2
  clear h1 hnd hvn hG HR hacc hR
  generalize hLL : ls.length = L at *
  generalize sizes ls = SZ at *
  have HLL : Hid (ls.length = L) := hLL
  clear hLL
  go_enter Try.func31, Try.ntmps31
  go_wp2_with fail
  refine (HL.out _).mono ?_
  rintro e wz ⟨rfl, rfl⟩
  rcases hform with ⟨rfl, rfl, rfl⟩ | ⟨lb, rfl⟩
  · have hi0 : i = 0 := by omega
    subst hi0
    have HF0 := HF.out (.cells #[.slice none 0 0, .slice none 0 0, .int .i64 0, .int .i64 SZ] 53) none (fun _ => ⟨rfl, rfl⟩) (fun ad e => by cases e)
    simp only [Nat.sub_zero] at HF0
    have HF1 : Hid _ := HF0
    clear HF0 hi
    go_wp2_with fail
    refine Calls.mono HF1.out ?_
    rintro e w1 ⟨rfl, HG⟩
    go_wp2_with fail
    go_ret
    exact ⟨rfl, HG⟩
  · by_cases hic : lc = i
    · subst hic
      have HF0 := HF.out (.cells #[.slice (some ⟨lb, 0, none⟩) L lc, .slice none 0 0, .int .i64 L, .int .i64 SZ] 53) (some ⟨lb, 0, none⟩) (fun e => by cases e) (fun ad e j y hj => by
        have h0 := (List.getElem?_eq_some_iff.1 hj).1
        rw [List.length_drop] at h0
        have := HLL.out
        omega)
      rw [Nat.sub_self, show L - lc = 0 by omega] at HF0
      have HF1 : Hid _ := HF0
      clear HF0
      go_wp2_with fail
      refine Calls.mono HF1.out ?_
      rintro e w1 ⟨rfl, HG⟩
      go_wp2_with fail
      go_ret
      exact ⟨rfl, HG⟩
    · have HF0 := HF.out (.cells #[.slice (some ⟨lb, 0, none⟩) L lc, .slice none 0 0, .int .i64 L, .int .i64 SZ] 53) (some ⟨lb, i, none⟩) (fun e => by cases e) (fun ad e j y hj => by
        cases e
        rw [Addr.add_lit]; exact HC.out lb rfl _ j y hj)
      have HF1 : Hid _ := HF0
      clear HF0
      go_wp2_with fail
      refine Calls.mono HF1.out ?_
      rintro e w1 ⟨rfl, HG⟩
      go_wp2_with fail
      go_ret
      exact ⟨rfl, HG⟩
/-- pieces is called at node 'a', from place 'i' on. -/
def PiecesAt (w0 : World) (t pb nb gb n a i : Nat) (acc ls : List ByteArray) (W : World) : Prop :=
  Calls Try.prog 31 #[.pointer (some ⟨t, 0, none⟩), .int .i64 a, .int .i64 i, .func (.func 32) #[] #[.pointer (some ⟨pb, 0, none⟩), .pointer (some ⟨nb, 0, none⟩)]] W fun e w' => e = .returned (.bool (decide (((acc ++ ls.drop i).take n).length < n))) ∧ Got w0 w' pb nb gb n ((acc ++ ls.drop i).take n)
theorem take_full {l m : List ByteArray} {n : Nat} (h : ¬ (l.take n).length < n) : (l ++ m).take n = l.take n := by
  rw [List.length_take] at h
  rw [List.take_append_of_le_length (by omega)]
theorem take_more {l m : List ByteArray} {n : Nat} : (l.take n ++ m).take n = (l ++ m).take n := by
  rw [List.take_append, List.take_take, List.take_append, List.length_take]
  simp only [Nat.min_self]
  congr 1
  by_cases h : n ≤ l.length
  · rw [Nat.min_eq_left h, Nat.sub_self, Nat.sub_eq_zero_of_le h]
  · rw [Nat.min_eq_right (by omega)]
set_option maxHeartbeats 1000000 in
theorem pieces_inner (h : Rep o w0 t s vn vg) (hG : Got w0 W pb nb gb n acc) {d a i : Nat} {ls : List ByteArray} {js : List Nat} (hs : Sub s (d + 1) a ls js) (hi : i ≤ ls.length) (hl : ls.length < 2 ^ 38)
    (IH : ∀ (W : World) (acc : List ByteArray) (c i : Nat) (l : List ByteArray) (j : List Nat), Got w0 W pb nb gb n acc → Sub s d c l j → i ≤ l.length → l.length < 2 ^ 38 → PiecesAt w0 t pb nb gb n c i acc l W) : PiecesAt w0 t pb nb gb n a i acc ls W := by
  obtain ⟨u, ks, js', rfl, hnd, hp, hA⟩ := hs
  replace hA : All (Ok s d) ks ls js' := hA
  have h1 := h.below hG.below
  have ha := (List.getElem?_eq_some_iff.1 hnd).1
  obtain ⟨b, cap, hvn, hob, n1, n2, hcc⟩ := h1.nodeCells (by omega)
  clear hcc
  obtain ⟨a0, c0, c1, c2, c3, cf⟩ := h1.cellsAt hnd hvn
  obtain ⟨kb, kc, hvk, hko, hk1, hk2, hkc⟩ := kidsCells h1 hnd (by simp) hp
  replace hvk : u = .slice (some ⟨kb, 0, none⟩) ks.length kc := hvk
  subst hvk
  rw [hvn] at a0
  replace c0 : W.cell? ⟨b, a * 4, none⟩ = some (.slice none 0 0) := c0
  replace c1 : W.cell? ⟨b, a * 4 + 1, none⟩ = some (.slice (some ⟨kb, 0, none⟩) ks.length kc) := c1
  replace c2 : W.cell? ⟨b, a * 4 + 2, none⟩ = some (.int .i64 ls.length) := c2
  replace c3 : W.cell? ⟨b, a * 4 + 3, none⟩ = some (.int .i64 (sizes ls)) := c3
  replace hk1 : ks.length ≤ kc := hk1
  have hne : ks ≠ [] := List.ne_nil_of_length_pos hp
  have HL : Hid (∀ ob, Calls Try.prog 29 #[.pointer (some ⟨t, 0, none⟩), .int .i64 a] (W.alloc ob) fun e w' => e = .returned (.bool false) ∧ w' = W.alloc ob) := fun ob => by
    have := last_any (h1.alloc ob) hnd
    rw [show decide ((⟨.slice none 0 0, .slice (some ⟨kb, 0, none⟩) ks.length kc, [], ks, ls.length, sizes ls⟩ : Node).kids = []) = false by simp [hne]] at this; exact this
  have HK : Hid (∀ ob, Calls Try.prog 30 #[.pointer (some ⟨t, 0, none⟩), .int .i64 a, .int .i64 i] (W.alloc ob) fun e w' => (∃ k i' kd : Nat, e = .returned (.tuple #[.int .i64 k, .int .i64 i']) ∧ ks[k]? = some kd ∧ i = ((ks.take k).map s.cnt).sum + i' ∧ (i' < s.cnt kd ∨ k + 1 = ks.length)) ∧ ∃ q, w' = (W.alloc ob).drewN q) := fun ob =>
    kid_any (h1.alloc ob) hnd hp (fun c hc => by obtain ⟨l, j, hc⟩ := hA.each c hc; exact hc.1.lt) (by omega)
  have HKC : Hid (∀ W' : World, Got w0 W' pb nb gb n acc ∨ True → Below w0.heap.size w0 W' → ∀ (j : Nat) k, ks[j]? = some k → W'.cell? ⟨kb, j, none⟩ = some (.int .i64 k)) := by
    intro W' _ hb j k hj
    obtain ⟨lb', e1, e2⟩ := kidAt (h.below hb) hnd (by simp) rfl hj
    cases e1; exact e2
  have HG : Hid (Got w0 W pb nb gb n acc) := hG
  have HI : Hid (∀ (W : World) (acc : List ByteArray) (c i : Nat) (l : List ByteArray) (j : List Nat), Got w0 W pb nb gb n acc → Sub s d c l j → i ≤ l.length → l.length < 2 ^ 38 → PiecesAt w0 t pb nb gb n c i acc l W) := IH
  have HP : Hid (∀ k i' kd : Nat, ks[k]? = some kd → i = ((ks.take k).map s.cnt).sum + i' → (i' < s.cnt kd ∨ k + 1 = ks.length) → ∃ lz jz, All (Ok s d) (ks.drop k) lz jz ∧ ls.drop i = lz.drop i' ∧ lz.length < 2 ^ 38 ∧ ∀ lc l3 jc j3, lz = lc ++ l3 → Ok s d kd lc jc → All (Ok s d) (ks.drop (k + 1)) l3 j3 → i' ≤ lc.length) := by
    intro k i' kd hkd hsum hor
    have hA2 : All (Ok s d) (ks.take k ++ ks.drop k) ls js' := by rw [List.take_append_drop]; exact hA
    obtain ⟨lx, lz, jx, jz, rfl, rfl, hX, hZ⟩ := hA2.cut
    rw [hX.cnt.1] at hsum
    refine ⟨lz, jz, hZ, ?_, by simp at hl; omega, fun lc l3 jc j3 e hO hR => ?_⟩
    · rw [hsum, List.drop_length_add_append]
    · subst e
      rw [hO.1.cnt.1] at hor
      rcases hor with hor | hor
      · omega
      · rw [List.drop_eq_nil_of_le (by omega)] at hR
        rw [hR.1] at hi; simp at hi; omega
  have HBel : Hid (Below w0.heap.size w0 W) := hG.below
  unfold maxLen at n2 hk2
  obtain ⟨K, hK⟩ : ∃ K, ks.length = K := ⟨_, rfl⟩
  have HKL : Hid (ks.length = K) := hK
  obtain ⟨SZ, hSZ⟩ : ∃ SZ, sizes ls = SZ := ⟨_, rfl⟩
  obtain ⟨LL, hLL⟩ : ∃ LL, ls.length = LL := ⟨_, rfl⟩
  rw [hK] at c1 hk1
  rw [hSZ] at c3
  rw [hLL] at c2 hi hl
  have hLK : 0 < K := by rw [← hK]; exact hp
  clear h1 hnd hvn hA hG hkc hK hSZ hLL IH h hne hp cf hob hko
  unfold PiecesAt
  go_enter Try.func31, Try.ntmps31
  go_wp2_with fail
  refine (HL.out _).mono ?_
  rintro e wz ⟨rfl, rfl⟩
  go_wp2_with fail
  refine (HK.out _).mono ?_
  rintro e wz ⟨⟨k, i', kd, rfl, hkd, hsum, hor⟩, q, rfl⟩
  have hkK : k < K := by rw [← HKL.out]; exact (List.getElem?_eq_some_iff.1 hkd).1
  obtain ⟨lz, jz, hZ, hdrop, hlz, hfirst⟩ := HP.out k i' kd hkd hsum hor
  have HZ : Hid (All (Ok s d) (ks.drop k) lz jz ∧ ls.drop i = lz.drop i' ∧ lz.length < 2 ^ 38 ∧ ks[k]? = some kd ∧ ∀ lc l3 jc j3, lz = lc ++ l3 → Ok s d kd lc jc → All (Ok s d) (ks.drop (k + 1)) l3 j3 → i' ≤ lc.length) := ⟨hZ, hdrop, hlz, hkd, hfirst⟩
  have hkc : ¬ (kc = k) := by omega
  clear hkd hsum hor hZ hdrop hlz hfirst
  go_wp2_with fail
  go_loopw [2, 41] (fun vi vj wr => ∃ (j ii : Nat) (l1 l2 : List ByteArray) (j2 : List Nat), j ≤ K - k ∧ vj = .int .i64 j ∧ vi = .int .i64 ii ∧ lz = l1 ++ l2 ∧ All (Ok s d) (ks.drop (k + j)) l2 j2 ∧ ((j = 0 ∧ l1 = [] ∧ ii = i') ∨ (0 < j ∧ ii = 0 ∧ i' ≤ l1.length)) ∧ Got w0 wr pb nb gb n ((acc ++ l1.drop i').take n) ∧ (0 < j → ((acc ++ l1.drop i').take n).length < n)) (fun _ vj _ => K - k - (intOf vj).toNat)
  case atStart =>
    refine ⟨0, i', [], lz, jz, Nat.zero_le _, rfl, rfl, rfl, HZ.out.1, .inl ⟨rfl, rfl, rfl⟩, ?_, fun h => absurd h (by omega)⟩
    have := (HG.out.alloc (.cells #[.slice none 0 0, .slice (some ⟨kb, 0, none⟩) K kc, .int .i64 LL, .int .i64 SZ] 53)).drewN q
    rw [List.drop_nil, List.append_nil, List.take_of_length_le HG.out.le]; exact this
  case round =>
    obtain ⟨j, ii, l1, l2, j2, hj, rfl, rfl, hlz, hA2, hcase, hG2, hlt2⟩ := hrel
    by_cases hjl : j < K - k
    · have hkj : ks[k + j]? = some (ks[k + j]'(by rw [HKL.out]; omega)) := List.getElem?_eq_getElem _
      generalize ks[k + j]'(by rw [HKL.out]; omega) = c at hkj
      have hdr : ks.drop (k + j) = c :: ks.drop (k + j + 1) := by
        obtain ⟨h1, e1⟩ := List.getElem?_eq_some_iff.1 hkj
        rw [List.drop_eq_getElem_cons h1, e1]
      rw [hdr] at hA2
      obtain ⟨lc, l3, jc, j3, rfl, rfl, hO, hA3⟩ := hA2
      have hcell := HKC.out wr (.inr trivial) hG2.below (k + j) c hkj
      have hii : ii ≤ lc.length := by
        rcases hcase with ⟨h1, h2, h3⟩ | ⟨h1, h2, h3⟩
        · subst h1 h2 h3
          obtain ⟨z1, z2, z3, z4, z5⟩ := HZ.out
          rw [Nat.add_zero] at hkj hA3
          rw [z4] at hkj; cases hkj
          exact z5 lc l3 jc j3 (by simpa using hlz) hO hA3
        · omega
      have hlcl : lc.length < 2 ^ 38 := by have := HZ.out.2.2.1; rw [hlz] at this; simp at this; omega
      have hacc : ((acc ++ l1.drop i').take n ++ lc.drop ii).take n = (acc ++ (l1 ++ lc).drop i').take n := by
        rw [take_more, List.append_assoc]
        congr 2
        rcases hcase with ⟨h1, h2, h3⟩ | ⟨h1, h2, h3⟩
        · subst h1 h2 h3; simp
        · subst h2; rw [List.drop_append_of_le_length h3]; simp
      have HC := HI.out wr _ c ii lc jc hG2 hO.1 hii hlcl
      unfold PiecesAt at HC
      rw [hacc] at HC
      obtain ⟨acc2, hac2⟩ : ∃ acc2, (acc ++ (l1 ++ lc).drop i').take n = acc2 := ⟨_, rfl⟩
      rw [hac2] at HC
      have HNext : Hid (∀ w2, Got w0 w2 pb nb gb n acc2 → (acc2.length < n → ∃ (j' ii' : Nat) (l1' l2' : List ByteArray) (j2' : List Nat), j' ≤ K - k ∧ Value.int .i64 ((j : Int) + 1) = .int .i64 j' ∧ Value.int .i64 0 = .int .i64 ii' ∧ lz = l1' ++ l2' ∧ All (Ok s d) (ks.drop (k + j')) l2' j2' ∧ ((j' = 0 ∧ l1' = [] ∧ ii' = i') ∨ (0 < j' ∧ ii' = 0 ∧ i' ≤ l1'.length)) ∧ Got w0 w2 pb nb gb n ((acc ++ l1'.drop i').take n) ∧ (0 < j' → ((acc ++ l1'.drop i').take n).length < n)) ∧
          (¬ acc2.length < n → Got w0 w2 pb nb gb n ((acc ++ ls.drop i).take n) ∧ ¬ ((acc ++ ls.drop i).take n).length < n)) := by
        intro w2 hG3
        refine ⟨fun hlt => ⟨j + 1, 0, l1 ++ lc, l3, j3, by omega, by simp, rfl, by rw [hlz]; simp, hA3, .inr ⟨by omega, rfl, ?_⟩, by rw [hac2]; exact hG3, fun _ => by rw [hac2]; exact hlt⟩, fun hge => ?_⟩
        · rcases hcase with ⟨h1, h2, h3⟩ | ⟨h1, h2, h3⟩
          · subst h3; simp; omega
          · simp; omega
        · have hi1 : i' ≤ (l1 ++ lc).length := by
            rcases hcase with ⟨h1, h2, h3⟩ | ⟨h1, h2, h3⟩
            · subst h3; simp; omega
            · simp; omega
          have e1 : (acc ++ ls.drop i).take n = acc2 := by
            rw [HZ.out.2.1, hlz, ← List.append_assoc l1 lc l3, List.drop_append_of_le_length hi1, ← List.append_assoc, take_full (by rw [hac2]; exact hge), hac2]
          rw [e1]; exact ⟨hG3, hge⟩
      clear hG2 hcase hA3 hO hlz hdr hacc hac2 hkj hii hlcl hlt2
      have hd1 : decide ((j : Int) < (((K - k : Nat)) : Int)) = true := by simp; omega
      by_cases hR : acc2.length < n
      · rw [show decide (acc2.length < n) = true by simp [hR]] at HC
        have HC' : Hid _ := HC
        have HN1 : Hid (∀ w2, Got w0 w2 pb nb gb n acc2 → _) := fun w2 hg => (HNext.out w2 hg).1 hR
        clear HC HNext hR
        go_wp2_with (go_at_call 31; refine Calls.mono HC'.out ?_; rintro e w2 ⟨rfl, HG2⟩)
        go_roundw
        case rel =>
          obtain ⟨j', ii', l1', l2', j2', r1, r2, r3, r4⟩ := HN1.out _ HG2
          exact ⟨j', ii', l1', l2', j2', r1, by go_num, by go_num, r4⟩
        case measure => simp [intOf]; omega
      · rw [show decide (acc2.length < n) = false by simp [hR]] at HC
        have HC' : Hid _ := HC
        have HN1 : Hid (∀ w2, Got w0 w2 pb nb gb n acc2 → Got w0 w2 pb nb gb n ((acc ++ ls.drop i).take n) ∧ ¬ ((acc ++ ls.drop i).take n).length < n) := fun w2 hg => (HNext.out w2 hg).2 hR
        clear HC HNext hR
        go_wp2_with (go_at_call 31; refine Calls.mono HC'.out ?_; rintro e w2 ⟨rfl, HG2⟩)
        go_ret
        obtain ⟨r1, r2⟩ := HN1.out _ HG2
        exact ⟨by show Ending.returned (.bool false) = _; rw [show decide (((acc ++ ls.drop i).take n).length < n) = false by simpa using r2], r1⟩
    · obtain rfl : j = K - k := by omega
      have hd1 : decide ((((K - k : Nat)) : Int) < (((K - k : Nat)) : Int)) = false := by simp
      have HFin : Hid (Got w0 wr pb nb gb n ((acc ++ ls.drop i).take n) ∧ ((acc ++ ls.drop i).take n).length < n) := by
        have hnil : ks.drop (k + (K - k)) = [] := List.drop_eq_nil_of_le (by rw [HKL.out]; omega)
        rw [hnil] at hA2
        obtain ⟨rfl, rfl⟩ := hA2
        rw [List.append_nil] at hlz
        subst hlz
        rw [HZ.out.2.1]
        exact ⟨hG2, hlt2 (by omega)⟩
      clear hG2 hcase hA2 hlz hlt2
      go_wp2_with fail
      go_ret
      exact ⟨by show Ending.returned (.bool true) = _; rw [show decide (((acc ++ ls.drop i).take n).length < n) = true by simpa using HFin.out.2], HFin.out.1⟩
theorem pieces_any (h : Rep o w0 t s vn vg) (hn : n < 2 ^ 38) : ∀ (d : Nat) (W : World) (acc : List ByteArray) (a i : Nat) (ls : List ByteArray) (js : List Nat), Got w0 W pb nb gb n acc → Sub s d a ls js → i ≤ ls.length → ls.length < 2 ^ 38 → PiecesAt w0 t pb nb gb n a i acc ls W
  | 0, _, _, _, _, _, _, hG, hs, hi, hl => pieces_leaf h hG hs hi hn hl
  | d + 1, _, _, _, _, _, _, hG, hs, hi, hl => pieces_inner h hG hs hi hl (pieces_any h hn d)
end
end Go.Proofs.Ytfnhbjokokjhfab
