/- The tree's call Get. -/
import Derived.Test.YtfnhbjokokjhfaaNew
namespace Go.Proofs.Ytfnhbjokokjhfaa
open Go.ChangeShapes Go.WideShapes Go.ChangeAt Go.RowKit
theorem All.each {P : Nat → List ByteArray → List Nat → Prop} {cs : List Nat} {ls : List ByteArray} {js : List Nat} (h : All P cs ls js) : ∀ c ∈ cs, ∃ l j, P c l j := by
  induction cs generalizing ls js with
  | nil => intro c hc; cases hc
  | cons c cs ih =>
    obtain ⟨a1, a2, b1, b2, rfl, rfl, hp, hr⟩ := h
    intro x hx
    rcases List.mem_cons.1 hx with rfl | hx
    · exact ⟨_, _, hp⟩
    · exact ih hr x hx
section
variable {o : Own} {w : World} {t m : Nat} {ls : List ByteArray} {s : St} {d a : Nat} {js : List Nat}
theorem Sub.lt (h : Sub s d a ls js) : a < s.ns.length := by
  obtain ⟨n, hn, _⟩ := h.node; exact (List.getElem?_eq_some_iff.1 hn).1
/-- One level down. -/
theorem Sub.down (h : Sub s (d + 1) a ls js) : ∃ n, s.ns[a]? = some n ∧ 0 < n.kids.length ∧ n.kids ≠ [] ∧ (∀ c ∈ n.kids, c < s.ns.length) ∧ s.wid a = n.kids.length ∧ s.cnt a = ls.length ∧
    ∀ k kd, n.kids[k]? = some kd → ∃ lx lc ly jx jc jy, ls = lx ++ (lc ++ ly) ∧ Ok s d kd lc jc ∧ All (Ok s d) (n.kids.take k) lx jx ∧ All (Ok s d) (n.kids.drop (k + 1)) ly jy := by
  have hcn := h.cnt.1
  obtain ⟨u, ks, js', rfl, hn, hp, hA⟩ := h
  have hA : All (Ok s d) ks ls js' := hA
  refine ⟨_, hn, hp, List.ne_nil_of_length_pos hp, fun c hc => ?_, by simp [St.wid, hn, Node.wid], hcn, fun k kd hkd => ?_⟩
  · obtain ⟨l, j, hc⟩ := hA.each c hc; exact hc.1.lt
  · have hkd : ks[k]? = some kd := hkd
    have hks : ks = ks.take k ++ kd :: ks.drop (k + 1) := by
      obtain ⟨_, e1⟩ := List.getElem?_eq_some_iff.1 hkd
      rw [← e1]; simp
    rw [hks] at hA
    obtain ⟨lx, lz, jx, jz, rfl, rfl, hX, hZ⟩ := hA.cut
    obtain ⟨lc, ly, jc, jy, rfl, rfl, hC, hY⟩ := hZ
    exact ⟨lx, lc, ly, jx, jc, jy, rfl, hC, hX, hY⟩
theorem Ok.pos {c : Nat} (h : Ok s d c ls js) : 1 ≤ ls.length := Nat.le_trans (Nat.one_le_pow _ _ (by omega)) h.len
theorem get_no (h : Tr o w t ls m) (hl : ls.length < 2 ^ 38) (i : Int) (hi : -9223372036854775808 ≤ i ∧ i ≤ 9223372036854775807) (hno : ¬ (0 ≤ i ∧ i < ls.length)) :
    Calls Try.prog 20 #[.pointer (some ⟨t, 0, none⟩), .int .i64 i] w fun e w' => e = .returned (.tuple #[.string ⟨#[]⟩, .bool false]) ∧ ∃ q, w' = w.drewN q := by
  have HH := h.has hl i 1 hi
  rw [show decide (0 ≤ i ∧ (0 : Int) ≤ 1 ∧ 1 ≤ (ls.length : Int) - i) = false by simp; omega] at HH
  clear h hno
  go_enter Try.func20, Try.ntmps20
  go_wp2_with (go_at_call 29; refine HH.mono ?_; rintro e w1 ⟨rfl, q, rfl⟩)
  go_ret2
  exact ⟨rfl, _, rfl⟩
theorem get_ok (h : Tr o w t ls m) (hl : ls.length < 2 ^ 38) {i : Nat} {y : ByteArray} (hy : ls[i]? = some y) :
    Calls Try.prog 20 #[.pointer (some ⟨t, 0, none⟩), .int .i64 i] w fun e w' => e = .returned (.tuple #[.string y, .bool true]) ∧ ∃ q, w' = w.drewN q := by
  have hil := (List.getElem?_eq_some_iff.1 hy).1
  have HH := h.has hl i 1 (by omega)
  rw [show decide (0 ≤ (i : Int) ∧ (0 : Int) ≤ 1 ∧ 1 ≤ (ls.length : Int) - i) = true by simp; omega] at HH
  obtain ⟨s, vn, vg, d, h1, ⟨js, hs, hf, hw8, hw2⟩, _⟩ := h
  have a2 := h1.at2
  have a0 := h1.at0
  have htl := hs.lt
  obtain ⟨b, cap, hvn, hob, n1, n2, hcc⟩ := h1.nodeCells (by omega)
  clear hcc
  rw [hvn] at a0
  unfold maxLen at n2
  have HR : Hid (Rep o w t s vn vg) := h1
  have GV : Hid (vn = .slice (some ⟨b, 0, none⟩) s.ns.length cap) := hvn
  have HS : Hid (Sub s d s.top ls js ∧ (0 < d → 2 ≤ s.wid s.top) ∧ ls[i]? = some y) := ⟨hs, hw2, hy⟩
  generalize hN : s.ns.length = N at *
  have HN : Hid (s.ns.length = N) := hN
  clear h1 hs hf hw8 hw2 hvn hy hil htl hN hob
  go_enter Try.func20, Try.ntmps20
  go_wp2_with (go_at_call 29; refine HH.mono ?_; rintro e w1 ⟨rfl, q, rfl⟩)
  go_loopw [1, 6] (fun vi va wr => ∃ (d' a' i' : Nat) (l' : List ByteArray) (j' : List Nat), va = .int .i64 a' ∧ vi = .int .i64 i' ∧ Sub s d' a' l' j' ∧ (0 < d' → 2 ≤ s.wid a') ∧ l'[i']? = some y ∧ l'.length < 2 ^ 38 ∧ ∃ q, wr = w.drewN q) (fun _ va _ => s.cnt (intOf va).toNat)
  case atStart => exact ⟨d, s.top, i, ls, js, rfl, rfl, HS.out.1, HS.out.2.1, HS.out.2.2, hl, q, rfl⟩
  case round =>
    obtain ⟨d', a', i', l', j', rfl, rfl, hs', hw', hy', hl', q', rfl⟩ := hrel
    have hil := (List.getElem?_eq_some_iff.1 hy').1
    cases d' with
    | zero =>
      obtain ⟨rfl, v, hn⟩ := hs'
      have ha : a' < N := by rw [← HN.out]; exact (List.getElem?_eq_some_iff.1 hn).1
      have HL := last_any (HR.out.drewN q') hn
      rw [show decide ((⟨v, .slice none 0 0, l', [], l'.length, sizes l'⟩ : Node).kids = []) = true by simp] at HL
      obtain ⟨zz, c0, c1, c2, c3, cf⟩ := (HR.out.drewN q').cellsAt hn GV.out
      obtain ⟨lb, lc, hvl, _, k1, k2, hkc⟩ := linesCells HR.out hn (by simp) (by show 0 < l'.length; omega)
      have hvl : v = .slice (some ⟨lb, 0, none⟩) l'.length lc := hvl
      subst hvl
      have hcell : w.cell? ⟨lb, i', none⟩ = some (.string y) := (hkc i' y hy').1
      have c0' : w.cell? ⟨b, a' * 4, none⟩ = some (.slice (some ⟨lb, 0, none⟩) l'.length lc) := by simpa using c0
      have k1 : l'.length ≤ lc := k1
      unfold maxLen at k2
      clear hn hkc c0 c1 c2 c3 cf hy' hw' zz
      generalize l'.length = L at *
      go_wp2_with (go_at_call 38; refine HL.mono ?_; rintro e wz ⟨rfl, rfl⟩)
      go_ret2
      exact ⟨rfl, _, rfl⟩
    | succ d' =>
      obtain ⟨n, hn, hp, hne, hks, hwd, hcn, hdn⟩ := hs'.down
      have ha : a' < N := by rw [← HN.out]; exact (List.getElem?_eq_some_iff.1 hn).1
      have HL := last_any (HR.out.drewN q') hn
      rw [show decide (n.kids = []) = false by simp [hne]] at HL
      have HK := kid_any (HR.out.drewN q') hn hp hks (i := i') (by omega)
      obtain ⟨kb, kc, hvk, hko, hk1, hk2, hkc⟩ := kidsCells HR.out hn (by simp) hp
      obtain ⟨zz, c0, c1, c2, c3, cf⟩ := HR.out.cellsAt hn GV.out
      rw [hvk] at c1
      have HKC : Hid (∀ (j : Nat) k, n.kids[j]? = some k → w.cell? ⟨kb, j, none⟩ = some (.int .i64 k)) := fun j k hj => (hkc j k hj).1
      have HX : Hid (∀ k i2 kd : Nat, n.kids[k]? = some kd → i' = ((n.kids.take k).map s.cnt).sum + i2 → (i2 < s.cnt kd ∨ k + 1 = n.kids.length) → s.cnt kd < s.cnt a' ∧ ∃ l2 j2, Sub s d' kd l2 j2 ∧ (0 < d' → 2 ≤ s.wid kd) ∧ l2[i2]? = some y ∧ l2.length < 2 ^ 38) := by
        intro k i2 kd hkd hsum hor
        obtain ⟨lx, lc, ly, jx, jc, jy, rfl, hC, hX, hY⟩ := hdn k kd hkd
        have h2 := hw' (by omega)
        have x1 := hX.len (m := 1) fun _ _ _ h => h.pos
        have y1 := hY.len (m := 1) fun _ _ _ h => h.pos
        have hkl := (List.getElem?_eq_some_iff.1 hkd).1
        simp only [List.length_take, List.length_drop, List.length_append] at x1 y1 hil hcn hl'
        rw [hX.cnt.1] at hsum
        have hcc := hC.1.cnt.1
        refine ⟨by rw [hcn, hcc]; omega, lc, jc, hC.1, fun _ => by have := hC.2.1; omega, ?_, by omega⟩
        have hi2 : i2 < lc.length := by
          rcases hor with h | h
          · omega
          · rw [List.drop_eq_nil_of_le (by omega)] at hY; rw [hY.1] at hil; simp at hil; omega
        rw [hsum, List.getElem?_append_right (by omega), Nat.add_sub_cancel_left, List.getElem?_append_left hi2] at hy'
        exact hy'
      obtain ⟨M, hM⟩ : ∃ M, n.kids.length = M := ⟨_, rfl⟩
      have HM : Hid (n.kids.length = M) := hM
      rw [hM] at c1 hk1
      unfold maxLen at hk2
      clear hn hkc hvk c0 c2 c3 cf hdn hs' hy' hw' hM hks hne hcn hil zz
      go_wp2_with (go_at_call 38; refine HL.mono ?_; rintro e wz ⟨rfl, rfl⟩)
      refine HK.mono ?_
      rintro e wz ⟨⟨k, i2, kd, rfl, hkd, hsum, hor⟩, q2, rfl⟩
      have hkl : k < M := by rw [← HM.out]; exact (List.getElem?_eq_some_iff.1 hkd).1
      have hcell := HKC.out k kd hkd
      have HY := HX.out k i2 kd hkd hsum hor
      have HY' : Hid (s.cnt kd < s.cnt a' ∧ ∃ l2 j2, Sub s d' kd l2 j2 ∧ (0 < d' → 2 ≤ s.wid kd) ∧ l2[i2]? = some y ∧ l2.length < 2 ^ 38) := HY
      clear hkd hsum hor HK HL HY
      go_wp2_with fail
      go_roundw
      case rel =>
        obtain ⟨_, l2, j2, r1, r2, r3, r4⟩ := HY'.out
        exact ⟨d', kd, i2, l2, j2, rfl, rfl, r1, r2, r3, r4, _, rfl⟩
      case measure => simpa [intOf] using HY'.out.1
end
end Go.Proofs.Ytfnhbjokokjhfaa
