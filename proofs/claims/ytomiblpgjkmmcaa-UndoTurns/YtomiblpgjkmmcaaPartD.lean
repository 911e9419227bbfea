/- Texts that the proof of the law stands on: XA, YS, VY, VZ, YU. -/
import Derived.Test.YtomiblpgjkmmcaaPartC
import Derived.Lib.Slices
import Derived.Lib.MinMax
/- goBehind, Earlier, Later. -/
namespace Go.Proofs.Ytomiblpgjkmmcaa
open Go.ChangeShapes Go.WideShapes Go.ChangeAt Go.RowKit Go.Maps Go.MapKept Go.Shelf
set_option linter.unusedVariables false
set_option linter.unusedSimpArgs false
set_option maxRecDepth 100000
theorem Went.kp {B C t : Nat} {w w1 w' : World} {v : Value} {m : Tr} {seq : Int} (h : Went B C t w1 v m seq w') (k : Kp w w1) : Went B C t w v m seq w' := by
  obtain ⟨top, l1, l2, hm, d, q, f⟩ := h
  exact ⟨top, l1, l2, hm, d.lower k.size k.size, q, (Ff.kp k).trans f⟩
theorem Ir.cell {B g N cap : Nat} {ss : List Int} {w : World} (h : Ir B (.slice (some ⟨g, 0, none⟩) N cap) ss w) (hN : N = ss.length) {i : Nat} {x : Int} (hi : ss[i]? = some x) : w.cell? ⟨g, i, none⟩ = some (.int .i64 x) := by
  subst hN
  have q := (List.getElem?_eq_some_iff.1 hi).1
  have := World.ownsRow.cellAt h i (by omega)
  rw [this]
  simp [zcs, hi]
theorem idx_eq {ss : List Int} (hn : ss.Nodup) {k : Nat} {x : Int} (hk : ss[k]? = some x) : Lib.idxOf (ss.take ss.length) x = (k : Int) := by
  obtain ⟨h1, h2⟩ := List.getElem?_eq_some_iff.1 hk
  refine Lib.idxOf_hit ss ss.length k x h1 (Nat.le_refl _) (by simp [List.getD, hk]) fun j hj => ?_
  have hjl : j < ss.length := by omega
  have := (List.pairwise_iff_getElem.1 hn) j k hjl h1 hj
  simp only [List.getD, List.getElem?_eq_getElem hjl, Option.getD_some]
  rw [← h2]; exact this
section
variable {B C D t g N cap k : Nat} {m : Tr} {w : World} {ss : List Int} {n : Int}
theorem index_any (ha : Ir D (.slice (some ⟨g, 0, none⟩) N cap) ss w) (hN : N = ss.length) (hnd : ss.Nodup) {x : Int} (hk : ss[k]? = some x) :
    Calls Try.prog 59 #[.slice (some ⟨g, 0, none⟩) N cap, .int .i64 x] w fun e w' => e = .returned (.int .i64 k) ∧ w' = w := by
  have hl : N ≤ 9223372036854775807 := by
    obtain ⟨a, c, e, h1, h2⟩ := ha.form
    cases e
    unfold maxLen at h2; omega
  have := Any.slices_Index_int Try.lays108 g 0 N cap ss x w (by omega) hl (fun j hj => by
    rw [Nat.zero_add]
    have := ha.cell hN (i := j) (x := ss.getD j 0) (by simp [List.getD, List.getElem?_eq_getElem hj])
    exact this)
  rw [hN, idx_eq hnd hk] at this
  rw [hN]
  exact this
set_option maxHeartbeats 4000000 in
theorem behind_arg (h : Tw B C t m w) (ha : Ir D (.slice (some ⟨g, 0, none⟩) N cap) ss w) (hN : N = ss.length) (hnd : ss.Nodup) (hk : ss[k]? = some m.now) (hn1 : n < 1) :
    Calls Try.prog 35 #[.pointer (some ⟨t, 0, none⟩), .slice (some ⟨g, 0, none⟩) N cap, .int .i64 n] w fun e w' => e = .returned (.tuple #[.slice none 0 0, .int .u16 1]) ∧ w' = w := by
  obtain ⟨b, q, h⟩ := h
  have c1 := h.box.at (j := 1) rfl
  have HI : Hid _ := index_any ha hN hnd hk
  have hkN : k < N := by have := (List.getElem?_eq_some_iff.1 hk).1; omega
  have hc : N ≤ cap ∧ cap ≤ 9223372036854775807 := by
    obtain ⟨_, _, e, hc1, hc2⟩ := ha.form
    cases e; unfold maxLen at hc2; omega
  have hc1 := hc.1
  have hc2 := hc.2
  have d1 : decide (n < 1) = true := decide_eq_true hn1
  have d2 : ((k : Int) + 1).toNat = k + 1 := by omega
  clear h ha hnd hk hN
  go_enter Try.func35, Try.ntmps35
  go_wp2_with fail
  refine Calls.mono HI.out ?_
  rintro e w1 ⟨rfl, rfl⟩
  clear HI
  go_wp2_with fail
  all_goals (go_ret2; exact ⟨rfl, rfl⟩)
set_option maxHeartbeats 4000000 in
theorem behind_end (h : Tw B C t m w) (ha : Ir D (.slice (some ⟨g, 0, none⟩) N cap) ss w) (hN : N = ss.length) (hnd : ss.Nodup) (hk : ss[k]? = some m.now) (hn1 : 1 ≤ n) (hkN : k + 1 = N) :
    Calls Try.prog 35 #[.pointer (some ⟨t, 0, none⟩), .slice (some ⟨g, 0, none⟩) N cap, .int .i64 n] w fun e w' => e = .returned (.tuple #[.slice none 0 0, .int .u16 121]) ∧ w' = w := by
  obtain ⟨b, q, h⟩ := h
  have c1 := h.box.at (j := 1) rfl
  have HI : Hid _ := index_any ha hN hnd hk
  have hc : N ≤ cap ∧ cap ≤ 9223372036854775807 := by
    obtain ⟨_, _, e, hc1, hc2⟩ := ha.form
    cases e; unfold maxLen at hc2; omega
  have hc1 := hc.1
  have hc2 := hc.2
  have d1 : decide (n < 1) = false := decide_eq_false (by omega)
  have d2 : ((k : Int) + 1).toNat = k + 1 := by omega
  have d3 : N - (k + 1) = 0 := by omega
  have hkN2 : k < N := by omega
  clear h ha hnd hk hN hkN
  go_enter Try.func35, Try.ntmps35
  go_wp2_with fail
  refine Calls.mono HI.out ?_
  rintro e w1 ⟨rfl, rfl⟩
  clear HI
  go_wp2_with fail
  all_goals (go_ret2; exact ⟨rfl, rfl⟩)
set_option maxHeartbeats 8000000 in
theorem behind_go (h : Tw B C t m w) (hC : C ≤ w.heap.size) (I : Inv m) (hnx : m.next ≤ 10000) (ha : Ir D (.slice (some ⟨g, 0, none⟩) N cap) ss w) (hN : N = ss.length) (hnd : ss.Nodup) (hk : ss[k]? = some m.now) (hn1 : 1 ≤ n) {j : Nat} (hj : min n ((N - (k + 1) : Nat) : Int) = (j : Int) + 1) {seq : Int} (hs : ss[k + 1 + j]? = some seq) (hl : look m.L seq ≠ none) :
    Calls Try.prog 35 #[.pointer (some ⟨t, 0, none⟩), .slice (some ⟨g, 0, none⟩) N cap, .int .i64 n] w fun e w' => ∃ v, e = .returned (.tuple #[v, .int .u16 0]) ∧ Went B C t w v m seq w' := by
  have HG : Hid _ := go_any h hC I.fam hnx I.nw hl
  obtain ⟨b, q, h⟩ := h
  have c1 := h.box.at (j := 1) rfl
  have HI : Hid _ := index_any ha hN hnd hk
  have c2 := ha.cell hN hs
  have hkj : k + 1 + j < N := by have := (List.getElem?_eq_some_iff.1 hs).1; omega
  have hc : N ≤ cap ∧ cap ≤ 9223372036854775807 := by
    obtain ⟨_, _, e, hc1, hc2⟩ := ha.form
    cases e; unfold maxLen at hc2; omega
  have hc1 := hc.1
  have hc2 := hc.2
  have d1 : decide (n < 1) = false := decide_eq_false (by omega)
  have d2 : ((k : Int) + 1).toNat = k + 1 := by omega
  have hkN2 : k < N := by omega
  have hne : ¬ cap = k + 1 := by omega
  have d4 : (((N - (k + 1) : Nat) : Int) == 0) = false := by simp; omega
  have d5 : (N - (k + 1) == 0) = false := by simp; omega
  have hjn : j < N - (k + 1) := by omega
  have d6 : ((j : Int) + 1 - 1) = (j : Int) := by omega
  clear h ha hnd hk hN hs hl
  go_enter Try.func35, Try.ntmps35
  go_wp2_with fail
  refine Calls.mono HI.out ?_
  rintro e w1 ⟨rfl, rfl⟩
  clear HI
  go_wp2_with fail
  refine Calls.mono HG.out ?_
  rintro e w2 ⟨v2, rfl, q2⟩
  have H2 : Hid _ := q2
  clear HG q2
  go_wp2_with fail
  go_ret2
  exact ⟨_, rfl, H2.out⟩
theorem seqs_nd (I : Inv m) : (m.L.map St.seq).Nodup := I.nodup
theorem Ir.some {v : Value} (h : Ir D v ss w) (hne : ss ≠ []) : ∃ g c, v = .slice (some ⟨g, 0, none⟩) ss.length c ∧ D ≤ g := by
  rcases h.2 with ⟨_, e0⟩ | ⟨g, c, cur, e, hb, _⟩
  · exact absurd (List.eq_nil_of_length_eq_zero e0) hne
  · exact ⟨g, c, e, hb⟩
theorem look_there {L : List St} (hs : (L.map St.seq).Pairwise (· < ·)) {i : Nat} {x : Int} (h : (L.map St.seq)[i]? = some x) : look L x ≠ none := look_ne.2 (List.mem_of_getElem? h)
/-- What Later and Earlier come to: nothing, or a way to a state. -/
def Led (B C t : Nat) (w : World) (m : Tr) (err : Int) (seq : Int) (v : Value) (w' : World) : Prop :=
  (err ≠ 0 ∧ v = .slice none 0 0 ∧ Kp w w') ∨ (err = 0 ∧ Went B C t w v m seq w')
set_option maxHeartbeats 4000000 in
theorem later_any (h : Tw B C t m w) (hC : C ≤ w.heap.size) (I : Inv m) (hnx : m.next ≤ 10000) (hl : m.L.length ≤ 250) (hk : (m.L.map St.seq)[k]? = some m.now) {err seq : Int}
    (hc : (n < 1 ∧ err = 1) ∨ (1 ≤ n ∧ k + 1 = m.L.length ∧ err = 121) ∨ (1 ≤ n ∧ err = 0 ∧ ∃ j : Nat, min n ((m.L.length - (k + 1) : Nat) : Int) = (j : Int) + 1 ∧ (m.L.map St.seq)[k + 1 + j]? = some seq)) :
    Calls Try.prog 15 #[.pointer (some ⟨t, 0, none⟩), .int .i64 n] w fun e w' => ∃ v, e = .returned (.tuple #[v, .int .u16 err]) ∧ Led B C t w m err seq v w' := by
  have HN : Hid _ := numbers_any h hl I.sq
  have hkl := (List.getElem?_eq_some_iff.1 hk).1
  have HC : Hid (∀ g c w1, Ir w.heap.size (.slice (some ⟨g, 0, none⟩) m.L.length c) (m.L.map St.seq) w1 → Kp w w1 → Calls Try.prog 35 #[.pointer (some ⟨t, 0, none⟩), .slice (some ⟨g, 0, none⟩) m.L.length c, .int .i64 n] w1 fun e w' => ∃ v, e = .returned (.tuple #[v, .int .u16 err]) ∧ Led B C t w m err seq v w') := fun g c w1 q1 k1 => by
    have eN : m.L.length = (m.L.map St.seq).length := by simp
    rcases hc with ⟨h1, rfl⟩ | ⟨h1, h2, rfl⟩ | ⟨h1, rfl, j, h2, h3⟩
    · refine (behind_arg (h.kp k1) q1 eN I.nodup hk h1).mono ?_
      rintro e w' ⟨rfl, rfl⟩
      exact ⟨_, rfl, .inl ⟨by decide, rfl, k1⟩⟩
    · refine (behind_end (h.kp k1) q1 eN I.nodup hk h1 h2).mono ?_
      rintro e w' ⟨rfl, rfl⟩
      exact ⟨_, rfl, .inl ⟨by decide, rfl, k1⟩⟩
    · refine (behind_go (h.kp k1) (Nat.le_trans hC k1.size) I hnx q1 eN I.nodup hk h1 h2 h3 (look_there I.sq h3)).mono ?_
      rintro e w' ⟨v, rfl, q⟩
      exact ⟨_, rfl, .inr ⟨rfl, q.kp k1⟩⟩
  have HL : Hid (m.L.map St.seq ≠ [] ∧ (m.L.map St.seq).length = m.L.length) := ⟨fun e => by rw [e] at hkl; simp at hkl, by simp⟩
  clear h I hk hc hkl
  go_enter Try.func15, Try.ntmps15
  go_wp2_with fail
  refine Calls.mono HN.out ?_
  rintro e w1 ⟨v, rfl, q1, k1⟩
  obtain ⟨g, c, rfl, _⟩ := q1.some HL.out.1
  rw [HL.out.2] at q1 ⊢
  have HB : Hid _ := HC.out g c w1 q1 k1
  generalize m.L.length = N at HB ⊢
  clear HN HC q1 k1
  go_wp2_with fail
  refine Calls.mono HB.out ?_
  rintro e w2 ⟨v2, rfl, q2⟩
  have H2 : Hid _ := q2
  clear HB q2
  go_wp2_with fail
  go_ret2
  exact ⟨_, rfl, H2.out⟩
theorem revI_some {ss : List Int} {w : World} {g cap : Nat} (h : Ir D (.slice (some ⟨g, 0, none⟩) ss.length cap) ss w) :
    Calls Try.prog 34 #[.slice (some ⟨g, 0, none⟩) ss.length cap] w fun e w' => e = .returned (.tuple #[]) ∧ Ir D (.slice (some ⟨g, 0, none⟩) ss.length cap) ss.reverse w' ∧ Fr (On g) w w' := by
  rcases h.2 with ⟨z, _⟩ | ⟨g', cap', cur, z, hb, hg, h1, h2, h3, h4⟩
  · cases z
  cases z
  refine (Any.slices_Reverse_int Try.lays112 g 0 cap ss w (holds_of_blockI hg (zcs_cells h4)) (by unfold maxLen at h2; omega)).mono ?_
  rintro e w' ⟨rfl, n, rfl⟩
  have hl2 : ss.reverse.length = ss.length := List.length_reverse
  have q := ownsRow_sortedI (n := n) (os := #[]) (base := D) hl2 hb hg h1 h2 h3
  have f := grownBy_sortedI (w := w) (g := g) (n := n) (os := #[]) ss.reverse.toArray
  have eg : ∀ W : World, Go.Sort.grow W #[] = W := fun W => by simp [Go.Sort.grow]
  rw [eg] at q f
  refine ⟨rfl, ?_, (fr_grown f).mono fun k _ e => by cases e; rfl⟩
  unfold Ir; rw [hl2]; exact q
set_option maxHeartbeats 4000000 in
theorem earlier_any (h : Tw B C t m w) (hC : C ≤ w.heap.size) (I : Inv m) (hnx : m.next ≤ 10000) (hl : m.L.length ≤ 250) (hk : (m.L.map St.seq).reverse[k]? = some m.now) {err seq : Int}
    (hc : (n < 1 ∧ err = 1) ∨ (1 ≤ n ∧ k + 1 = m.L.length ∧ err = 121) ∨ (1 ≤ n ∧ err = 0 ∧ ∃ j : Nat, min n ((m.L.length - (k + 1) : Nat) : Int) = (j : Int) + 1 ∧ (m.L.map St.seq).reverse[k + 1 + j]? = some seq)) :
    Calls Try.prog 13 #[.pointer (some ⟨t, 0, none⟩), .int .i64 n] w fun e w' => ∃ v, e = .returned (.tuple #[v, .int .u16 err]) ∧ Led B C t w m err seq v w' := by
  have HN : Hid _ := numbers_any h hl I.sq
  have hkl := (List.getElem?_eq_some_iff.1 hk).1
  have HC : Hid (∀ g c w1, Ir w.heap.size (.slice (some ⟨g, 0, none⟩) m.L.length c) (m.L.map St.seq).reverse w1 → Kp w w1 → Calls Try.prog 35 #[.pointer (some ⟨t, 0, none⟩), .slice (some ⟨g, 0, none⟩) m.L.length c, .int .i64 n] w1 fun e w' => ∃ v, e = .returned (.tuple #[v, .int .u16 err]) ∧ Led B C t w m err seq v w') := fun g c w1 q1 k1 => by
    have eN : m.L.length = (m.L.map St.seq).reverse.length := by simp
    have hnd : (m.L.map St.seq).reverse.Nodup := (List.reverse_perm _).nodup_iff.2 I.nodup
    rcases hc with ⟨h1, rfl⟩ | ⟨h1, h2, rfl⟩ | ⟨h1, rfl, j, h2, h3⟩
    · refine (behind_arg (h.kp k1) q1 eN hnd hk h1).mono ?_
      rintro e w' ⟨rfl, rfl⟩
      exact ⟨_, rfl, .inl ⟨by decide, rfl, k1⟩⟩
    · refine (behind_end (h.kp k1) q1 eN hnd hk h1 h2).mono ?_
      rintro e w' ⟨rfl, rfl⟩
      exact ⟨_, rfl, .inl ⟨by decide, rfl, k1⟩⟩
    · refine (behind_go (h.kp k1) (Nat.le_trans hC k1.size) I hnx q1 eN hnd hk h1 h2 h3 (look_ne.2 (by simpa using List.mem_of_getElem? h3))).mono ?_
      rintro e w' ⟨v, rfl, q⟩
      exact ⟨_, rfl, .inr ⟨rfl, q.kp k1⟩⟩
  have HL : Hid (m.L.map St.seq ≠ [] ∧ (m.L.map St.seq).length = m.L.length) := ⟨fun e => by rw [e] at hkl; simp at hkl, by simp⟩
  clear h I hk hc hkl
  go_enter Try.func13, Try.ntmps13
  go_wp2_with fail
  refine Calls.mono HN.out ?_
  rintro e w1 ⟨v, rfl, q1, k1⟩
  obtain ⟨g, c, rfl, hg⟩ := q1.some HL.out.1
  have HR : Hid _ := revI_some q1
  have HK : Hid (Kp w w1 ∧ w.heap.size ≤ g) := ⟨k1, hg⟩
  rw [HL.out.2] at HR ⊢
  clear HN q1 k1 hg
  generalize hN : m.L.length = N at HR HC ⊢
  go_wp2_with fail
  refine Calls.mono HR.out ?_
  rintro e w2 ⟨rfl, q2, f2⟩
  have HB : Hid _ := HC.out g c w2 q2 (HK.out.1.trans (f2.below HK.out.1.size fun k hk e => by have := HK.out.2; unfold On at e; omega))
  clear HR HC q2 f2
  go_wp2_with fail
  refine Calls.mono HB.out ?_
  rintro e w3 ⟨v3, rfl, q3⟩
  have H3 : Hid _ := q3
  clear HB q3
  go_wp2_with fail
  go_ret2
  exact ⟨_, rfl, H3.out⟩
end
end Go.Proofs.Ytomiblpgjkmmcaa
/- UndoSteps, walked. -/
namespace Go.Proofs.Ytomiblpgjkmmcaa
open Go.ChangeShapes Go.WideShapes Go.ChangeAt Go.RowKit
set_option linter.unusedVariables false
set_option linter.unusedSimpArgs false
set_option maxRecDepth 100000
/-- The numbers from nought to i. -/
def nums (i : Nat) : List Int := (List.range (i + 1)).map fun j : Nat => (j : Int)
theorem nums_at {i j : Nat} (h : j ≤ i) : (nums i)[j]? = some (j : Int) := by simp [nums, show j < i + 1 by omega]
theorem nums_len (i : Nat) : (nums i).length = i + 1 := by simp [nums]
theorem nums_rev {i j : Nat} (h : j ≤ i) : (nums i).reverse[j]? = some ((i - j : Nat) : Int) := by
  rw [List.getElem?_reverse (by rw [nums_len]; omega), nums_len, show i + 1 - 1 - j = i - j by omega]
  exact nums_at (by omega)
theorem nums_snoc (i : Nat) : nums (i + 1) = nums i ++ [((i + 1 : Nat) : Int)] := by simp [nums, List.range_succ]
/-- States with all numbers up to i; now is x. -/
structure Chain (m : Tr) (i : Nat) (x : Nat) : Prop where
  inv : Inv m
  now : m.now = (x : Int)
  next : m.next = (i : Int) + 1
  sq : m.L.map St.seq = nums i
  most : m.most = 200
theorem chain_first : Chain (first 200) 0 0 := ⟨inv_first 200, rfl, rfl, rfl, rfl⟩
theorem Chain.len {m : Tr} {i x : Nat} (h : Chain m i x) : m.L.length = i + 1 := by have := congrArg List.length h.sq; rw [List.length_map, nums_len] at this; exact this
theorem few_nil : Few 2000 [] := ⟨by simp, by simp⟩
theorem Chain.step {m : Tr} {i : Nat} (h : Chain m i i) : Chain (addT m []) (i + 1) (i + 1) := by
  have hn := h.next
  refine ⟨h.inv.add few_nil, ?_, ?_, ?_, h.most⟩
  · show m.next = _; rw [hn]; omega
  · show m.next + 1 = _; rw [hn]; omega
  · show (setOn m.L m.now m.next ++ [_]).map St.seq = _
    rw [List.map_append, setOn_seq, h.sq, nums_snoc, List.map_singleton, hn]
    congr 2
theorem Chain.go {m : Tr} {i x y : Nat} (h : Chain m i x) {top : Int} {l1 l2 : List Int} (hm : Meet m.L m.now (y : Int) top l1 l2) (hy : look m.L (y : Int) ≠ none) : Chain { m with L := led m.L l2 top, now := (y : Int) } i y :=
  ⟨h.inv.go hm hy, rfl, h.next, by show (led m.L l2 top).map St.seq = _; rw [(h.inv.fam.led hm.u2).2]; exact h.sq, h.most⟩
set_option maxHeartbeats 32000000 in
theorem steps_walk (a : Nat) (ha : a < 256) (b : Nat) (hb : b < 256) (c : Nat) (hc : c < 256) {W : World} :
    Calls Try.prog 3 #[.int .u8 a, .int .u8 b, .int .u8 c] W fun e w' => e = .returned (.bool true) ∧ Below W.heap.size W w' := by
  have HN : Hid _ := new_any (most := 200) (by decide) (by decide) W
  have he := eqlT
  obtain ⟨K, hK⟩ : ∃ n, a % 60 = n := ⟨_, rfl⟩
  obtain ⟨A, hA⟩ : ∃ n, b % 70 = n := ⟨_, rfl⟩
  obtain ⟨C, hC⟩ : ∃ n, c % 70 = n := ⟨_, rfl⟩
  have eK : Int.tmod (a : Int) 60 = (K : Int) := by rw [Int.tmod_eq_emod_of_nonneg (by omega)]; omega
  have eA : Int.tmod (b : Int) 70 = (A : Int) := by rw [Int.tmod_eq_emod_of_nonneg (by omega)]; omega
  have eC : Int.tmod (c : Int) 70 = (C : Int) := by rw [Int.tmod_eq_emod_of_nonneg (by omega)]; omega
  have hK6 : K < 60 := by omega
  have hA7 : A < 70 := by omega
  have hC7 : C < 70 := by omega
  go_enter Try.func3, Try.ntmps3
  go_wp2_with fail
  refine Calls.mono HN.out ?_
  rintro e w1 ⟨t, rfl, t1, k1⟩
  have H1 : Hid (Kp W w1 ∧ Tw W.heap.size W.heap.size t (first 200) w1) := ⟨k1, t1⟩
  clear HN t1 k1
  go_wp2_with fail
  go_loopw [9] (fun v9 wr => ∃ i : Nat, i ≤ K + 1 ∧ v9 = .int .i64 ((i : Int) + 1) ∧ Hid (∃ m D, Chain m i i ∧ Tw W.heap.size D t m wr ∧ Kp W wr)) (fun v9 _ => K + 2 - (intOf v9).toNat)
  case atStart => exact ⟨0, Nat.zero_le _, by go_num, first 200, _, chain_first, H1.out.2, H1.out.1⟩
  case round =>
    clear H1
    obtain ⟨i, hi, rfl, HI⟩ := hrel
    by_cases q : i < K + 1
    · have d1 : decide ((i : Int) + 1 ≤ 1 + (K : Int)) = true := decide_eq_true (by omega)
      obtain ⟨m, D, hs, ht, kk⟩ := HI.out
      have HA : Hid _ := add_few ht hs.inv.fam (by rw [hs.next]; omega) hs.inv.nodup hs.inv.nw (by rw [hs.len, hs.most]; omega) kk.size (okRow 0 0) (Dx.nil (Row 0) 0 wr).dr few_nil (by omega)
      have HS : Hid (Chain (addT m []) (i + 1) (i + 1) ∧ Kp W wr) := ⟨hs.step, kk⟩
      rw [hs.next] at HA
      have d2 : ((i : Int) + 1 != (i : Int) + 1) = false := by simp
      clear HI hs ht kk
      go_wp2_with fail
      refine Calls.mono HA.out ?_
      rintro e w3 ⟨rfl, t3, f3⟩
      have H3 : Hid (∃ m D, Chain m (i + 1) (i + 1) ∧ Tw W.heap.size D t m w3 ∧ Kp W w3) := ⟨_, _, HS.out.1, t3, HS.out.2.trans (f3.below HS.out.2.size)⟩
      clear HA HS t3 f3
      go_wp2_with fail
      go_roundw
      case rel => exact ⟨i + 1, by omega, by go_num, H3.out⟩
      case measure => simp only [intOf]; omega
    · obtain rfl : i = K + 1 := by omega
      have d1 : decide (((K + 1 : Nat) : Int) + 1 ≤ 1 + (K : Int)) = false := decide_eq_false (by omega)
      obtain ⟨m, D, hs, ht, kk⟩ := HI.out
      obtain ⟨at0, hat⟩ : ∃ x : Nat, x = (K + 1) - (A + 1) := ⟨_, rfl⟩
      have HE : Hid _ := earlier_any (n := 1 + (A : Int)) (k := 0) (err := 0) (seq := (at0 : Int)) ht.sized (Nat.le_refl _) hs.inv (by rw [hs.next]; omega) (by rw [hs.len]; omega) (by rw [hs.sq, hs.now, nums_rev (by omega)]; simp) (.inr (.inr ⟨by omega, rfl, min (A + 1) (K + 1) - 1, by rw [hs.len]; omega, by rw [hs.sq, nums_rev (by omega)]; congr 2; omega⟩))
      have HS : Hid (Chain m (K + 1) (K + 1) ∧ Kp W wr) := ⟨hs, kk⟩
      have d3 : max (1 + (K : Int) - (1 + (A : Int))) 0 = (at0 : Int) := by omega
      have d4 : ((at0 : Int) != (at0 : Int)) = false := by simp
      clear HI hs ht kk
      go_wp2_with fail
      refine Calls.mono HE.out ?_
      rintro e w3 ⟨v3, rfl, q3⟩
      obtain ⟨top, l1, l2, hm, dd, t3, f3⟩ : Went W.heap.size wr.heap.size t wr v3 m (at0 : Int) w3 := by
        rcases q3 with ⟨h0, _⟩ | ⟨_, h0⟩
        · exact absurd rfl h0
        · exact h0
      have hlk : look m.L (at0 : Int) ≠ none := look_there HS.out.1.inv.sq (i := at0) (by rw [HS.out.1.sq]; exact nums_at (by omega))
      have hs3 := HS.out.1.go hm hlk
      have HW : Hid _ := now_any t3
      have H3 : Hid (Kp W w3) := HS.out.2.trans (f3.below HS.out.2.size)
      obtain ⟨tg, htg⟩ : ∃ x : Nat, x = at0 + min (C + 1) (K + 1 - at0) := ⟨_, rfl⟩
      have HL : Hid _ := later_any (n := 1 + (C : Int)) (k := at0) (err := 0) (seq := (tg : Int)) t3.sized (Nat.le_refl _) hs3.inv (by rw [hs3.next]; omega) (by rw [hs3.len]; omega) (by rw [hs3.sq, nums_at (by omega)]) (.inr (.inr ⟨by omega, rfl, min (C + 1) (K + 1 - at0) - 1, by rw [hs3.len]; omega, by rw [hs3.sq, nums_at (by omega)]; congr 1; omega⟩))
      have HS3 : Hid (Chain { m with L := led m.L l2 top, now := (at0 : Int) } (K + 1) at0) := hs3
      have d5 : min ((at0 : Int) + (1 + (C : Int))) (1 + (K : Int)) = (tg : Int) := by omega
      clear HE HS q3 hm dd t3 f3 hlk hs3
      go_wp2_with fail
      refine Calls.mono HW.out ?_
      rintro e w3' ⟨rfl, rfl⟩
      clear HW
      go_wp2_with fail
      refine Calls.mono HL.out ?_
      rintro e w4 ⟨v4, rfl, q4⟩
      obtain ⟨top4, l3, l4, hm, dd, t4, f4⟩ : Went W.heap.size w3'.heap.size t w3' v4 { m with L := led m.L l2 top, now := (at0 : Int) } (tg : Int) w4 := by
        rcases q4 with ⟨h0, _⟩ | ⟨_, h0⟩
        · exact absurd rfl h0
        · exact h0
      have hlk : look (led m.L l2 top) (tg : Int) ≠ none := look_there HS3.out.inv.sq (i := tg) (by show (List.map St.seq (led m.L l2 top))[tg]? = _; rw [HS3.out.sq]; exact nums_at (by omega))
      have hs4 := HS3.out.go hm hlk
      have H4 : Hid (Kp W w4) := H3.out.trans (f4.below H3.out.size)
      have HE : Hid _ := earlier_any (n := 0) (k := K + 1 - tg) (err := 1) (seq := 0) t4.sized (Nat.le_refl _) hs4.inv (by rw [hs4.next]; omega) (by rw [hs4.len]; omega) (by rw [hs4.sq, nums_rev (by omega)]; congr 2; omega) (.inl ⟨by omega, rfl⟩)
      have HT4 : Hid (Tw W.heap.size w3'.heap.size t { { m with L := led m.L l2 top, now := (at0 : Int) } with L := led (led m.L l2 top) l4 top4, now := (tg : Int) } w4) := t4
      clear HL H3 HS3 q4 hm dd t4 f4 hlk hs4
      go_wp2_with fail
      refine Calls.mono HE.out ?_
      rintro e w5 ⟨v5, rfl, q5⟩
      have k5 : Kp w4 w5 := by
        rcases q5 with ⟨_, _, h0⟩ | ⟨h0, _⟩
        · exact h0
        · cases h0
      have HK : Hid _ := known_any w5
      have H5 : Hid (Kp W w5 ∧ Tw W.heap.size w3'.heap.size t { { m with L := led m.L l2 top, now := (at0 : Int) } with L := led (led m.L l2 top) l4 top4, now := (tg : Int) } w5) := ⟨kp_trans H4.out k5, HT4.out.kp k5⟩
      clear HE H4 HT4 q5 k5
      go_wp2_with fail
      refine Calls.mono HK.out ?_
      rintro e w6 ⟨rfl, k6⟩
      have HW : Hid _ := now_any (H5.out.2.kp k6)
      have H6 : Hid (Kp W w6) := kp_trans H5.out.1 k6
      have d6 : ((tg : Int) == (tg : Int)) = true := by simp
      clear HK H5 k6
      go_wp2_with fail
      refine Calls.mono HW.out ?_
      rintro e w7 ⟨rfl, rfl⟩
      clear HW
      go_wp2_with fail
      go_ret
      exact ⟨rfl, H6.out⟩
end Go.Proofs.Ytomiblpgjkmmcaa
/- heavy: whatever is handed in, it answers. -/
namespace Go.Proofs.Ytomiblpgjkmmcaa
open Go.ChangeShapes Go.WideShapes Go.ChangeAt Go.RowKit
set_option linter.unusedVariables false
set_option linter.unusedSimpArgs false
set_option maxRecDepth 100000
set_option maxHeartbeats 8000000 in
theorem heavy_some {v : Value} {l : List Op12} {w : World} (h : OpQ v l w) :
    Calls Try.prog 21 #[v] w fun e w' => ∃ hb, e = .returned (.bool hb) ∧ ∃ k, w' = w.drewN k := by
  obtain ⟨a, cap, rfl, h1, h2, h3⟩ := h
  obtain ⟨N, hN⟩ : ∃ N, l.length = N := ⟨_, rfl⟩
  have HL : Hid (l.length = N) := hN
  have HH : Hid (∀ (i : Nat) (o : Op12), l[i]? = some o → ∃ g off, a = some ⟨g, off, none⟩ ∧ w.cell? ⟨g, off + i * 3 + 2, none⟩ = some o.v ∧ ∃ D, DArg D o.v o.ds w) := h3
  rw [hN] at h1 ⊢
  unfold maxLen at h2
  have hN9 : N ≤ 9223372036854775807 := by omega
  clear h3 hN h1 h2
  by_cases q : 120 < N
  · have d1 : decide ((N : Int) > 120) = true := decide_eq_true (by omega)
    have d2 : decide ((120 : Int) < (N : Int)) = true := decide_eq_true (by omega)
    go_enter Try.func21, Try.ntmps21
    go_wp2_with fail
    go_ret
    exact ⟨_, rfl, 0, rfl⟩
  · have d1 : decide ((N : Int) > 120) = false := decide_eq_false (by omega)
    have d2 : decide ((120 : Int) < (N : Int)) = false := decide_eq_false (by omega)
    go_enter Try.func21, Try.ntmps21
    go_wp2_with fail
    go_loopw [3, 4, 5] (fun v3 v4 _ wr => ∃ (i k : Nat) (m : Int), i ≤ N ∧ v4 = .int .i64 i ∧ v3 = .int .i64 m ∧ wr = w.drewN k) (fun _ v4 _ _ => N - (intOf v4).toNat)
    case atStart => exact ⟨0, 0, _, Nat.zero_le _, rfl, rfl, rfl⟩
    case round =>
      obtain ⟨i, k, m, hi, rfl, rfl, rfl⟩ := hrel
      by_cases p : i < N
      · have d3 : decide ((i : Int) < (N : Int)) = true := decide_eq_true (by omega)
        have d4 : decide (i < N) = true := decide_eq_true (by omega)
        obtain ⟨o, ho⟩ : ∃ o, l[i]? = some o := ⟨_, List.getElem?_eq_getElem (by rw [HL.out]; exact p)⟩
        obtain ⟨g, off, rfl, c0, D, hd⟩ := HH.out i o ho
        obtain ⟨b, cp, hv, _⟩ := hd.form
        obtain ⟨K, hK⟩ : ∃ K, o.ds.length = K := ⟨_, rfl⟩
        have HK : Hid (o.ds.length = K) := hK
        have hK9 : K ≤ 9223372036854775807 := by obtain ⟨_, _, hv2, z1, z2, _⟩ := hd.form; unfold maxLen at z2; omega
        rw [hv, hK] at c0
        have HD : Hid (DArg D (.slice b K cp) o.ds w) := by rw [hv, hK] at hd; exact hd
        clear hK hd hv ho
        go_wp2_with fail
        go_loopw [3, 5] (fun v3 v5 wr => ∃ (j k : Nat) (s : Int), j ≤ K ∧ v5 = .int .i64 j ∧ v3 = .int .i64 s ∧ wr = w.drewN k) (fun _ v5 _ => K - (intOf v5).toNat)
        case atStart => exact ⟨0, k, _, Nat.zero_le _, rfl, rfl, rfl⟩
        case round =>
          obtain ⟨j, k2, s, hj, rfl, rfl, rfl⟩ := hrel
          by_cases p2 : j < K
          · have d5 : decide ((j : Int) < (K : Int)) = true := decide_eq_true (by omega)
            have d6 : decide (j < K) = true := decide_eq_true (by omega)
            obtain ⟨d, hd⟩ : ∃ d, o.ds[j]? = some d := ⟨_, List.getElem?_eq_getElem (by rw [HK.out]; exact p2)⟩
            obtain ⟨g2, o2, x, y, rfl, _, _, c1, c2, x1, x2⟩ := HD.out.at_ hd
            obtain ⟨xa, xc, rfl, _⟩ := x1.form
            obtain ⟨ya, yc, rfl, _⟩ := x2.form
            obtain ⟨X1, hX1⟩ : ∃ X, d.old.length = X := ⟨_, rfl⟩
            obtain ⟨Y1, hY1⟩ : ∃ X, d.nw.length = X := ⟨_, rfl⟩
            rw [hX1] at c1
            rw [hY1] at c2
            clear hd x1 x2 hX1 hY1
            go_wp2_with fail
            go_quiet (fail)
            go_wp2_with fail
            go_roundw
            case rel => exact ⟨j + 1, _, _, by omega, by go_num, rfl, rfl⟩
            case measure => simp only [intOf]; omega
          · obtain rfl : j = K := by omega
            have d5 : decide ((j : Int) < (j : Int)) = false := by simp
            go_wp2_with fail
            go_roundw
            case rel => exact ⟨i + 1, _, _, by omega, by go_num, rfl, rfl⟩
            case measure => simp only [intOf]; omega
      · obtain rfl : i = N := by omega
        have d3 : decide ((i : Int) < (i : Int)) = false := by simp
        go_wp2_with fail
        go_ret
        exact ⟨_, rfl, k, rfl⟩
end Go.Proofs.Ytomiblpgjkmmcaa
/- Changes that are handed in: how many, by their weight. -/
namespace Go.Proofs.Ytomiblpgjkmmcaa
open Go.ChangeShapes Go.WideShapes Go.ChangeAt Go.RowKit
set_option linter.unusedVariables false
set_option linter.unusedSimpArgs false
set_option maxRecDepth 100000
theorem bStr : Try.prog.bytesOf 9 = 16 := by kernel_rfl
theorem bDelta : Try.prog.bytesOf 35 = 56 := by kernel_rfl
theorem reach_eq : reachBytes = 140737488351232 := by decide
theorem weights_mem {H : Type} {P : Program} {e : TypeId} {ds : List (DataW H)} {d : DataW H} {n : Nat} (hd : d ∈ ds) (hn : n ∈ d.weights P e) : n ∈ DataW.weightsAll P e ds := by
  induction ds with
  | nil => cases hd
  | cons a r ih =>
    simp only [DataW.weightsAll, List.mem_append]
    rcases List.mem_cons.1 hd with rfl | hd
    · exact .inl hn
    · exact .inr (ih hd)
theorem weights_all {H : Type} {P : Program} {ts : List TypeId} {ds : List (DataW H)} (h : (DataW.weightsEach P ts ds).all (· ≤ reachBytes) = true) {j : Nat} {t : TypeId} {d : DataW H} (ht : ts[j]? = some t) (hd : ds[j]? = some d) : ∀ n ∈ d.weights P t, n ≤ reachBytes := fun n hn => by
  have := List.all_eq_true.1 h _ (DataW.weights_mem_each ht hd n hn)
  simpa using this
theorem lines_wt {H : Type} {enc : TypeId × Value → H} {W : World} {fuel : Nat} {v : Value} {d : DataW H} {p : List MemPlace} (h : DataW.trod enc Try.prog W 0 (fun _ => true) true fuel 33 [v] = some (d, p)) {P : Nat → Prop} {ls : List ByteArray} (hs : Sl P v ls W) (hw : ∀ n ∈ d.weights Try.prog 33, n ≤ reachBytes) : ls.length ≤ 8796093022208 := by
  obtain ⟨a', c', e', _⟩ := hs.form
  rcases Deep.open_strs Try.underlying33 Try.underlying9 cStr h with ⟨hcs, hx⟩ | ⟨a, len, cap, m, Sx, hcs, _, hl, hm, hmm, hx, hcell⟩
  · simp only [List.cons.injEq, and_true] at hcs
    rw [hcs] at e'
    simp at e'
    omega
  · simp only [List.cons.injEq, and_true] at hcs
    rw [hcs] at e'
    simp at e'
    simp only [Prod.mk.injEq] at hx
    rw [hx.1] at hw
    simp only [DataW.weights, Try.underlying33] at hw
    have h0 := hw _ (List.mem_cons_self ..)
    simp only [List.length_map, List.length_range, bStr] at h0
    rw [reach_eq] at h0
    omega
theorem delta_wt {H : Type} {enc : TypeId × Value → H} {W : World} {fuel : Nat} {k0 k1 k2 : Value} {x : DataW H × List MemPlace} (h : DataW.trod enc Try.prog W 0 (fun _ => true) true fuel 35 [k0, k1, k2] = some x) {P : Nat → Prop} {o n : List ByteArray} (h1 : Sl P k1 o W) (h2 : Sl P k2 n W) (hw : ∀ n ∈ x.1.weights Try.prog 35, n ≤ reachBytes) : o.length ≤ 8796093022208 ∧ n.length ≤ 8796093022208 := by
  have hu := underDelta
  rw [Option.map_eq_some_iff] at hu
  obtain ⟨ty, hty, hfs⟩ := hu
  match ty, hty, hfs with
  | .struct fs, hty, hfs =>
    simp only at hfs
    obtain ⟨xs, nn, _, rfl, hcl, hxl, hf⟩ := DataW.trod_struct hty h
    obtain ⟨fl⟩ := fs
    match fl, hfs with
    | [f0, f1, f2], hfs =>
      simp only [List.map_cons, List.map_nil, List.cons.injEq, Prod.mk.injEq, and_true] at hfs
      obtain ⟨⟨t0, o0⟩, ⟨t1, o1⟩, ⟨t2, o2⟩⟩ := hfs
      match xs, hxl with
      | [y0, y1, y2], _ =>
        have g1 := hf 1 f1 rfl
        have g2 := hf 2 f2 rfl
        rw [t1, o1, cStrs] at g1
        rw [t2, o2, cStrs] at g2
        have g1' : DataW.trod enc Try.prog W 0 (fun _ => true) true nn 33 [k1] = some (y1.1, y1.2) := g1
        have g2' : DataW.trod enc Try.prog W 0 (fun _ => true) true nn 33 [k2] = some (y2.1, y2.2) := g2
        have hw' : ∀ n ∈ (DataW.agg [y0.1, y1.1, y2.1] : DataW H).weights Try.prog 35, n ≤ reachBytes := hw
        simp only [DataW.weights, hty, List.map_cons, List.map_nil, DataW.weightsEach, List.mem_append, t0, t1, t2] at hw'
        exact ⟨lines_wt g1' h1 fun m hm => hw' m (.inr (.inl hm)), lines_wt g2' h2 fun m hm => hw' m (.inr (.inr (.inl hm)))⟩
theorem dels_wt {H : Type} {enc : TypeId × Value → H} {W : World} {fuel : Nat} {v : Value} {d : DataW H} {p : List MemPlace} (h : DataW.trod enc Try.prog W 0 (fun _ => true) true fuel 25 [v] = some (d, p)) {B : Nat} {ds : List Dl} (hd : DArg B v ds W) (hw : ∀ n ∈ d.weights Try.prog 25, n ≤ reachBytes) : Few 2513169434916 ds := by
  obtain ⟨a', c', e', _⟩ := hd.form
  rcases Deep.open_slice Try.underlying25 h with ⟨hcs, hx⟩ | ⟨a, len, cap, m, n, D, Pl, hcs, _, hl, hm, hmm, hx, hcell⟩
  · simp only [List.cons.injEq, and_true] at hcs
    rw [hcs] at e'
    simp at e'
    have : ds = [] := List.eq_nil_of_length_eq_zero e'.2.1.symm
    subst this
    exact ⟨by simp, by simp⟩
  · simp only [List.cons.injEq, and_true] at hcs
    subst hcs
    simp only [Value.slice.injEq] at e'
    obtain ⟨rfl, rfl, rfl⟩ := e'
    simp only [if_true] at hmm
    subst hmm
    simp only [Prod.mk.injEq] at hx
    rw [cDelta] at hcell
    rw [hx.1] at hw
    simp only [DataW.weights, Try.underlying25] at hw
    have h0 := hw _ (List.mem_cons_self ..)
    simp only [List.length_map, List.length_range, bDelta] at h0
    rw [reach_eq] at h0
    refine ⟨by omega, fun d hdm => ?_⟩
    obtain ⟨i, hi, rfl⟩ := List.getElem_of_mem hdm
    obtain ⟨g, o, x, y, e, _, c0, c1, c2, x1, x2⟩ := hd.at_ (i := i) (List.getElem?_eq_getElem hi)
    cases e
    obtain ⟨cs', q1, q2⟩ := hcell i (by omega)
    obtain ⟨_, hlen, hc⟩ := World.cells?_some q1
    have e0 : ∀ j, ((⟨g, o, none⟩ : Addr).add (i * 3)).add j = ⟨g, o + i * 3 + j, none⟩ := fun j => by rw [add2, add2]
    have hcs : cs' = [.int .i64 ds[i].at_, x, y] := by
      match cs', hlen with
      | [k0, k1, k2], _ =>
        have z0 := hc 0 (by omega)
        have z1 := hc 1 (by omega)
        have z2 := hc 2 (by omega)
        rw [e0] at z0 z1 z2
        rw [Nat.add_zero, c0] at z0
        rw [c1] at z1
        rw [c2] at z2
        simp only [List.getElem?_cons_zero, List.getElem?_cons_succ, Option.some.injEq] at z0 z1 z2
        rw [z0, z1, z2]
    rw [hcs] at q2
    exact delta_wt q2 x1 x2 fun m hm => hw m (List.mem_cons_of_mem _ (List.mem_append_left _ (weights_mem (d := D i) (List.mem_map.2 ⟨i, by simpa using hi, rfl⟩) hm)))
theorem dels_formW {H : Type} {enc : TypeId × Value → H} {W : World} {base : Nat} {v : Value} {d : DataW H} {p : List MemPlace} (hval : Value.okWide Try.prog W .any base 25 v) (h : DataW.Trod enc Try.prog W 0 (fun _ => true) true 25 v d p) :
    ∃ ds, DArg W.heap.size v ds W ∧ ((∀ n ∈ d.weights Try.prog 25, n ≤ reachBytes) → Few 2513169434916 ds) := by
  obtain ⟨a0, len0, cap0, rfl⟩ := okWide_slice Try.underlying25 hval
  obtain ⟨fuel, hf⟩ := h
  obtain ⟨ds, h1, _⟩ := dels_cells hf
  exact ⟨ds, h1, fun hw => dels_wt hf h1 hw⟩
end Go.Proofs.Ytomiblpgjkmmcaa
/- UndoTurns, walked. -/
namespace Go.Proofs.Ytomiblpgjkmmcaa
open Go.ChangeShapes Go.WideShapes Go.ChangeAt Go.RowKit
set_option linter.unusedVariables false
set_option linter.unusedSimpArgs false
set_option maxRecDepth 100000
set_option maxHeartbeats 16000000 in
theorem turns_walk {v : Value} {ds : List Dl} {W : World} (h : DArg W.heap.size v ds W) (hf : Few 2513169434916 ds) :
    Calls Try.prog 7 #[v] W fun e w' => e = .returned (.bool true) ∧ Below W.heap.size W w' := by
  obtain ⟨a, cap, rfl, _⟩ := h.form
  obtain ⟨n, hn⟩ : ∃ n, ds.length = n := ⟨_, rfl⟩
  rw [hn] at h ⊢
  have k0 : Kp W (W.alloc (.cells #[.int .u8 0, .int .i64 0, .slice a n cap] 45)) := kp_alloc _ _
  have HV : Hid (Calls Try.prog 21 #[.slice (some ⟨W.heap.size, 0, none⟩) 1 1] (W.alloc (.cells #[.int .u8 0, .int .i64 0, .slice a n cap] 45)) fun e w' => ∃ hb, e = .returned (.bool hb) ∧ ∃ k, w' = (W.alloc (.cells #[.int .u8 0, .int .i64 0, .slice a n cap] 45)).drewN k) := by
    refine heavy_some (l := [⟨0, 0, .slice a n cap, ds⟩]) ⟨_, 1, rfl, Nat.le_refl _, by simp [maxLen], fun i o hi => ?_⟩
    have q := (List.getElem?_eq_some_iff.1 hi).1
    obtain rfl : i = 0 := by simp at q; exact q
    cases hi
    exact ⟨W.heap.size, 0, rfl, (Lc.new W [.int .u8 0, .int .i64 0, .slice a n cap] 45).at (j := 2) rfl, W.heap.size, h.kp (okSl _) k0⟩
  have HF : Hid (Few 2513169434916 ds) := hf
  have HA : Hid (DArg W.heap.size (.slice a n cap) ds W) := h
  clear h hn k0 hf
  go_enter Try.func7, Try.ntmps7
  go_wp2_with fail
  refine Calls.mono HV.out ?_
  rintro e w1 ⟨hb, rfl, k1, rfl⟩
  cases hb with
  | true =>
    have HK : Hid _ := known_any ((W.alloc (.cells #[.int .u8 0, .int .i64 0, .slice a n cap] 45)).drewN k1)
    clear HV
    go_wp2_with fail
    refine Calls.mono HK.out ?_
    rintro e w2 ⟨rfl, k2⟩
    have H2 : Hid (Kp W w2) := kp_trans (kp_trans (kp_alloc _ _) (kp_drewN _ _)) k2
    clear HK k2
    go_wp2_with fail
    go_ret
    exact ⟨rfl, H2.out⟩
  | false =>
    have HK : Hid _ := known_any ((W.alloc (.cells #[.int .u8 0, .int .i64 0, .slice a n cap] 45)).drewN k1)
    clear HV
    go_wp2_with fail
    refine Calls.mono HK.out ?_
    rintro e w2 ⟨rfl, k2⟩
    have H2 : Hid (Kp W w2) := kp_trans (kp_trans (kp_alloc _ _) (kp_drewN _ _)) k2
    have HT : Hid _ := turn_any (okSl W.heap.size) (HA.out.kp (okSl _) H2.out) HF.out (by omega)
    clear HK k2
    go_wp2_with fail
    refine Calls.mono HT.out ?_
    rintro e w3 ⟨v3, rfl, d3, k3⟩
    obtain ⟨a3, c3, rfl, _⟩ := d3.form
    have H3 : Hid (Kp W w3 ∧ Dw w2.heap.size (.slice a3 (turnD ds).length c3) (turnD ds) w3) := ⟨kp_trans H2.out k3, d3⟩
    have HR : Hid _ := rturn_any (X := Sl fun k => k < W.heap.size) (w := w3) ⟨(okSl W.heap.size).sl, (okSl W.heap.size).kp, fun hB hx hr hg => (okSl W.heap.size).grow (Nat.le_trans H3.out.1.size hB) hx (row_lift hr fun j hj => Nat.le_trans H3.out.1.size (hr.lt j hj).1) hg⟩ (HA.out.kp (okSl _) H3.out.1) (by have := HF.out.1; omega)
    clear HT H2 d3 k3
    generalize hl3 : (turnD ds).length = n3 at H3 ⊢
    go_wp2_with fail
    refine Calls.mono HR.out ?_
    rintro e w4 ⟨v4, rfl, d4, k4⟩
    have H4 : Hid (Kp W w4 ∧ Dw w2.heap.size (.slice a3 n3 c3) (turnD ds) w4) := ⟨kp_trans H3.out.1 k4, H3.out.2.kp (okRow _ _) k4⟩
    have HS : Hid _ := same_eq (okRow w2.heap.size w2.heap.size) (okSl W.heap.size) H4.out.2.dr d4.dr
    clear HR H3 d4 k4
    go_wp2_with fail
    refine Calls.mono HS.out ?_
    rintro e w5 ⟨rfl, k5, rfl⟩
    have H5 : Hid (Kp W (w4.drewN k5) ∧ Dw w2.heap.size (.slice a3 n3 c3) (turnD ds) (w4.drewN k5)) := ⟨kp_trans H4.out.1 (kp_drewN _ _), H4.out.2.kp (okRow _ _) (kp_drewN _ _)⟩
    have HT : Hid _ := turn_any (okRow w2.heap.size w2.heap.size) H5.out.2.dr (few_turn HF.out) (by omega)
    clear HS H4
    go_wp2_with fail
    refine Calls.mono HT.out ?_
    rintro e w6 ⟨v6, rfl, d6, k6⟩
    rw [turnD_turnD] at d6
    have H6 : Hid (Kp W w6) := kp_trans H5.out.1 k6
    have HS : Hid _ := same_eq (okRow (w4.drewN k5).heap.size (w4.drewN k5).heap.size) (okSl W.heap.size) d6.dr (HA.out.kp (okSl _) H6.out)
    clear HT H5 d6 k6
    go_wp2_with fail
    refine Calls.mono HS.out ?_
    rintro e w7 ⟨rfl, k7, rfl⟩
    have H7 : Hid (Kp W (w6.drewN k7)) := kp_trans H6.out (kp_drewN _ _)
    clear HS H6
    go_wp2_with fail
    go_ret
    exact ⟨rfl, H7.out⟩
end Go.Proofs.Ytomiblpgjkmmcaa
