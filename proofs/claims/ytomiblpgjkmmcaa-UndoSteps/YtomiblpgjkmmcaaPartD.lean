/- Texts that the proof of the law stands on: XA, YS. -/
import Derived.Test.YtomiblpgjkmmcaaPartC
import Derived.Lib.Slices
import Derived.Lib.MinMax
/- goBehind, Earlier, Later. -/
namespace Go.Proofs.Ytomiblpgjkmmcaa
open Go.ChangeShapes Go.WideShapes Go.ChangeAt Go.RowKit Go.Maps Go.MapKept Go.Shelf
set_option linter.unusedVariables false
set_option linter.unusedSimpArgs false
set_option maxRecDepth 100000
theorem Went.kp {B C t : Nat} {w w1 w' : World} {v : Value} {m : Tr} {seq : Int} (h : Went B C t w1 v m seq w') (k : Kp w w1) : Went B C t w v m seq w' := by
  obtain ⟨top, l1, l2, hm, d, q, f⟩ := h
  exact ⟨top, l1, l2, hm, d.lower k.size k.size, q, (Ff.kp k).trans f⟩
theorem Ir.cell {B g N cap : Nat} {ss : List Int} {w : World} (h : Ir B (.slice (some ⟨g, 0, none⟩) N cap) ss w) (hN : N = ss.length) {i : Nat} {x : Int} (hi : ss[i]? = some x) : w.cell? ⟨g, i, none⟩ = some (.int .i64 x) := by
  subst hN
  have q := (List.getElem?_eq_some_iff.1 hi).1
  have := World.ownsRow.cellAt h i (by omega)
  rw [this]
  simp [zcs, hi]
theorem idx_eq {ss : List Int} (hn : ss.Nodup) {k : Nat} {x : Int} (hk : ss[k]? = some x) : Lib.idxOf (ss.take ss.length) x = (k : Int) := by
  obtain ⟨h1, h2⟩ := List.getElem?_eq_some_iff.1 hk
  refine Lib.idxOf_hit ss ss.length k x h1 (Nat.le_refl _) (by simp [List.getD, hk]) fun j hj => ?_
  have hjl : j < ss.length := by omega
  have := (List.pairwise_iff_getElem.1 hn) j k hjl h1 hj
  simp only [List.getD, List.getElem?_eq_getElem hjl, Option.getD_some]
  rw [← h2]; exact this
section
variable {B C D t g N cap k : Nat} {m : Tr} {w : World} {ss : List Int} {n : Int}
theorem index_any (ha : Ir D (.slice (some ⟨g, 0, none⟩) N cap) ss w) (hN : N = ss.length) (hnd : ss.Nodup) {x : Int} (hk : ss[k]? = some x) :
    Calls Try.prog 59 #[.slice (some ⟨g, 0, none⟩) N cap, .int .i64 x] w fun e w' => e = .returned (.int .i64 k) ∧ w' = w := by
  have hl : N ≤ 9223372036854775807 := by
    obtain ⟨a, c, e, h1, h2⟩ := ha.form
    cases e
    unfold maxLen at h2; omega
  have := Any.slices_Index_int Try.lays108 g 0 N cap ss x w (by omega) hl (fun j hj => by
    rw [Nat.zero_add]
    have := ha.cell hN (i := j) (x := ss.getD j 0) (by simp [List.getD, List.getElem?_eq_getElem hj])
    exact this)
  rw [hN, idx_eq hnd hk] at this
  rw [hN]
  exact this
set_option maxHeartbeats 4000000 in
theorem behind_arg (h : Tw B C t m w) (ha : Ir D (.slice (some ⟨g, 0, none⟩) N cap) ss w) (hN : N = ss.length) (hnd : ss.Nodup) (hk : ss[k]? = some m.now) (hn1 : n < 1) :
    Calls Try.prog 35 #[.pointer (some ⟨t, 0, none⟩), .slice (some ⟨g, 0, none⟩) N cap, .int .i64 n] w fun e w' => e = .returned (.tuple #[.slice none 0 0, .int .u16 1]) ∧ w' = w := by
  obtain ⟨b, q, h⟩ := h
  have c1 := h.box.at (j := 1) rfl
  have HI : Hid _ := index_any ha hN hnd hk
  have hkN : k < N := by have := (List.getElem?_eq_some_iff.1 hk).1; omega
  have hc : N ≤ cap ∧ cap ≤ 9223372036854775807 := by
    obtain ⟨_, _, e, hc1, hc2⟩ := ha.form
    cases e; unfold maxLen at hc2; omega
  have hc1 := hc.1
  have hc2 := hc.2
  have d1 : decide (n < 1) = true := decide_eq_true hn1
  have d2 : ((k : Int) + 1).toNat = k + 1 := by omega
  clear h ha hnd hk hN
  go_enter Try.func35, Try.ntmps35
  go_wp2_with fail
  refine Calls.mono HI.out ?_
  rintro e w1 ⟨rfl, rfl⟩
  clear HI
  go_wp2_with fail
  all_goals (go_ret2; exact ⟨rfl, rfl⟩)
set_option maxHeartbeats 4000000 in
theorem behind_end (h : Tw B C t m w) (ha : Ir D (.slice (some ⟨g, 0, none⟩) N cap) ss w) (hN : N = ss.length) (hnd : ss.Nodup) (hk : ss[k]? = some m.now) (hn1 : 1 ≤ n) (hkN : k + 1 = N) :
    Calls Try.prog 35 #[.pointer (some ⟨t, 0, none⟩), .slice (some ⟨g, 0, none⟩) N cap, .int .i64 n] w fun e w' => e = .returned (.tuple #[.slice none 0 0, .int .u16 121]) ∧ w' = w := by
  obtain ⟨b, q, h⟩ := h
  have c1 := h.box.at (j := 1) rfl
  have HI : Hid _ := index_any ha hN hnd hk
  have hc : N ≤ cap ∧ cap ≤ 9223372036854775807 := by
    obtain ⟨_, _, e, hc1, hc2⟩ := ha.form
    cases e; unfold maxLen at hc2; omega
  have hc1 := hc.1
  have hc2 := hc.2
  have d1 : decide (n < 1) = false := decide_eq_false (by omega)
  have d2 : ((k : Int) + 1).toNat = k + 1 := by omega
  have d3 : N - (k + 1) = 0 := by omega
  have hkN2 : k < N := by omega
  clear h ha hnd hk hN hkN
  go_enter Try.func35, Try.ntmps35
  go_wp2_with fail
  refine Calls.mono HI.out ?_
  rintro e w1 ⟨rfl, rfl⟩
  clear HI
  go_wp2_with fail
  all_goals (go_ret2; exact ⟨rfl, rfl⟩)
set_option maxHeartbeats 8000000 in
theorem behind_go (h : Tw B C t m w) (hC : C ≤ w.heap.size) (I : Inv m) (hnx : m.next ≤ 10000) (ha : Ir D (.slice (some ⟨g, 0, none⟩) N cap) ss w) (hN : N = ss.length) (hnd : ss.Nodup) (hk : ss[k]? = some m.now) (hn1 : 1 ≤ n) {j : Nat} (hj : min n ((N - (k + 1) : Nat) : Int) = (j : Int) + 1) {seq : Int} (hs : ss[k + 1 + j]? = some seq) (hl : look m.L seq ≠ none) :
    Calls Try.prog 35 #[.pointer (some ⟨t, 0, none⟩), .slice (some ⟨g, 0, none⟩) N cap, .int .i64 n] w fun e w' => ∃ v, e = .returned (.tuple #[v, .int .u16 0]) ∧ Went B C t w v m seq w' := by
  have HG : Hid _ := go_any h hC I.fam hnx I.nw hl
  obtain ⟨b, q, h⟩ := h
  have c1 := h.box.at (j := 1) rfl
  have HI : Hid _ := index_any ha hN hnd hk
  have c2 := ha.cell hN hs
  have hkj : k + 1 + j < N := by have := (List.getElem?_eq_some_iff.1 hs).1; omega
  have hc : N ≤ cap ∧ cap ≤ 9223372036854775807 := by
    obtain ⟨_, _, e, hc1, hc2⟩ := ha.form
    cases e; unfold maxLen at hc2; omega
  have hc1 := hc.1
  have hc2 := hc.2
  have d1 : decide (n < 1) = false := decide_eq_false (by omega)
  have d2 : ((k : Int) + 1).toNat = k + 1 := by omega
  have hkN2 : k < N := by omega
  have hne : ¬ cap = k + 1 := by omega
  have d4 : (((N - (k + 1) : Nat) : Int) == 0) = false := by simp; omega
  have d5 : (N - (k + 1) == 0) = false := by simp; omega
  have hjn : j < N - (k + 1) := by omega
  have d6 : ((j : Int) + 1 - 1) = (j : Int) := by omega
  clear h ha hnd hk hN hs hl
  go_enter Try.func35, Try.ntmps35
  go_wp2_with fail
  refine Calls.mono HI.out ?_
  rintro e w1 ⟨rfl, rfl⟩
  clear HI
  go_wp2_with fail
  refine Calls.mono HG.out ?_
  rintro e w2 ⟨v2, rfl, q2⟩
  have H2 : Hid _ := q2
  clear HG q2
  go_wp2_with fail
  go_ret2
  exact ⟨_, rfl, H2.out⟩
theorem seqs_nd (I : Inv m) : (m.L.map St.seq).Nodup := I.nodup
theorem Ir.some {v : Value} (h : Ir D v ss w) (hne : ss ≠ []) : ∃ g c, v = .slice (some ⟨g, 0, none⟩) ss.length c ∧ D ≤ g := by
  rcases h.2 with ⟨_, e0⟩ | ⟨g, c, cur, e, hb, _⟩
  · exact absurd (List.eq_nil_of_length_eq_zero e0) hne
  · exact ⟨g, c, e, hb⟩
theorem look_there {L : List St} (hs : (L.map St.seq).Pairwise (· < ·)) {i : Nat} {x : Int} (h : (L.map St.seq)[i]? = some x) : look L x ≠ none := look_ne.2 (List.mem_of_getElem? h)
/-- What Later and Earlier come to: nothing, or a way to a state. -/
def Led (B C t : Nat) (w : World) (m : Tr) (err : Int) (seq : Int) (v : Value) (w' : World) : Prop :=
  (err ≠ 0 ∧ v = .slice none 0 0 ∧ Kp w w') ∨ (err = 0 ∧ Went B C t w v m seq w')
set_option maxHeartbeats 4000000 in
theorem later_any (h : Tw B C t m w) (hC : C ≤ w.heap.size) (I : Inv m) (hnx : m.next ≤ 10000) (hl : m.L.length ≤ 250) (hk : (m.L.map St.seq)[k]? = some m.now) {err seq : Int}
    (hc : (n < 1 ∧ err = 1) ∨ (1 ≤ n ∧ k + 1 = m.L.length ∧ err = 121) ∨ (1 ≤ n ∧ err = 0 ∧ ∃ j : Nat, min n ((m.L.length - (k + 1) : Nat) : Int) = (j : Int) + 1 ∧ (m.L.map St.seq)[k + 1 + j]? = some seq)) :
    Calls Try.prog 15 #[.pointer (some ⟨t, 0, none⟩), .int .i64 n] w fun e w' => ∃ v, e = .returned (.tuple #[v, .int .u16 err]) ∧ Led B C t w m err seq v w' := by
  have HN : Hid _ := numbers_any h hl I.sq
  have hkl := (List.getElem?_eq_some_iff.1 hk).1
  have HC : Hid (∀ g c w1, Ir w.heap.size (.slice (some ⟨g, 0, none⟩) m.L.length c) (m.L.map St.seq) w1 → Kp w w1 → Calls Try.prog 35 #[.pointer (some ⟨t, 0, none⟩), .slice (some ⟨g, 0, none⟩) m.L.length c, .int .i64 n] w1 fun e w' => ∃ v, e = .returned (.tuple #[v, .int .u16 err]) ∧ Led B C t w m err seq v w') := fun g c w1 q1 k1 => by
    have eN : m.L.length = (m.L.map St.seq).length := by simp
    rcases hc with ⟨h1, rfl⟩ | ⟨h1, h2, rfl⟩ | ⟨h1, rfl, j, h2, h3⟩
    · refine (behind_arg (h.kp k1) q1 eN I.nodup hk h1).mono ?_
      rintro e w' ⟨rfl, rfl⟩
      exact ⟨_, rfl, .inl ⟨by decide, rfl, k1⟩⟩
    · refine (behind_end (h.kp k1) q1 eN I.nodup hk h1 h2).mono ?_
      rintro e w' ⟨rfl, rfl⟩
      exact ⟨_, rfl, .inl ⟨by decide, rfl, k1⟩⟩
    · refine (behind_go (h.kp k1) (Nat.le_trans hC k1.size) I hnx q1 eN I.nodup hk h1 h2 h3 (look_there I.sq h3)).mono ?_
      rintro e w' ⟨v, rfl, q⟩
      exact ⟨_, rfl, .inr ⟨rfl, q.kp k1⟩⟩
  have HL : Hid (m.L.map St.seq ≠ [] ∧ (m.L.map St.seq).length = m.L.length) := ⟨fun e => by rw [e] at hkl; simp at hkl, by simp⟩
  clear h I hk hc hkl
  go_enter Try.func15, Try.ntmps15
  go_wp2_with fail
  refine Calls.mono HN.out ?_
  rintro e w1 ⟨v, rfl, q1, k1⟩
  obtain ⟨g, c, rfl, _⟩ := q1.some HL.out.1
  rw [HL.out.2] at q1 ⊢
  have HB : Hid _ := HC.out g c w1 q1 k1
  generalize m.L.length = N at HB ⊢
  clear HN HC q1 k1
  go_wp2_with fail
  refine Calls.mono HB.out ?_
  rintro e w2 ⟨v2, rfl, q2⟩
  have H2 : Hid _ := q2
  clear HB q2
  go_wp2_with fail
  go_ret2
  exact ⟨_, rfl, H2.out⟩
theorem revI_some {ss : List Int} {w : World} {g cap : Nat} (h : Ir D (.slice (some ⟨g, 0, none⟩) ss.length cap) ss w) :
    Calls Try.prog 34 #[.slice (some ⟨g, 0, none⟩) ss.length cap] w fun e w' => e = .returned (.tuple #[]) ∧ Ir D (.slice (some ⟨g, 0, none⟩) ss.length cap) ss.reverse w' ∧ Fr (On g) w w' := by
  rcases h.2 with ⟨z, _⟩ | ⟨g', cap', cur, z, hb, hg, h1, h2, h3, h4⟩
  · cases z
  cases z
  refine (Any.slices_Reverse_int Try.lays112 g 0 cap ss w (holds_of_blockI hg (zcs_cells h4)) (by unfold maxLen at h2; omega)).mono ?_
  rintro e w' ⟨rfl, n, rfl⟩
  have hl2 : ss.reverse.length = ss.length := List.length_reverse
  have q := ownsRow_sortedI (n := n) (os := #[]) (base := D) hl2 hb hg h1 h2 h3
  have f := grownBy_sortedI (w := w) (g := g) (n := n) (os := #[]) ss.reverse.toArray
  have eg : ∀ W : World, Go.Sort.grow W #[] = W := fun W => by simp [Go.Sort.grow]
  rw [eg] at q f
  refine ⟨rfl, ?_, (fr_grown f).mono fun k _ e => by cases e; rfl⟩
  unfold Ir; rw [hl2]; exact q
set_option maxHeartbeats 4000000 in
theorem earlier_any (h : Tw B C t m w) (hC : C ≤ w.heap.size) (I : Inv m) (hnx : m.next ≤ 10000) (hl : m.L.length ≤ 250) (hk : (m.L.map St.seq).reverse[k]? = some m.now) {err seq : Int}
    (hc : (n < 1 ∧ err = 1) ∨ (1 ≤ n ∧ k + 1 = m.L.length ∧ err = 121) ∨ (1 ≤ n ∧ err = 0 ∧ ∃ j : Nat, min n ((m.L.length - (k + 1) : Nat) : Int) = (j : Int) + 1 ∧ (m.L.map St.seq).reverse[k + 1 + j]? = some seq)) :
    Calls Try.prog 13 #[.pointer (some ⟨t, 0, none⟩), .int .i64 n] w fun e w' => ∃ v, e = .returned (.tuple #[v, .int .u16 err]) ∧ Led B C t w m err seq v w' := by
  have HN : Hid _ := numbers_any h hl I.sq
  have hkl := (List.getElem?_eq_some_iff.1 hk).1
  have HC : Hid (∀ g c w1, Ir w.heap.size (.slice (some ⟨g, 0, none⟩) m.L.length c) (m.L.map St.seq).reverse w1 → Kp w w1 → Calls Try.prog 35 #[.pointer (some ⟨t, 0, none⟩), .slice (some ⟨g, 0, none⟩) m.L.length c, .int .i64 n] w1 fun e w' => ∃ v, e = .returned (.tuple #[v, .int .u16 err]) ∧ Led B C t w m err seq v w') := fun g c w1 q1 k1 => by
    have eN : m.L.length = (m.L.map St.seq).reverse.length := by simp
    have hnd : (m.L.map St.seq).reverse.Nodup := (List.reverse_perm _).nodup_iff.2 I.nodup
    rcases hc with ⟨h1, rfl⟩ | ⟨h1, h2, rfl⟩ | ⟨h1, rfl, j, h2, h3⟩
    · refine (behind_arg (h.kp k1) q1 eN hnd hk h1).mono ?_
      rintro e w' ⟨rfl, rfl⟩
      exact ⟨_, rfl, .inl ⟨by decide, rfl, k1⟩⟩
    · refine (behind_end (h.kp k1) q1 eN hnd hk h1 h2).mono ?_
      rintro e w' ⟨rfl, rfl⟩
      exact ⟨_, rfl, .inl ⟨by decide, rfl, k1⟩⟩
    · refine (behind_go (h.kp k1) (Nat.le_trans hC k1.size) I hnx q1 eN hnd hk h1 h2 h3 (look_ne.2 (by simpa using List.mem_of_getElem? h3))).mono ?_
      rintro e w' ⟨v, rfl, q⟩
      exact ⟨_, rfl, .inr ⟨rfl, q.kp k1⟩⟩
  have HL : Hid (m.L.map St.seq ≠ [] ∧ (m.L.map St.seq).length = m.L.length) := ⟨fun e => by rw [e] at hkl; simp at hkl, by simp⟩
  clear h I hk hc hkl
  go_enter Try.func13, Try.ntmps13
  go_wp2_with fail
  refine Calls.mono HN.out ?_
  rintro e w1 ⟨v, rfl, q1, k1⟩
  obtain ⟨g, c, rfl, hg⟩ := q1.some HL.out.1
  have HR : Hid _ := revI_some q1
  have HK : Hid (Kp w w1 ∧ w.heap.size ≤ g) := ⟨k1, hg⟩
  rw [HL.out.2] at HR ⊢
  clear HN q1 k1 hg
  generalize hN : m.L.length = N at HR HC ⊢
  go_wp2_with fail
  refine Calls.mono HR.out ?_
  rintro e w2 ⟨rfl, q2, f2⟩
  have HB : Hid _ := HC.out g c w2 q2 (HK.out.1.trans (f2.below HK.out.1.size fun k hk e => by have := HK.out.2; unfold On at e; omega))
  clear HR HC q2 f2
  go_wp2_with fail
  refine Calls.mono HB.out ?_
  rintro e w3 ⟨v3, rfl, q3⟩
  have H3 : Hid _ := q3
  clear HB q3
  go_wp2_with fail
  go_ret2
  exact ⟨_, rfl, H3.out⟩
end
end Go.Proofs.Ytomiblpgjkmmcaa
/- UndoSteps, walked. -/
namespace Go.Proofs.Ytomiblpgjkmmcaa
open Go.ChangeShapes Go.WideShapes Go.ChangeAt Go.RowKit
set_option linter.unusedVariables false
set_option linter.unusedSimpArgs false
set_option maxRecDepth 100000
/-- The numbers from nought to i. -/
def nums (i : Nat) : List Int := (List.range (i + 1)).map fun j : Nat => (j : Int)
theorem nums_at {i j : Nat} (h : j ≤ i) : (nums i)[j]? = some (j : Int) := by simp [nums, show j < i + 1 by omega]
theorem nums_len (i : Nat) : (nums i).length = i + 1 := by simp [nums]
theorem nums_rev {i j : Nat} (h : j ≤ i) : (nums i).reverse[j]? = some ((i - j : Nat) : Int) := by
  rw [List.getElem?_reverse (by rw [nums_len]; omega), nums_len, show i + 1 - 1 - j = i - j by omega]
  exact nums_at (by omega)
theorem nums_snoc (i : Nat) : nums (i + 1) = nums i ++ [((i + 1 : Nat) : Int)] := by simp [nums, List.range_succ]
/-- States with all numbers up to i; now is x. -/
structure Chain (m : Tr) (i : Nat) (x : Nat) : Prop where
  inv : Inv m
  now : m.now = (x : Int)
  next : m.next = (i : Int) + 1
  sq : m.L.map St.seq = nums i
  most : m.most = 200
theorem chain_first : Chain (first 200) 0 0 := ⟨inv_first 200, rfl, rfl, rfl, rfl⟩
theorem Chain.len {m : Tr} {i x : Nat} (h : Chain m i x) : m.L.length = i + 1 := by have := congrArg List.length h.sq; rw [List.length_map, nums_len] at this; exact this
theorem few_nil : Few 2000 [] := ⟨by simp, by simp⟩
theorem Chain.step {m : Tr} {i : Nat} (h : Chain m i i) : Chain (addT m []) (i + 1) (i + 1) := by
  have hn := h.next
  refine ⟨h.inv.add few_nil, ?_, ?_, ?_, h.most⟩
  · show m.next = _; rw [hn]; omega
  · show m.next + 1 = _; rw [hn]; omega
  · show (setOn m.L m.now m.next ++ [_]).map St.seq = _
    rw [List.map_append, setOn_seq, h.sq, nums_snoc, List.map_singleton, hn]
    congr 2
theorem Chain.go {m : Tr} {i x y : Nat} (h : Chain m i x) {top : Int} {l1 l2 : List Int} (hm : Meet m.L m.now (y : Int) top l1 l2) (hy : look m.L (y : Int) ≠ none) : Chain { m with L := led m.L l2 top, now := (y : Int) } i y :=
  ⟨h.inv.go hm hy, rfl, h.next, by show (led m.L l2 top).map St.seq = _; rw [(h.inv.fam.led hm.u2).2]; exact h.sq, h.most⟩
set_option maxHeartbeats 32000000 in
theorem steps_walk (a : Nat) (ha : a < 256) (b : Nat) (hb : b < 256) (c : Nat) (hc : c < 256) {W : World} :
    Calls Try.prog 3 #[.int .u8 a, .int .u8 b, .int .u8 c] W fun e w' => e = .returned (.bool true) ∧ Below W.heap.size W w' := by
  have HN : Hid _ := new_any (most := 200) (by decide) (by decide) W
  have he := eqlT
  obtain ⟨K, hK⟩ : ∃ n, a % 60 = n := ⟨_, rfl⟩
  obtain ⟨A, hA⟩ : ∃ n, b % 70 = n := ⟨_, rfl⟩
  obtain ⟨C, hC⟩ : ∃ n, c % 70 = n := ⟨_, rfl⟩
  have eK : Int.tmod (a : Int) 60 = (K : Int) := by rw [Int.tmod_eq_emod_of_nonneg (by omega)]; omega
  have eA : Int.tmod (b : Int) 70 = (A : Int) := by rw [Int.tmod_eq_emod_of_nonneg (by omega)]; omega
  have eC : Int.tmod (c : Int) 70 = (C : Int) := by rw [Int.tmod_eq_emod_of_nonneg (by omega)]; omega
  have hK6 : K < 60 := by omega
  have hA7 : A < 70 := by omega
  have hC7 : C < 70 := by omega
  go_enter Try.func3, Try.ntmps3
  go_wp2_with fail
  refine Calls.mono HN.out ?_
  rintro e w1 ⟨t, rfl, t1, k1⟩
  have H1 : Hid (Kp W w1 ∧ Tw W.heap.size W.heap.size t (first 200) w1) := ⟨k1, t1⟩
  clear HN t1 k1
  go_wp2_with fail
  go_loopw [9] (fun v9 wr => ∃ i : Nat, i ≤ K + 1 ∧ v9 = .int .i64 ((i : Int) + 1) ∧ Hid (∃ m D, Chain m i i ∧ Tw W.heap.size D t m wr ∧ Kp W wr)) (fun v9 _ => K + 2 - (intOf v9).toNat)
  case atStart => exact ⟨0, Nat.zero_le _, by go_num, first 200, _, chain_first, H1.out.2, H1.out.1⟩
  case round =>
    clear H1
    obtain ⟨i, hi, rfl, HI⟩ := hrel
    by_cases q : i < K + 1
    · have d1 : decide ((i : Int) + 1 ≤ 1 + (K : Int)) = true := decide_eq_true (by omega)
      obtain ⟨m, D, hs, ht, kk⟩ := HI.out
      have HA : Hid _ := add_few ht hs.inv.fam (by rw [hs.next]; omega) hs.inv.nodup hs.inv.nw (by rw [hs.len, hs.most]; omega) kk.size (okRow 0 0) (Dx.nil (Row 0) 0 wr).dr few_nil (by omega)
      have HS : Hid (Chain (addT m []) (i + 1) (i + 1) ∧ Kp W wr) := ⟨hs.step, kk⟩
      rw [hs.next] at HA
      have d2 : ((i : Int) + 1 != (i : Int) + 1) = false := by simp
      clear HI hs ht kk
      go_wp2_with fail
      refine Calls.mono HA.out ?_
      rintro e w3 ⟨rfl, t3, f3⟩
      have H3 : Hid (∃ m D, Chain m (i + 1) (i + 1) ∧ Tw W.heap.size D t m w3 ∧ Kp W w3) := ⟨_, _, HS.out.1, t3, HS.out.2.trans (f3.below HS.out.2.size)⟩
      clear HA HS t3 f3
      go_wp2_with fail
      go_roundw
      case rel => exact ⟨i + 1, by omega, by go_num, H3.out⟩
      case measure => simp only [intOf]; omega
    · obtain rfl : i = K + 1 := by omega
      have d1 : decide (((K + 1 : Nat) : Int) + 1 ≤ 1 + (K : Int)) = false := decide_eq_false (by omega)
      obtain ⟨m, D, hs, ht, kk⟩ := HI.out
      obtain ⟨at0, hat⟩ : ∃ x : Nat, x = (K + 1) - (A + 1) := ⟨_, rfl⟩
      have HE : Hid _ := earlier_any (n := 1 + (A : Int)) (k := 0) (err := 0) (seq := (at0 : Int)) ht.sized (Nat.le_refl _) hs.inv (by rw [hs.next]; omega) (by rw [hs.len]; omega) (by rw [hs.sq, hs.now, nums_rev (by omega)]; simp) (.inr (.inr ⟨by omega, rfl, min (A + 1) (K + 1) - 1, by rw [hs.len]; omega, by rw [hs.sq, nums_rev (by omega)]; congr 2; omega⟩))
      have HS : Hid (Chain m (K + 1) (K + 1) ∧ Kp W wr) := ⟨hs, kk⟩
      have d3 : max (1 + (K : Int) - (1 + (A : Int))) 0 = (at0 : Int) := by omega
      have d4 : ((at0 : Int) != (at0 : Int)) = false := by simp
      clear HI hs ht kk
      go_wp2_with fail
      refine Calls.mono HE.out ?_
      rintro e w3 ⟨v3, rfl, q3⟩
      obtain ⟨top, l1, l2, hm, dd, t3, f3⟩ : Went W.heap.size wr.heap.size t wr v3 m (at0 : Int) w3 := by
        rcases q3 with ⟨h0, _⟩ | ⟨_, h0⟩
        · exact absurd rfl h0
        · exact h0
      have hlk : look m.L (at0 : Int) ≠ none := look_there HS.out.1.inv.sq (i := at0) (by rw [HS.out.1.sq]; exact nums_at (by omega))
      have hs3 := HS.out.1.go hm hlk
      have HW : Hid _ := now_any t3
      have H3 : Hid (Kp W w3) := HS.out.2.trans (f3.below HS.out.2.size)
      obtain ⟨tg, htg⟩ : ∃ x : Nat, x = at0 + min (C + 1) (K + 1 - at0) := ⟨_, rfl⟩
      have HL : Hid _ := later_any (n := 1 + (C : Int)) (k := at0) (err := 0) (seq := (tg : Int)) t3.sized (Nat.le_refl _) hs3.inv (by rw [hs3.next]; omega) (by rw [hs3.len]; omega) (by rw [hs3.sq, nums_at (by omega)]) (.inr (.inr ⟨by omega, rfl, min (C + 1) (K + 1 - at0) - 1, by rw [hs3.len]; omega, by rw [hs3.sq, nums_at (by omega)]; congr 1; omega⟩))
      have HS3 : Hid (Chain { m with L := led m.L l2 top, now := (at0 : Int) } (K + 1) at0) := hs3
      have d5 : min ((at0 : Int) + (1 + (C : Int))) (1 + (K : Int)) = (tg : Int) := by omega
      clear HE HS q3 hm dd t3 f3 hlk hs3
      go_wp2_with fail
      refine Calls.mono HW.out ?_
      rintro e w3' ⟨rfl, rfl⟩
      clear HW
      go_wp2_with fail
      refine Calls.mono HL.out ?_
      rintro e w4 ⟨v4, rfl, q4⟩
      obtain ⟨top4, l3, l4, hm, dd, t4, f4⟩ : Went W.heap.size w3'.heap.size t w3' v4 { m with L := led m.L l2 top, now := (at0 : Int) } (tg : Int) w4 := by
        rcases q4 with ⟨h0, _⟩ | ⟨_, h0⟩
        · exact absurd rfl h0
        · exact h0
      have hlk : look (led m.L l2 top) (tg : Int) ≠ none := look_there HS3.out.inv.sq (i := tg) (by show (List.map St.seq (led m.L l2 top))[tg]? = _; rw [HS3.out.sq]; exact nums_at (by omega))
      have hs4 := HS3.out.go hm hlk
      have H4 : Hid (Kp W w4) := H3.out.trans (f4.below H3.out.size)
      have HE : Hid _ := earlier_any (n := 0) (k := K + 1 - tg) (err := 1) (seq := 0) t4.sized (Nat.le_refl _) hs4.inv (by rw [hs4.next]; omega) (by rw [hs4.len]; omega) (by rw [hs4.sq, nums_rev (by omega)]; congr 2; omega) (.inl ⟨by omega, rfl⟩)
      have HT4 : Hid (Tw W.heap.size w3'.heap.size t { { m with L := led m.L l2 top, now := (at0 : Int) } with L := led (led m.L l2 top) l4 top4, now := (tg : Int) } w4) := t4
      clear HL H3 HS3 q4 hm dd t4 f4 hlk hs4
      go_wp2_with fail
      refine Calls.mono HE.out ?_
      rintro e w5 ⟨v5, rfl, q5⟩
      have k5 : Kp w4 w5 := by
        rcases q5 with ⟨_, _, h0⟩ | ⟨h0, _⟩
        · exact h0
        · cases h0
      have HK : Hid _ := known_any w5
      have H5 : Hid (Kp W w5 ∧ Tw W.heap.size w3'.heap.size t { { m with L := led m.L l2 top, now := (at0 : Int) } with L := led (led m.L l2 top) l4 top4, now := (tg : Int) } w5) := ⟨kp_trans H4.out k5, HT4.out.kp k5⟩
      clear HE H4 HT4 q5 k5
      go_wp2_with fail
      refine Calls.mono HK.out ?_
      rintro e w6 ⟨rfl, k6⟩
      have HW : Hid _ := now_any (H5.out.2.kp k6)
      have H6 : Hid (Kp W w6) := kp_trans H5.out.1 k6
      have d6 : ((tg : Int) == (tg : Int)) = true := by simp
      clear HK H5 k6
      go_wp2_with fail
      refine Calls.mono HW.out ?_
      rintro e w7 ⟨rfl, rfl⟩
      clear HW
      go_wp2_with fail
      go_ret
      exact ⟨rfl, H6.out⟩
end Go.Proofs.Ytomiblpgjkmmcaa
