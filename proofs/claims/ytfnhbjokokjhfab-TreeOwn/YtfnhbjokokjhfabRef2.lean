/- The document's answer: its calls Part, Splice, Insert, Delete, Set, New. -/
import Derived.Test.YtfnhbjokokjhfabRef
namespace Go.Proofs.Ytfnhbjokokjhfab
open Go.ChangeShapes Go.WideShapes Go.ChangeAt Go.RowKit
theorem wpList_append_src {P : Program} {w : World} {ops : Array Oper} {rest : List Oper} {o : Oper} {a : Act} {Q : Exit → Act → World → Prop} (hgd : o.guard = none) (s x : Operand) (t : TypeId)
    (ho : o.op = .call { callee := .builtin .append, args := #[s, x], argTypes := #[t, t] })
    (base : Nat) (e : TypeId) (i : TypeInfo) (z : Value) (size bytes : Nat) (ht : P.underlying t = some (.slice e)) (hi : P.info? e = some i) (hz : i.zero = some z)
    (hsize : i.size = size) (hby : i.bytes = bytes) (hzs : z.cells.size = size) (hsz : 0 < size)
    (v : Value) (n : Nat) (xs : List Value) (hs : a.eval s = v) (hown : w.ownsRow base e size v n xs)
    (ao : Option Addr) (m c : Nat) (news : List Value) (hx : a.eval x = .slice ao m c) (hl : news.length = m * size) (hnone : ao = none → m = 0 ∧ c = 0) (hnews : ∀ ad, ao = some ad → ∀ j u, news[j]? = some u → w.cell? (ad.add j) = some u) (h1 : ∀ u ∈ news, u.oneCell' = true)
    (h63 : n + m ≤ maxLen) (hbytes : (n + m) * bytes ≤ 140737488355328) (hbase : base ≤ w.heap.size)
    (h : ∀ v' w', w'.ownsRow base e size v' (n + m) (xs ++ news) → w.grownBy w' v.ownBlock → wpList P ops Q rest (a.put o.dst v') w') : wpList P ops Q (o :: rest) a w := by
  cases ao with
  | some ad => exact wpList_append_own w hgd s x t ho base e i z size bytes ht hi hz hsize hby hzs hsz v n xs hs hown ad m c news hx hl (hnews ad rfl) h1 h63 hbytes hbase fun v' w' q1 q2 _ => h v' w' q1 q2
  | none =>
    obtain ⟨rfl, rfl⟩ := hnone rfl
    have : news = [] := List.eq_nil_of_length_eq_zero (by simpa using hl)
    subst this
    exact wpList_append_own_none hgd s x t ho base e i size ht hi v n xs hs hown hx (h v w (by simpa using hown) (World.grownBy.refl _ _))
section
variable {o : Own} {w : World} {r : Nat} {ls ms : List ByteArray}
theorem rpart_no (h : Rf o w r ls) (hl : ls.length < 2 ^ 40) (i n : Int) (hi : -9223372036854775808 ≤ i ∧ i ≤ 9223372036854775807) (hno : ¬ (0 ≤ i ∧ 0 ≤ n ∧ n ≤ (ls.length : Int) - i)) :
    Calls Try.prog 23 #[.pointer (some ⟨r, 0, none⟩), .int .i64 i, .int .i64 n] w fun e w' => e = .returned (.tuple #[.slice none 0 0, .bool false]) ∧ ∃ q, w' = w.drewN q := by
  obtain ⟨lv, h1, h2⟩ := h.ex
  have c0 : w.cell? ⟨r, 0, none⟩ = some lv := by simp [World.cell?, h1]
  obtain ⟨a, cap, rfl, x1, x2⟩ := h2.form
  clear h h1 h2
  generalize ls.length = L at *
  by_cases h0 : i < 0
  · have hd : decide (i < 0) = true := by simp; omega
    go_enter Try.func23, Try.ntmps23
    go_wp2_with fail
    go_ret2
    exact ⟨rfl, 0, rfl⟩
  · have hd : decide (i < 0) = false := by simp; omega
    by_cases h1 : n < 0
    · have hd1 : decide (n < 0) = true := by simp; omega
      go_enter Try.func23, Try.ntmps23
      go_wp2_with fail
      go_ret2
      exact ⟨rfl, 0, rfl⟩
    · have hd1 : decide (n < 0) = false := by simp; omega
      by_cases h2 : (L : Int) < i
      · have hd2 : decide ((L : Int) < i) = true := by simp; omega
        go_enter Try.func23, Try.ntmps23
        go_wp2_with fail
        go_ret2
        exact ⟨rfl, 0, rfl⟩
      · have hd2 : decide ((L : Int) < i) = false := by simp; omega
        have hd3 : decide ((L : Int) - i < n) = true := by simp; omega
        have hw : IntKind.i64.wrap ((L : Int) - i) = (L : Int) - i := by rw [IntKind.wrap_i64]; omega
        go_enter Try.func23, Try.ntmps23
        go_wp2_with fail
        go_ret2
        exact ⟨rfl, 0, rfl⟩
theorem rpart_ok (h : Rf o w r ls) (hl : ls.length < 2 ^ 40) {i n : Nat} (hin : i + n ≤ ls.length) :
    Calls Try.prog 23 #[.pointer (some ⟨r, 0, none⟩), .int .i64 i, .int .i64 n] w fun e w' => ∃ a c, e = .returned (.tuple #[.slice a n c, .bool true]) ∧ Lies nobody w' (.slice a n c) ((ls.drop i).take n) ∧ Below w.heap.size w w' := by
  obtain ⟨lv, h1, h2⟩ := h.ex
  have c0 : w.cell? ⟨r, 0, none⟩ = some lv := by simp [World.cell?, h1]
  obtain ⟨i9, hi9, z0, z1, z2⟩ := info_parts info9
  have ON : Hid (w.ownsRow w.heap.size 9 1 (.slice none 0 0) 0 []) := World.ownsRow_nil _ _ _ _
  have hlen : ((ls.drop i).take n).length = n := by simp; omega
  have HN : Hid ((strs ((ls.drop i).take n)).length = n * 1) := by show (strs ((ls.drop i).take n)).length = n * 1; simp only [strs, List.length_map]; omega
  have HO : Hid (∀ u ∈ strs ((ls.drop i).take n), u.oneCell' = true) := strs_one _
  have HF : Hid (∀ v1 w1, w1.ownsRow w.heap.size 9 1 v1 (0 + n) ([] ++ strs ((ls.drop i).take n)) → w.grownBy w1 (Value.slice none 0 0).ownBlock → ∃ a c, v1 = .slice a n c ∧ Lies nobody w1 v1 ((ls.drop i).take n) ∧ Below w.heap.size w w1) := by
    intro v1 w1 ho hg
    rw [Nat.zero_add, List.nil_append] at ho
    obtain ⟨a, c, e⟩ := owns_form ho
    exact ⟨a, c, e, owns_lies (by rw [hlen]; exact ho) (fun k hk => absurd rfl hk), below_grown (Below.refl _ _) (Nat.le_refl _) hg (fun k hk => by cases hk)⟩
  have hd : decide ((i : Int) < 0) = false := by simp
  have hd1 : decide ((n : Int) < 0) = false := by simp
  have hd2 : decide ((ls.length : Int) < (i : Int)) = false := by simp; omega
  have hd3 : decide ((ls.length : Int) - (i : Int) < (n : Int)) = false := by simp; omega
  have hw : IntKind.i64.wrap ((ls.length : Int) - (i : Int)) = (ls.length : Int) - (i : Int) := by rw [IntKind.wrap_i64]; omega
  have hw2 : IntKind.i64.wrap ((i : Int) + (n : Int)) = (i : Int) + (n : Int) := by rw [IntKind.wrap_i64]; omega
  have HC : Hid (∀ b cap, lv = .slice (some ⟨b, 0, none⟩) ls.length cap → ∀ j u, (strs ((ls.drop i).take n))[j]? = some u → w.cell? ((⟨b, i, none⟩ : Addr).add j) = some u) := by
    intro b cap e j u hj
    subst e
    simp only [strs, List.getElem?_map, Option.map_eq_some_iff] at hj
    obtain ⟨y, hy, rfl⟩ := hj
    rw [List.getElem?_take] at hy
    split at hy
    · rw [List.getElem?_drop] at hy
      obtain ⟨b', off, e, hc⟩ := h2.lies.cell hy
      cases e
      rw [Addr.add_lit]; rw [Nat.zero_add] at hc; exact hc
    · cases hy
  rcases h2 with ⟨rfl, rfl⟩ | ⟨b, cap, rfl, x1, x2, _⟩
  · obtain ⟨rfl, rfl⟩ : i = 0 ∧ n = 0 := by simp at hin; omega
    clear h h1 hd2 hd3 hw hw2 HC hlen
    go_enter Try.func23, Try.ntmps23
    go_wp2_with (at_builtin; refine wpList_append_src rfl (.tmp 35) (.tmp 44) 22 rfl w.heap.size 9 i9 _ 1 16 Try.underlying22 hi9 z0 z1 z2 rfl (by decide) (.slice none 0 0) 0 [] rfl ON.out none 0 0 (strs ((([] : List ByteArray).drop 0).take 0)) rfl rfl (fun _ => ⟨rfl, rfl⟩) (fun ad e => by cases e) (by intro u hu; cases hu) (by unfold maxLen; omega) (by omega) (Nat.le_refl _) ?_; intro v1 w1 ho1 hg1; obtain ⟨a1, c1, e1, HQ⟩ := HF.out v1 w1 ho1 hg1; subst e1; clear ho1 hg1)
    go_ret2
    exact ⟨_, _, rfl, HQ⟩
  · have HC2 : Hid (∀ j u, (strs ((ls.drop i).take n))[j]? = some u → w.cell? ((⟨b, i, none⟩ : Addr).add j) = some u) := HC.out b cap rfl
    have HL : Hid (ls.length = ls.length) := rfl
    unfold maxLen at x2
    by_cases hc : cap = i
    · have hn0 : n = 0 := by omega
      subst hn0
      have HC3 : Hid (∀ j u, (strs ((ls.drop i).take 0))[j]? = some u → w.cell? ((⟨b, 0, none⟩ : Addr).add j) = some u) := by intro j u hj; simp [strs] at hj
      clear h h1 HC hlen HC2
      generalize ls.length = L at *
      subst hc
      go_enter Try.func23, Try.ntmps23
      go_wp2_with fail
      go_ret2
      exact ⟨none, 0, rfl, lies_nil, Below.refl _ _⟩
    · clear h h1 HC hlen
      generalize ls.length = L at *
      have HSub : Hid (i + n - i = n) := by show i + n - i = n; omega
      have HN' : Hid ((strs ((ls.drop i).take n)).length = (i + n - i) * 1) := by show (strs ((ls.drop i).take n)).length = (i + n - i) * 1; rw [HSub.out]; exact HN.out
      have HF' : Hid (∀ v1 w1, w1.ownsRow w.heap.size 9 1 v1 (0 + (i + n - i)) ([] ++ strs ((ls.drop i).take n)) → w.grownBy w1 (Value.slice none 0 0).ownBlock → ∃ a c, v1 = .slice a n c ∧ Lies nobody w1 v1 ((ls.drop i).take n) ∧ Below w.heap.size w w1) := by
        intro v1 w1 q1 q2
        rw [HSub.out] at q1; exact HF.out v1 w1 q1 q2
      go_enter Try.func23, Try.ntmps23
      go_wp2_with (at_builtin; refine wpList_append_src rfl (.tmp 35) (.tmp 44) 22 rfl w.heap.size 9 i9 _ 1 16 Try.underlying22 hi9 z0 z1 z2 rfl (by decide) (.slice none 0 0) 0 [] rfl ON.out (some ⟨b, i, none⟩) (i + n - i) (cap - i) (strs ((ls.drop i).take n)) rfl HN'.out (fun e => by cases e) (fun ad e => by cases e; exact HC2.out) HO.out (by unfold maxLen; omega) (by omega) (Nat.le_refl _) ?_; intro v1 w1 ho1 hg1; obtain ⟨a1, c1, e1, HQ⟩ := HF'.out v1 w1 ho1 hg1; subst e1; clear ho1 hg1)
      go_ret2
      exact ⟨_, _, rfl, HQ⟩
end
end Go.Proofs.Ytfnhbjokokjhfab
