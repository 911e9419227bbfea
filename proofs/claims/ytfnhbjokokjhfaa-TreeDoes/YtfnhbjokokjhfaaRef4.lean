/- The document's answer: Splice of any numbers, Insert, Delete, Set, New; a tree beside it. -/
import Derived.Test.YtfnhbjokokjhfaaRef3
import Derived.Test.YtfnhbjokokjhfaaOps
namespace Go.Proofs.Ytfnhbjokokjhfaa
open Go.ChangeShapes Go.WideShapes Go.ChangeAt Go.RowKit
section
variable {o : Own} {w : World} {r : Nat} {ls ms : List ByteArray}
/-- What is done where it may be. -/
def spliced (ls ms : List ByteArray) (i n : Int) : List ByteArray := if 0 ≤ i ∧ 0 ≤ n ∧ n ≤ (ls.length : Int) - i then mix ls ms i.toNat ms.length (i.toNat + n.toNat) else ls
def may (ls : List ByteArray) (i n : Int) : Bool := decide (0 ≤ i ∧ 0 ≤ n ∧ n ≤ (ls.length : Int) - i)
theorem Keeps.ref (r : Nat) (w : World) (q : Nat) : Keeps (refOwn r) (refOwn r) w (w.drewN q) := Keeps.drewN _ w q
theorem rsplice_any (h : Rf o w r ls) (hlt : ∀ k, o k ≠ .free → k < w.heap.size) (hl : ls.length + ms.length < 2 ^ 38) {v : Value} (hv : Lies nobody w v ms) (hnn : ∀ n c, v = .slice none n c → n = 0 ∧ c = 0) (i n : Int) (hi : -9223372036854775808 ≤ i ∧ i ≤ 9223372036854775807) :
    Calls Try.prog 43 #[.pointer (some ⟨r, 0, none⟩), .int .i64 i, .int .i64 n, v] w fun e w' => e = .returned (.bool (may ls i n)) ∧ Rf o w' r (spliced ls ms i n) ∧ Keeps (refOwn r) (refOwn r) w w' := by
  by_cases hok : 0 ≤ i ∧ 0 ≤ n ∧ n ≤ (ls.length : Int) - i
  · have h1 := rsplice_ok h hlt hl hv hnn (i := i.toNat) (n := n.toNat) (by omega)
    rw [Int.toNat_of_nonneg hok.1, Int.toNat_of_nonneg hok.2.1] at h1
    rw [show may ls i n = true by simp [may, hok], show spliced ls ms i n = mix ls ms i.toNat ms.length (i.toNat + n.toNat) by simp [spliced, hok]]
    exact h1
  · have HP := rpart_no h (by omega) i n hi hok
    rw [show may ls i n = false by simpa [may] using hok, show spliced ls ms i n = ls by rw [spliced, if_neg hok]]
    have HF : Hid (∀ q, Rf o (w.drewN q) r ls ∧ Keeps (refOwn r) (refOwn r) w (w.drewN q)) := fun q => ⟨h.under (below_drewN _ _), Keeps.ref r w q⟩
    clear h hv hnn hok
    go_enter Try.func43, Try.ntmps43
    go_wp2_with (go_at_call 45; refine Calls.mono HP ?_; rintro e w1 ⟨rfl, q, rfl⟩)
    go_ret
    exact ⟨rfl, HF.out _⟩
theorem one_lies (w : World) (y : ByteArray) : Lies nobody (w.alloc (.cells #[.string y] 9)) (.slice (some ⟨w.heap.size, 0, none⟩) 1 1) [y] := by
  refine ⟨some ⟨w.heap.size, 0, none⟩, 1, rfl, by simp, by simp [maxLen], .inr ⟨w.heap.size, 0, rfl, by simp, rfl, fun j z hj => ?_⟩⟩
  rw [cell_at (alloc_new w _), Nat.zero_add]
  match j, hj with
  | 0, hj => cases hj; rfl
  | j + 1, hj => simp at hj
theorem Keeps.refAlloc (r : Nat) (w : World) (ob : Obj) : Keeps (refOwn r) (refOwn r) w (w.alloc ob) := (Keeps.refl _ w).alloc ob
theorem rinsert_any (h : Rf o w r ls) (hlt : ∀ k, o k ≠ .free → k < w.heap.size) (hl : ls.length + 1 < 2 ^ 38) (y : ByteArray) (i : Int) (hi : -9223372036854775808 ≤ i ∧ i ≤ 9223372036854775807) :
    Calls Try.prog 46 #[.pointer (some ⟨r, 0, none⟩), .int .i64 i, .string y] w fun e w' => e = .returned (.bool (may ls i 0)) ∧ Rf o w' r (spliced ls [y] i 0) ∧ Keeps (refOwn r) (refOwn r) w w' := by
  have HC : Hid (Calls Try.prog 43 #[.pointer (some ⟨r, 0, none⟩), .int .i64 i, .int .i64 0, .slice (some ⟨w.heap.size, 0, none⟩) 1 1] (w.alloc (.cells #[.string y] 9)) fun e w' => e = .returned (.bool (may ls i 0)) ∧ Rf o w' r (spliced ls [y] i 0) ∧ Keeps (refOwn r) (refOwn r) w w') := by
    refine Calls.mono (rsplice_any (h.under ((Below.refl _ w).alloc (Nat.le_refl _) _)) (fun k hk => by have := hlt k hk; simp; omega) (by simpa using hl) (one_lies w y) (by intro n c e; cases e) i 0 hi) ?_
    rintro e w' ⟨rfl, q1, q2⟩
    exact ⟨rfl, q1, (Keeps.refAlloc r w _).trans q2⟩
  obtain ⟨R, hR⟩ : ∃ R, may ls i 0 = R := ⟨_, rfl⟩
  rw [hR] at HC ⊢
  clear h hlt hR
  go_enter Try.func46, Try.ntmps46
  go_wp2_with (go_at_call 43; refine Calls.mono HC.out ?_; rintro e w1 ⟨rfl, HQ⟩)
  go_ret
  exact ⟨rfl, HQ⟩
theorem rset_any (h : Rf o w r ls) (hlt : ∀ k, o k ≠ .free → k < w.heap.size) (hl : ls.length + 1 < 2 ^ 38) (y : ByteArray) (i : Int) (hi : -9223372036854775808 ≤ i ∧ i ≤ 9223372036854775807) :
    Calls Try.prog 42 #[.pointer (some ⟨r, 0, none⟩), .int .i64 i, .string y] w fun e w' => e = .returned (.bool (may ls i 1)) ∧ Rf o w' r (spliced ls [y] i 1) ∧ Keeps (refOwn r) (refOwn r) w w' := by
  have HC : Hid (Calls Try.prog 43 #[.pointer (some ⟨r, 0, none⟩), .int .i64 i, .int .i64 1, .slice (some ⟨w.heap.size, 0, none⟩) 1 1] (w.alloc (.cells #[.string y] 9)) fun e w' => e = .returned (.bool (may ls i 1)) ∧ Rf o w' r (spliced ls [y] i 1) ∧ Keeps (refOwn r) (refOwn r) w w') := by
    refine Calls.mono (rsplice_any (h.under ((Below.refl _ w).alloc (Nat.le_refl _) _)) (fun k hk => by have := hlt k hk; simp; omega) (by simpa using hl) (one_lies w y) (by intro n c e; cases e) i 1 hi) ?_
    rintro e w' ⟨rfl, q1, q2⟩
    exact ⟨rfl, q1, (Keeps.refAlloc r w _).trans q2⟩
  obtain ⟨R, hR⟩ : ∃ R, may ls i 1 = R := ⟨_, rfl⟩
  rw [hR] at HC ⊢
  clear h hlt hR
  go_enter Try.func42, Try.ntmps42
  go_wp2_with (go_at_call 43; refine Calls.mono HC.out ?_; rintro e w1 ⟨rfl, HQ⟩)
  go_ret
  exact ⟨rfl, HQ⟩
theorem rdelete_any (h : Rf o w r ls) (hlt : ∀ k, o k ≠ .free → k < w.heap.size) (hl : ls.length < 2 ^ 38) (i : Int) (hi : -9223372036854775808 ≤ i ∧ i ≤ 9223372036854775807) :
    Calls Try.prog 41 #[.pointer (some ⟨r, 0, none⟩), .int .i64 i] w fun e w' => e = .returned (.bool (may ls i 1)) ∧ Rf o w' r (spliced ls [] i 1) ∧ Keeps (refOwn r) (refOwn r) w w' := by
  have HC : Hid (Calls Try.prog 43 #[.pointer (some ⟨r, 0, none⟩), .int .i64 i, .int .i64 1, .slice none 0 0] w fun e w' => e = .returned (.bool (may ls i 1)) ∧ Rf o w' r (spliced ls [] i 1) ∧ Keeps (refOwn r) (refOwn r) w w') :=
    rsplice_any h hlt (by simpa using hl) lies_nil (by intro n c e; cases e; exact ⟨rfl, rfl⟩) i 1 hi
  obtain ⟨R, hR⟩ : ∃ R, may ls i 1 = R := ⟨_, rfl⟩
  rw [hR] at HC ⊢
  clear h hlt hR
  go_enter Try.func41, Try.ntmps41
  go_wp2_with (go_at_call 43; refine Calls.mono HC.out ?_; rintro e w1 ⟨rfl, HQ⟩)
  go_ret
  exact ⟨rfl, HQ⟩
theorem rnew_any {w : World} {v : Value} (hv : Lies nobody w v ms) (hnn : ∀ n c, v = .slice none n c → n = 0 ∧ c = 0) (hl : ms.length < 1000000) :
    Calls Try.prog 23 #[v] w fun e w' => e = .returned (.pointer (some ⟨w.heap.size, 0, none⟩)) ∧ Below w.heap.size w w' ∧ ∀ o, (∀ k, o k ≠ .free → k < w.heap.size) → Rf o w' w.heap.size ms := by
  obtain ⟨a, cap, hvf, c1, c2⟩ := hv.form
  subst hvf
  obtain ⟨i9, hi9, z0, z1, z2⟩ := info_parts info9
  have HN : Hid ((strs ms).length = ms.length * 1) := by show (strs ms).length = ms.length * 1; simp [strs]
  have HO : Hid (∀ u ∈ strs ms, u.oneCell' = true) := strs_one _
  have HNN : Hid (a = none → ms.length = 0 ∧ cap = 0) := fun e => hnn _ cap (by rw [e])
  have CV : Hid (∀ ad, a = some ad → ∀ j u, (strs ms)[j]? = some u → (w.alloc (.cells #[.slice none 0 0] 52)).cell? (ad.add j) = some u) := by
    intro ad e j u hj
    have hj' := hj
    simp only [strs, List.getElem?_map, Option.map_eq_some_iff] at hj
    obtain ⟨y, hy, rfl⟩ := hj
    have hvx := hv.below ((Below.refl _ w).alloc (Nat.le_refl _) (.cells #[.slice none 0 0] 52)) (Nat.le_refl _)
    obtain ⟨b, off, e1, _⟩ := hvx.cell hy
    rw [e] at e1; cases e1
    subst e
    exact lies_news hvx j _ hj'
  have ON : Hid ((w.alloc (.cells #[.slice none 0 0] 52)).ownsRow (w.heap.size + 1) 9 1 (.slice none 0 0) 0 []) := World.ownsRow_nil _ _ _ _
  have HF : Hid (∀ v1 w1, w1.ownsRow (w.heap.size + 1) 9 1 v1 (0 + ms.length) ([] ++ strs ms) → (w.alloc (.cells #[.slice none 0 0] 52)).grownBy w1 (Value.slice none 0 0).ownBlock → (∃ a1 c1, v1 = .slice a1 ms.length c1) ∧ (w1.cell? ⟨w.heap.size, 0, none⟩ = some (.slice none 0 0) ∧ w1.frozen? ⟨w.heap.size, 0, none⟩ = false) ∧
      Hid (Below w.heap.size w (w1.setCell ⟨w.heap.size, 0, none⟩ v1) ∧ ∀ o, (∀ k, o k ≠ .free → k < w.heap.size) → Rf o (w1.setCell ⟨w.heap.size, 0, none⟩ v1) w.heap.size ms)) := by
    intro v1 w1 ho hg
    rw [Nat.zero_add, List.nil_append] at ho
    have hsz : (w.alloc (.cells #[.slice none 0 0] 52)).heap.size = w.heap.size + 1 := by simp
    have hh : w1.heap[w.heap.size]? = some (.cells #[.slice none 0 0] 52 (0, 0)) := by
      rw [hg.block w.heap.size (by rw [hsz]; omega) (by simp [Value.ownBlock])]; exact alloc_new w _
    have hgs := hg.size
    rw [hsz] at hgs
    refine ⟨owns_form ho, ⟨by simp [World.cell?, hh], by simp [World.frozen?, hh]⟩, ⟨hg.os, hg.tape, hg.output, by rw [size_setCell]; omega, fun k hk => ?_⟩, fun o hlt => ⟨?_, v1, by rw [heap_setCell hh]; rfl, ?_⟩⟩
    · rw [heap_setCell_other (by omega), hg.block k (by rw [hsz]; omega) (by simp [Value.ownBlock])]; exact alloc_old' w _ k hk
    · by_cases h : o w.heap.size = .free
      · exact h
      · exact absurd (hlt _ h) (by omega)
    · rcases ho.2 with ⟨e1, e2⟩ | ⟨b, cap', cur, e1, hge, hg', r1, r2, r3, r4⟩
      · left; exact ⟨e1, List.eq_nil_of_length_eq_zero e2⟩
      · right
        refine ⟨b, cap', e1, r1, r2, by rw [size_setCell]; exact (Array.getElem?_eq_some_iff.1 hg').1, ?_, by omega, fun j y hj => ?_⟩
        · by_cases h : o b = .free
          · exact h
          · exact absurd (hlt b h) (by omega)
        · have hg2 : (w1.setCell ⟨w.heap.size, 0, none⟩ v1).heap[b]? = some (.cells cur 9 (0, 0)) := by rw [heap_setCell_other (by omega)]; exact hg'
          exact (row_cell hg2 r4 (cap := cap') (by simp [strs, hj])).1
  obtain ⟨L, hL⟩ : ∃ L, ms.length = L := ⟨_, rfl⟩
  unfold maxLen at c2
  rw [hL] at HF HNN HN hl c1 ⊢
  clear hv hnn hL
  go_enter Try.func23, Try.ntmps23
  go_wp2_with (at_builtin; refine wpList_append_src rfl (.tmp 10) (.tmp 11) 22 rfl (w.heap.size + 1) 9 i9 _ 1 16 Try.underlying22 hi9 z0 z1 z2 rfl (by decide) (.slice none 0 0) 0 [] rfl ON.out a L cap (strs ms) rfl HN.out HNN.out CV.out HO.out (by unfold maxLen; omega) (by omega) (by simp) ?_; intro v1 w1 ho hg; obtain ⟨⟨a1, c1', he⟩, ⟨q0, q1⟩, HQ⟩ := HF.out v1 w1 ho hg; subst he; clear ho hg)
  go_ret
  exact ⟨rfl, HQ.out⟩
end
end Go.Proofs.Ytfnhbjokokjhfaa
