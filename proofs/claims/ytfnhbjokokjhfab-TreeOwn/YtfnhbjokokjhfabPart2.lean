/- The tree's calls Part and Lines. -/
import Derived.Test.YtfnhbjokokjhfabPieces
namespace Go.Proofs.Ytfnhbjokokjhfab
open Go.ChangeShapes Go.WideShapes Go.ChangeAt Go.RowKit
section
variable {o : Own} {w : World} {t m : Nat} {ls : List ByteArray}
/-- A new slice of the lines 'ms', in memory that nobody had. -/
def Told (w : World) (v : Value) (ms : List ByteArray) (w' : World) : Prop := Below w.heap.size w w' ∧ ∃ gb, v = .slice (some ⟨gb, 0, none⟩) ms.length ms.length ∧ w'.ownsRow w.heap.size 9 1 v ms.length (strs ms)
theorem part_no (h : Tr o w t ls m) (hl : ls.length < 2 ^ 38) (i n : Int) (hi : -9223372036854775808 ≤ i ∧ i ≤ 9223372036854775807) (hno : ¬ (0 ≤ i ∧ 0 ≤ n ∧ n ≤ (ls.length : Int) - i)) :
    Calls Try.prog 16 #[.pointer (some ⟨t, 0, none⟩), .int .i64 i, .int .i64 n] w fun e w' => e = .returned (.tuple #[.slice none 0 0, .bool false]) ∧ Below w.heap.size w w' := by
  have HH := (h.alloc (.cells #[.int .i64 n] 3)).has hl i n hi
  rw [show decide (0 ≤ i ∧ 0 ≤ n ∧ n ≤ (ls.length : Int) - i) = false by simpa using hno] at HH
  have HF : Hid (∀ q, Below w.heap.size w ((w.alloc (.cells #[.int .i64 n] 3)).drewN q)) := fun q => by
    have k := Keeps.drewN nobody (w.alloc (.cells #[.int .i64 n] 3)) q
    exact ((Below.refl _ w).alloc (Nat.le_refl _) _).trans ⟨k.os, k.tape, k.output, k.size, fun j _ => by rw [drewN_heap]⟩
  clear h hno
  go_enter Try.func16, Try.ntmps16
  go_wp2_with (go_at_call 28; refine HH.mono ?_; rintro e w1 ⟨rfl, q, rfl⟩)
  go_ret2
  exact ⟨rfl, HF.out _⟩
set_option maxHeartbeats 1000000 in
theorem part_ok (h : Tr o w t ls m) (hl : ls.length < 2 ^ 38) {i n : Nat} (hin : i + n ≤ ls.length) :
    Calls Try.prog 16 #[.pointer (some ⟨t, 0, none⟩), .int .i64 i, .int .i64 n] w fun e w' => ∃ v, e = .returned (.tuple #[v, .bool true]) ∧ Told w v ((ls.drop i).take n) w' := by
  have HH := (h.alloc (.cells #[.int .i64 n] 3)).has hl i n (by omega)
  rw [show decide (0 ≤ (i : Int) ∧ (0 : Int) ≤ n ∧ n ≤ (ls.length : Int) - i) = true by simp; omega] at HH
  obtain ⟨s, vn, vg, d, h1, ⟨js, hs, hf, hw8, hw2⟩, _⟩ := h
  have hlen : ((ls.drop i).take n).length = n := by simp; omega
  obtain ⟨i9, hi9, z0, z1, z2⟩ := info_parts info9
  have HG : Hid (∀ (q : Nat) (w1 : World), w1.ownsRow w.heap.size 9 1 (.slice (some ⟨w.heap.size + 1, 0, none⟩) 0 n) 0 [] → ((w.alloc (.cells #[.int .i64 n] 3)).drewN q).grownBy w1 none →
      Got w (w1.alloc (.cells #[.slice (some ⟨w.heap.size + 1, 0, none⟩) 0 n] 22)) w1.heap.size w.heap.size (w.heap.size + 1) n [] ∧ (w1.alloc (.cells #[.slice (some ⟨w.heap.size + 1, 0, none⟩) 0 n] 22)).cell? ⟨t, 2, none⟩ = some (.int .i64 s.top)) := by
    intro q w1 ho hg
    have hsz : w.heap.size + 1 ≤ w1.heap.size := by have := hg.size; rw [drewN_heap] at this; simpa using this
    have hlt := (ho.lt (w.heap.size + 1) rfl).2
    have hold : ∀ k, k < w.heap.size + 1 → w1.heap[k]? = (w.alloc (.cells #[.int .i64 n] 3)).heap[k]? := fun k hk => by
      rw [hg.block k (by rw [drewN_heap]; simpa using hk) (by simp), drewN_heap]
    have k := Keeps.drewN nobody (w.alloc (.cells #[.int .i64 n] 3)) q
    have hb : Below w.heap.size w w1 := ⟨hg.os.trans k.os, hg.tape.trans k.tape, hg.output.trans k.output, by omega, fun j hj => by rw [hold j (by omega)]; exact alloc_old' w _ j hj⟩
    have hb2 := hb.alloc hb.size (.cells #[.slice (some ⟨w.heap.size + 1, 0, none⟩) 0 n] 22)
    refine ⟨⟨hb2, hb.size, Nat.le_refl _, by omega, by omega, by omega, by omega, alloc_new w1 _, ?_, ho.alloc _, Nat.zero_le _⟩, (h1.below hb2).at2⟩
    rw [alloc_old' w1 _ w.heap.size (by omega), hold w.heap.size (by omega)]; exact alloc_new w _
  have HP : Hid (∀ (W : World) pb nb gb, Got w W pb nb gb n [] → Calls Try.prog 31 #[.pointer (some ⟨t, 0, none⟩), .int .i64 s.top, .int .i64 i, .func (.func 32) #[] #[.pointer (some ⟨pb, 0, none⟩), .pointer (some ⟨nb, 0, none⟩)]] W fun e w' => e = .returned (.bool false) ∧ w'.cell? ⟨pb, 0, none⟩ = some (.slice (some ⟨gb, 0, none⟩) n n) ∧ Told w (.slice (some ⟨gb, 0, none⟩) n n) ((ls.drop i).take n) w') := by
    intro W pb nb gb hG
    have hc := pieces_any h1 (by omega) d W [] s.top i ls js hG hs (by omega) hl
    unfold PiecesAt at hc
    simp only [List.nil_append] at hc
    rw [show decide (((ls.drop i).take n).length < n) = false by rw [hlen]; simp] at hc
    refine Calls.mono hc ?_
    rintro e w' ⟨rfl, g⟩
    have hp := g.p
    have hr := g.row
    rw [hlen] at hp hr
    exact ⟨rfl, by simp [World.cell?, hp], g.below, gb, by rw [hlen], by rw [hlen]; exact hr⟩
  have hnl : n ≤ maxLen := by unfold maxLen; omega
  have hb2 : i9.bytes * n ≤ 281474976710656 := by rw [z2]; omega
  have a2 := h1.at2
  have HZ : Hid (∀ q, ((w.alloc (.cells #[.int .i64 n] 3)).drewN q).heap.size = w.heap.size + 1) := fun q => by rw [drewN_heap]; simp
  clear h1 hs hf hw8 hw2 hlen
  go_enter Try.func16, Try.ntmps16
  go_wp2_with (first | (go_at_call 28; refine HH.mono ?_; rintro e w1 ⟨rfl, q, rfl⟩) | (refine wpList_make_own _ rfl (.const (.int .i64 0)) (.tmp 14) 22 rfl w.heap.size 9 i9 _ 1 Try.underlying22 hi9 z0 z1 .i64 .i64 n n rfl rfl rfl hb2 hnl (by rw [HZ.out]; omega) ?_; intro w2 hown hgrow; rw [HZ.out] at hown ⊢; obtain ⟨HG2, ht2⟩ := HG.out _ _ hown hgrow; clear hown hgrow))
  refine (HP.out _ _ _ _ HG2).mono ?_
  rintro e w3 ⟨rfl, hc3, HT⟩
  go_wp2_with fail
  go_ret2
  exact ⟨_, rfl, HT⟩
theorem Told.drewN {v : Value} {ms : List ByteArray} {w' : World} {q : Nat} (h : Told (w.drewN q) v ms w') : Told w v ms w' := by
  have k := Keeps.drewN nobody w q
  obtain ⟨hb, gb, e, ho⟩ := h
  rw [drewN_heap] at hb ho
  exact ⟨(show Below w.heap.size w (w.drewN q) from ⟨k.os, k.tape, k.output, k.size, fun j _ => by rw [drewN_heap]⟩).trans hb, gb, e, ho⟩
theorem lines_any (h : Tr o w t ls m) (hl : ls.length < 2 ^ 38) : Calls Try.prog 7 #[.pointer (some ⟨t, 0, none⟩)] w fun e w' => ∃ v, e = .returned v ∧ Told w v ls w' := by
  have HL := h.len
  have HP : Hid (∀ q, Calls Try.prog 16 #[.pointer (some ⟨t, 0, none⟩), .int .i64 0, .int .i64 ls.length] (w.drewN q) fun e w' => ∃ gb, e = .returned (.tuple #[.slice (some ⟨gb, 0, none⟩) ls.length ls.length, .bool true]) ∧ Told w (.slice (some ⟨gb, 0, none⟩) ls.length ls.length) ls w') := fun q => by
    refine Calls.mono (part_ok (h.drewN q) hl (i := 0) (n := ls.length) (by omega)) ?_
    rintro e w' ⟨v, rfl, hT⟩
    simp only [List.drop_zero, List.take_length] at hT
    obtain ⟨gb, e, _⟩ := hT.2
    subst e
    exact ⟨gb, rfl, hT.drewN⟩
  clear h
  go_enter Try.func7, Try.ntmps7
  go_wp2_with (first | (go_at_call 13; refine HL.mono ?_; rintro e w1 ⟨rfl, q, rfl⟩) | (go_at_call 16; refine (HP.out _).mono ?_; rintro e w2 ⟨gb, rfl, HT⟩))
  go_ret
  exact ⟨_, rfl, HT⟩
end
end Go.Proofs.Ytfnhbjokokjhfab
