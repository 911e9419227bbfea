/- slices.Insert of one element, slices.Delete and slices.Clone, at strings and at ints, of a slice that lies in a block of its owner's: what they return, and that nothing of others' has turned. -/
import Derived.Test.YtfnhbjokokjhfabRowk
import Derived.Test.YtfnhbjokokjhfabShelf
import Derived.Lib.RowBridge
namespace Go.Proofs.Ytfnhbjokokjhfab
open Go.ChangeShapes Go.WideShapes Go.ChangeAt Go.RowKit
set_option linter.unusedSimpArgs false
open Go.Proofs (Try.lays15 Try.lays16 Try.lays21 Try.lays22 Try.lays23 Try.lays24)

theorem splice_two {L D C : List Value} {i n : Nat} {x : Value} (hC : L.take n = C) (hD : D = C.drop i) (hi : i < n) (hn : n + 1 ≤ L.length) :
    (splice (splice L (i + 1) D) i [x]).take (n + 1) = C.take i ++ x :: C.drop i ∧ (splice (splice L (i + 1) D) i [x]).length = L.length := by
  subst hC; subst hD
  have hd : ((L.take n).drop i).length = n - i := by simp; omega
  have h1 : splice L (i + 1) ((L.take n).drop i) = L.take (i + 1) ++ ((L.take n).drop i ++ L.drop (n + 1)) := by
    unfold splice; rw [hd, show i + 1 + (n - i) = n + 1 by omega]
  have hl : (splice L (i + 1) ((L.take n).drop i)).length = L.length := length_splice _ _ _ (by rw [hd]; omega)
  refine ⟨?_, by rw [length_splice _ _ _ (by rw [hl]; simp; omega), hl]⟩
  have e1 : (splice L (i + 1) ((L.take n).drop i)).take i = L.take i := by
    rw [h1, List.take_append_of_le_length (by simp; omega), List.take_take, Nat.min_eq_left (by omega)]
  have e2 : (splice L (i + 1) ((L.take n).drop i)).drop (i + 1) = (L.take n).drop i ++ L.drop (n + 1) := by
    rw [h1, List.drop_append_of_le_length (by simp; omega), List.drop_eq_nil_of_le (by rw [List.length_take]; omega), List.nil_append]
  rw [splice, e1]
  simp only [List.length_cons, List.length_nil, Nat.zero_add, List.singleton_append]
  have h5 : (L.take i ++ x :: (L.take n).drop i).length = n + 1 := by rw [List.length_append, List.length_cons, hd, List.length_take]; omega
  rw [e2, show L.take i ++ x :: ((L.take n).drop i ++ L.drop (n + 1)) = (L.take i ++ x :: (L.take n).drop i) ++ L.drop (n + 1) by simp, List.take_append_of_le_length (by omega), List.take_of_length_le (by omega), List.take_take, Nat.min_eq_left (by omega)]
theorem splice_end {L C : List Value} {n : Nat} {x : Value} (hC : L.take n = C) (hn : n + 1 ≤ L.length) : (splice L n [x]).take (n + 1) = C ++ [x] ∧ (splice L n [x]).length = L.length := by
  subst hC
  refine ⟨?_, length_splice _ _ _ (by simpa using hn)⟩
  have h0 : (L.take n).length = n := by simp; omega
  rw [splice, ← List.append_assoc, List.take_append_of_le_length (by simp; omega), List.take_of_length_le (by rw [List.length_append, h0]; simp)]
theorem splice_front {L N : List Value} {k : Nat} (h : k ≤ N.length) : (splice L 0 N).take k = N.take k := by
  simp [splice, List.take_append_of_le_length h]

/-- A row in its own block, behind writes to that block. -/
theorem Row.put {o : Own} {w' : World} {g : Tag} {e : TypeId} {b n' cap : Nat} {L xs' : List Value} (hb : o b = g) (hg : w'.heap[b]? = some (.cells L.toArray e (0, 0))) (hn : n' ≤ cap) (hm : cap ≤ maxLen)
    (hs : L.length = cap) (ht : L.take n' = xs') : Row o w' g e 1 (.slice (some ⟨b, 0, none⟩) n' cap) n' xs' := by
  refine ⟨⟨by rw [← ht, List.length_take]; omega, .inr ⟨b, cap, _, rfl, Nat.zero_le _, hg, hn, hm, by simp [hs], by simpa using ht⟩⟩, fun k hk => ?_⟩
  simp [Value.ownBlock] at hk; rw [← hk]; exact hb

theorem strs_one (l : List ByteArray) : ∀ v ∈ strs l, v.oneCell' = true := by
  intro v hv; obtain ⟨x, _, rfl⟩ := List.mem_map.1 hv; rfl
theorem nums_one (l : List Nat) : ∀ v ∈ nums l, v.oneCell' = true := by
  intro v hv; obtain ⟨x, _, rfl⟩ := List.mem_map.1 hv; rfl
theorem take_getElem? {L C : List Value} {n j : Nat} {v : Value} (hC : L.take n = C) (h : C[j]? = some v) : L[j]? = some v := by
  subst hC; rw [List.getElem?_take] at h; split at h
  · exact h
  · cases h
theorem cell_at {w : World} {b : Nat} {e : TypeId} {cur : Array Value} (hg : w.heap[b]? = some (.cells cur e (0, 0))) (j : Nat) : w.cell? ⟨b, j, none⟩ = cur[j]? := by simp [World.cell?, hg]
theorem frozen_at {w : World} {b : Nat} {e : TypeId} {cur : Array Value} (hg : w.heap[b]? = some (.cells cur e (0, 0))) (j : Nat) : w.frozen? ⟨b, j, none⟩ = false := by simp [World.frozen?, hg]
theorem alloc_new (w : World) (o : Obj) : (w.alloc o).heap[w.heap.size]? = some o := by show (w.heap.push o)[w.heap.size]? = _; simp
theorem alloc_old' (w : World) (o : Obj) (k : Nat) (h : k < w.heap.size) : (w.alloc o).heap[k]? = w.heap[k]? := by show (w.heap.push o)[k]? = _; rw [Array.getElem?_push_lt h, Array.getElem?_eq_getElem h]
theorem moved_self (o : Own) (g : Tag) (k : Nat) : moved o g k k = g := by simp [moved]
theorem zero_len (z : Value) (n : Nat) (hz : z.cells.size = 1) : (Builtin.zeroCells z.cells n).size = n := by rw [size_zeroCells, hz, Nat.mul_one]
theorem drewN_rest (w : World) (n : Nat) : (w.drewN n).os = w.os ∧ (w.drewN n).tape = w.tape ∧ (w.drewN n).output = w.output := by
  have k := Keeps.drewN (fun _ => Tag.free) w n; exact ⟨k.os, k.tape, k.output⟩

def zsS (l : List ByteArray) : List (List UInt8) := l.map fun b => b.data.toList
def zsI (l : List Nat) : List Int := l.map fun (n : Nat) => (n : Int)

theorem insS_any {o : Own} {w : World} {g : Tag} {v x : Value} {n i vb : Nat} {C : List Value} (hr : Row o w g 9 1 v n C) (h1 : ∀ u ∈ C, u.oneCell' = true) (hlt : ∀ k, o k ≠ .free → k < w.heap.size) (hg : g ≠ .free)
    (hi : i ≤ n) (hn : n < 1000000000) (hvb : w.heap[vb]? = some (.cells #[x] 9 (0, 0))) (hx : x.oneCell' = true) (hne : o vb = .free) :
    Calls Try.prog 38 #[v, .int .i64 i, .slice (some ⟨vb, 0, none⟩) 1 1] w fun e w' => ∃ v' o', e = .returned v' ∧ Row o' w' g 9 1 v' (n + 1) (C.take i ++ x :: C.drop i) ∧ KB g o o' w w' := by
  have hvs : ∀ (j : Nat) u, [x][j]? = some u → w.cell? ⟨vb, 0 + j, none⟩ = some u := by
    intro j u hj
    rw [Nat.zero_add, cell_at hvb]
    match j, hj with
    | 0, hj => simpa using hj
  have h1v : ∀ u ∈ [x], u.oneCell' = true := by intro u hu; simp at hu; rw [hu]; exact hx
  have hl : C.length = n := by simpa using hr.1.1
  rcases hr.1.2 with ⟨rfl, rfl⟩ | ⟨b, cap, cur, rfl, _, hb, hnc, hcm, hcs, htk⟩
  · obtain rfl : C = [] := List.eq_nil_of_length_eq_zero hl
    obtain rfl : i = 0 := by omega
    have H : Calls Try.prog 38 #[.slice none 0 0, .int .i64 ((0 : Nat) : Int), .slice (some ⟨vb, 0, none⟩) 1 1] w fun e w' => e = .returned (.slice (some ⟨w.heap.size, 0, none⟩) (0 + 1) (grownCap w (0 + 1) 0 9)) ∧
        w' = w.drew.alloc (.cells (([] ++ [x]).toArray ++ Builtin.zeroCells (Value.string ⟨#[]⟩).cells (grownCap w (0 + 1) 0 9 - (0 + 1))) 9) := Any2.slices_Insert_string_end_grow Try.lays22 none 0 0 vb 0 1 1 [] [x] w (by omega) (by omega) (by omega) (by omega) rfl rfl (fun _ => rfl) (fun a ha => by cases ha) hvs h1v
    refine H.mono ?_
    rintro e w' ⟨rfl, rfl⟩
    have hge := grownCap_ge w (0 + 1) 0 9
    have hmx := grownCap_le_maxLen w (0 + 1) 0 9 (by simp [maxLen])
    refine ⟨_, moved o g w.heap.size, rfl, ?_, KB.alloc rfl rfl rfl (by simp) (fun k hk => alloc_old' w.drew _ k hk) hlt⟩
    refine Row.put (L := [x] ++ (Builtin.zeroCells (Value.string ⟨#[]⟩).cells (grownCap w (0 + 1) 0 9 - (0 + 1))).toList) (moved_self _ _ _) ?_ hge hmx ?_ ?_
    · rw [show ([x] ++ (Builtin.zeroCells (Value.string ⟨#[]⟩).cells (grownCap w (0 + 1) 0 9 - (0 + 1))).toList).toArray = ([] ++ [x]).toArray ++ Builtin.zeroCells (Value.string ⟨#[]⟩).cells (grownCap w (0 + 1) 0 9 - (0 + 1)) by simp]
      exact alloc_new w.drew _
    · have hz := zero_len (Value.string ⟨#[]⟩) (grownCap w (0 + 1) 0 9 - (0 + 1)) rfl
      rw [List.length_append, List.length_singleton, Array.length_toList (xs := Builtin.zeroCells (Value.string ⟨#[]⟩).cells (grownCap w (0 + 1) 0 9 - (0 + 1))), hz]; omega
    · simp
  · simp only [Nat.mul_one] at hcs htk
    have hob : o b = g := hr.2 b rfl
    have hvne : vb ≠ b := fun e => hg (by rw [← hob, ← e]; exact hne)
    have hcell : ∀ j u, C[j]? = some u → w.cell? ⟨b, 0 + j, none⟩ = some u := fun j u hj => by rw [Nat.zero_add, cell_at hb]; simpa using take_getElem? htk hj
    have hcell2 : ∀ a, some (⟨b, 0, none⟩ : Addr) = some a → ∀ j u, C[j]? = some u → w.cell? (a.add j) = some u := by
      intro a ha j u hj; cases ha; rw [Addr.add_lit]; exact hcell j u hj
    unfold maxLen at hcm
    by_cases hin : i = n
    · subst hin
      by_cases hroom : i + 1 ≤ cap
      · have H := Any2.slices_Insert_string_end_room Try.lays22 b 0 i cap vb 0 1 1 [x] w (by omega) hroom (by omega) rfl (fun j hj => by rw [cell_at hb]; simp; omega) (fun j hj => frozen_at hb _) hvs h1v
        refine Calls.mono (show Calls Try.prog 38 #[.slice (some ⟨b, 0, none⟩) i cap, .int .i64 (i : Int), .slice (some ⟨vb, 0, none⟩) 1 1] w _ from H) ?_
        rintro e w' ⟨rfl, rfl⟩
        obtain ⟨s1, s2⟩ := splice_end (x := x) htk (by simp; omega)
        refine ⟨_, o, rfl, Row.put hob (heap_setCells [x] (0 + i) w cur hb (by simp; omega)) hroom (by unfold maxLen; omega) (by rw [Nat.zero_add, s2]; simpa using hcs) ?_, KB.setCells hob hlt _ _⟩
        rw [Nat.zero_add, s1, List.take_of_length_le (by omega), List.drop_eq_nil_of_le (by omega)]
      · have H : Calls Try.prog 38 #[.slice (some ⟨b, 0, none⟩) i cap, .int .i64 (i : Int), .slice (some ⟨vb, 0, none⟩) 1 1] w fun e w' => e = .returned (.slice (some ⟨w.heap.size, 0, none⟩) (i + 1) (grownCap w (i + 1) cap 9)) ∧
            w' = w.drew.alloc (.cells ((C ++ [x]).toArray ++ Builtin.zeroCells (Value.string ⟨#[]⟩).cells (grownCap w (i + 1) cap 9 - (i + 1))) 9) := Any2.slices_Insert_string_end_grow Try.lays22 (some ⟨b, 0, none⟩) i cap vb 0 1 1 C [x] w (by omega) hnc (by omega) (by omega) hl rfl (fun h => by cases h) hcell2 hvs h1v
        refine H.mono ?_
        rintro e w' ⟨rfl, rfl⟩
        have hge := grownCap_ge w (i + 1) cap 9
        have hmx := grownCap_le_maxLen w (i + 1) cap 9 (by unfold maxLen; omega)
        refine ⟨_, moved o g w.heap.size, rfl, ?_, KB.alloc rfl rfl rfl (by simp) (fun k hk => alloc_old' w.drew _ k hk) hlt⟩
        refine Row.put (L := (C ++ [x]) ++ (Builtin.zeroCells (Value.string ⟨#[]⟩).cells (grownCap w (i + 1) cap 9 - (i + 1))).toList) (moved_self _ _ _) ?_ hge hmx ?_ ?_
        · rw [show ((C ++ [x]) ++ (Builtin.zeroCells (Value.string ⟨#[]⟩).cells (grownCap w (i + 1) cap 9 - (i + 1))).toList).toArray = (C ++ [x]).toArray ++ Builtin.zeroCells (Value.string ⟨#[]⟩).cells (grownCap w (i + 1) cap 9 - (i + 1)) by simp]
          exact alloc_new w.drew _
        · have hz := zero_len (Value.string ⟨#[]⟩) (grownCap w (i + 1) cap 9 - (i + 1)) rfl
          rw [List.length_append, List.length_append, List.length_singleton, Array.length_toList (xs := Builtin.zeroCells (Value.string ⟨#[]⟩).cells (grownCap w (i + 1) cap 9 - (i + 1))), hz]; omega
        · rw [List.take_append_of_le_length (by simp; omega), List.take_of_length_le (by simp; omega), List.take_of_length_le (by omega), List.drop_eq_nil_of_le (by omega)]
    · by_cases hroom : n + 1 ≤ cap
      · have H := Any2.slices_Insert_string_shift Try.lays22 b 0 n cap i vb 0 1 1 C [x] w (by omega) (by omega) hroom (by omega) hvne hl rfl hcell (fun j hj => by rw [cell_at hb]; simp; omega) (fun j hj => frozen_at hb _) hvs h1 h1v
          9 9 1 cur.size (by simp [World.shape?, hvb]) (by simp [World.shape?, hb]) (by omega) (frozen_at hvb _) (frozen_at hvb _)
        refine Calls.mono (show Calls Try.prog 38 #[.slice (some ⟨b, 0, none⟩) n cap, .int .i64 (i : Int), .slice (some ⟨vb, 0, none⟩) 1 1] w _ from H) ?_
        rintro e w' ⟨rfl, rfl⟩
        have hD : (C.drop i).length = n - i := by rw [List.length_drop, hl]
        have hb1 := heap_setCells (b := b) (C.drop i) (0 + (i + 1)) w.drew cur hb (by rw [hD]; omega)
        obtain ⟨s1, s2⟩ := splice_two (x := x) (i := i) (D := C.drop i) htk rfl (by omega) (by simp; omega)
        have hsz1 : (splice cur.toList (0 + (i + 1)) (C.drop i)).length = cur.size := by rw [length_splice _ _ _ (by rw [hD]; simp; omega)]; simp
        refine ⟨_, o, rfl, Row.put hob (heap_setCells [x] (0 + i) _ _ hb1 (by rw [List.size_toArray, hsz1, List.length_singleton]; omega)) hroom (by unfold maxLen; omega) ?_ ?_, ?_⟩
        · simp only [Nat.zero_add]; rw [s2]; simpa using hcs
        · simp only [Nat.zero_add]; exact s1
        · exact (KB.same (w := w) (w' := w.drew) rfl rfl rfl rfl hlt).trans hg ((KB.setCells (w := w.drew) hob hlt _ _).trans hg (KB.setCells hob (fun k hk => by rw [size_setCells]; exact hlt k hk) _ _))
      · have H := Any2.slices_Insert_string_grow Try.lays22 b 0 n cap i vb 0 1 1 C [x] w (by omega) (by omega) hnc (by omega) (by omega) hl rfl hcell hvs h1 h1v
        refine Calls.mono (show Calls Try.prog 38 #[.slice (some ⟨b, 0, none⟩) n cap, .int .i64 (i : Int), .slice (some ⟨vb, 0, none⟩) 1 1] w _ from H) ?_
        rintro e w' ⟨rfl, rfl⟩
        have hge := grownCap_ge w (n + 1) cap 9
        have hmx := grownCap_le_maxLen w (n + 1) cap 9 (by unfold maxLen; omega)
        have hD : (C.drop i).length = n - i := by rw [List.length_drop, hl]
        have hge' : n + 1 ≤ grownCap w (n + 1) cap 9 := hge
        have hmx' : grownCap w (n + 1) cap 9 ≤ maxLen := hmx
        clear hge hmx
        show ∃ v' o', Ending.returned (.slice (some ⟨w.heap.size, 0, none⟩) (n + 1) (grownCap w (n + 1) cap 9)) = .returned v' ∧ Row o' ((((w.alloc (.cells ((C.take i).toArray ++ Builtin.zeroCells (Value.string ⟨#[]⟩).cells (n + 1 - i) ++ Builtin.zeroCells (Value.string ⟨#[]⟩).cells (grownCap w (n + 1) cap 9 - (n + 1))) 9)).drew.setCells w.heap.size i [x]).drew).setCells w.heap.size (i + 1) (C.drop i)) g 9 1 v' (n + 1) (C.take i ++ x :: C.drop i) ∧
          KB g o o' w ((((w.alloc (.cells ((C.take i).toArray ++ Builtin.zeroCells (Value.string ⟨#[]⟩).cells (n + 1 - i) ++ Builtin.zeroCells (Value.string ⟨#[]⟩).cells (grownCap w (n + 1) cap 9 - (n + 1))) 9)).drew.setCells w.heap.size i [x]).drew).setCells w.heap.size (i + 1) (C.drop i))
        generalize grownCap w (n + 1) cap 9 = G at hge' hmx'
        have hcur : ((C.take i).toArray ++ Builtin.zeroCells (Value.string ⟨#[]⟩).cells (n + 1 - i) ++ Builtin.zeroCells (Value.string ⟨#[]⟩).cells (G - (n + 1))).size = G := by
          rw [Array.size_append, Array.size_append, zero_len _ _ rfl, zero_len _ _ rfl]; simp; omega
        have hpre : ((C.take i).toArray ++ Builtin.zeroCells (Value.string ⟨#[]⟩).cells (n + 1 - i) ++ Builtin.zeroCells (Value.string ⟨#[]⟩).cells (G - (n + 1))).toList.take i = C.take i := by
          rw [Array.toList_append, Array.toList_append, List.append_assoc, List.take_append_of_le_length (by simp; omega), List.take_of_length_le (by simp [Nat.min_le_left])]
        generalize (C.take i).toArray ++ Builtin.zeroCells (Value.string ⟨#[]⟩).cells (n + 1 - i) ++ Builtin.zeroCells (Value.string ⟨#[]⟩).cells (G - (n + 1)) = cur0 at hcur hpre
        have hb0 : ((w.alloc (.cells cur0 9)).drew).heap[w.heap.size]? = some (.cells cur0 9 (0, 0)) := alloc_new w _
        have hb1 := heap_setCells (b := w.heap.size) [x] i _ cur0 hb0 (by simp; omega)
        have hl1 : (splice cur0.toList i [x]).length = G := by rw [length_splice _ _ _ (by simp; omega)]; simpa using hcur
        have hb2 := heap_setCells (b := w.heap.size) (C.drop i) (i + 1) (((w.alloc (.cells cur0 9)).drew.setCells w.heap.size i [x]).drew) _ hb1 (by simp [hl1]; omega)
        have e1 : (splice cur0.toList i [x]).take (i + 1) = C.take i ++ [x] := by
          rw [splice, hpre, ← List.append_assoc, List.take_append_of_le_length (by simp; omega), List.take_of_length_le (by simp; omega)]
        have e2 : (splice (splice cur0.toList i [x]) (i + 1) (C.drop i)).take (n + 1) = C.take i ++ x :: C.drop i := by
          rw [splice, e1, ← List.append_assoc, List.take_append_of_le_length (by simp; omega), List.take_of_length_le (by simp; omega)]; simp
        refine ⟨_, moved o g w.heap.size, rfl, Row.put (moved_self _ _ _) hb2 hge' hmx' ?_ ?_, ?_⟩
        · simp only [List.size_toArray]; rw [length_splice _ _ _ (by rw [hl1, hD]; omega), hl1]
        · exact e2
        · have k1 : KB g o (moved o g w.heap.size) w (w.alloc (.cells cur0 9)).drew := KB.alloc rfl rfl rfl (by simp) (fun k hk => alloc_old' w _ k hk) hlt
          have k2 := k1.trans hg (KB.setCells (w := (w.alloc (.cells cur0 9)).drew) (moved_self o g w.heap.size) k1.lt i [x])
          have k3 := k2.trans hg (KB.same (w := (w.alloc (.cells cur0 9)).drew.setCells w.heap.size i [x]) (w' := ((w.alloc (.cells cur0 9)).drew.setCells w.heap.size i [x]).drew) rfl rfl rfl rfl k2.lt)
          exact k3.trans hg (KB.setCells (moved_self o g w.heap.size) k3.lt _ _)

theorem delS_any {o : Own} {w : World} {g : Tag} {v : Value} {n i j : Nat} {l : List ByteArray} (hr : Row o w g 9 1 v n (strs l)) (hlt : ∀ k, o k ≠ .free → k < w.heap.size) (hg : g ≠ .free) (hij : i ≤ j) (hj : j ≤ n) :
    Calls Try.prog 35 #[v, .int .i64 i, .int .i64 j] w fun e w' => ∃ v', e = .returned v' ∧ v'.ownBlock = v.ownBlock ∧ Row o w' g 9 1 v' (n - (j - i)) (strs (l.take i ++ l.drop j)) ∧ KB g o o w w' := by
  have hl : (strs l).length = n := by simpa using hr.1.1
  have hll : l.length = n := by simpa [strs] using hl
  rcases hr.1.2 with ⟨rfl, rfl⟩ | ⟨b, cap, cur, rfl, _, hb, hnc, hcm, hcs, htk⟩
  · obtain rfl : l = [] := List.eq_nil_of_length_eq_zero hll
    obtain rfl : j = 0 := by omega
    obtain rfl : i = 0 := by omega
    have H : Calls Try.prog 35 #[.slice none 0 0, .int .i64 (0 : Int), .int .i64 (0 : Int)] w fun e w' => e = .returned (.slice none 0 0) ∧ w' = w := by
      clear hr hlt
      go_enter Try.func35, Try.ntmps35
      go_wp2
      go_ret
      exact ⟨rfl, rfl⟩
    refine Calls.mono (show Calls Try.prog 35 #[.slice none 0 0, .int .i64 ((0 : Nat) : Int), .int .i64 ((0 : Nat) : Int)] w _ from H) ?_
    rintro e w' ⟨rfl, rfl⟩
    exact ⟨_, rfl, rfl, hr, KB.same rfl rfl rfl rfl hlt⟩
  · simp only [Nat.mul_one] at hcs htk
    have hob : o b = g := hr.2 b rfl
    unfold maxLen at hcm
    have hH : Sort.Holds encStr w b 0 (zsS l).toArray := by
      intro k hk
      simp only [zsS, List.size_toArray, List.length_map] at hk
      refine ⟨?_, frozen_at hb _⟩
      rw [Nat.zero_add, cell_at hb]
      have : cur[k]? = some (Value.string (l[k]'hk)) := by
        have := take_getElem? (j := k) (v := Value.string (l[k]'hk)) htk (by simp [strs, hk])
        simpa using this
      rw [this, getElem!_pos _ k (by simpa [zsS] using hk)]
      simp [zsS, encStr]
    have H := Any.slices_Delete_string Try.lays24 b 0 cap i j (zsS l) w hH (by simp [zsS]; omega) (by omega) hij (by simp [zsS]; omega)
    have hzl : (zsS l).length = n := by simp [zsS, hll]
    rw [hzl] at H
    refine Calls.mono (show Calls Try.prog 35 #[.slice (some ⟨b, 0, none⟩) n cap, .int .i64 (i : Int), .int .i64 (j : Int)] w _ from H) ?_
    rintro e w' ⟨rfl, q, rfl⟩
    have hys : (zsS l).take i ++ (zsS l).drop j ++ List.replicate (j - i) [] = zsS (l.take i ++ l.drop j ++ List.replicate (j - i) ⟨#[]⟩) := by simp [zsS, List.map_take, List.map_drop]
    rw [hys, Lib.putRow_eq_setCells encStr w b 0 (zsS l).toArray _ q hH (by simp [zsS]; omega)]
    have hmap : (zsS (l.take i ++ l.drop j ++ List.replicate (j - i) ⟨#[]⟩)).map encStr = strs (l.take i ++ l.drop j ++ List.replicate (j - i) ⟨#[]⟩) := by
      simp [zsS, strs, List.map_map, Function.comp_def, encStr]
    rw [hmap]
    have hN : (strs (l.take i ++ l.drop j ++ List.replicate (j - i) ⟨#[]⟩)).length = n := by simp [strs]; omega
    have hb' : (w.drewN q).heap[b]? = some (.cells cur 9 (0, 0)) := by rw [drewN_heap]; exact hb
    obtain ⟨d1, d2, d3⟩ := drewN_rest w q
    refine ⟨_, rfl, rfl, Row.put hob (heap_setCells _ 0 _ cur hb' (by rw [hN]; omega)) (by omega) (by unfold maxLen; omega) ?_ ?_, ?_⟩
    · rw [length_splice _ _ _ (by rw [hN]; simp; omega)]; simpa using hcs
    · rw [splice_front (by rw [hN]; omega)]
      have e : strs (l.take i ++ l.drop j ++ List.replicate (j - i) ⟨#[]⟩) = strs (l.take i ++ l.drop j) ++ strs (List.replicate (j - i) ⟨#[]⟩) := by simp [strs]
      rw [e, List.take_append_of_le_length (by simp [strs]; omega), List.take_of_length_le (by simp [strs]; omega)]
    · exact (KB.same (w := w) (w' := w.drewN q) d1 d2 d3 (drewN_heap w q) hlt).trans hg (KB.setCells hob (fun k hk => by rw [drewN_heap]; exact hlt k hk) _ _)
theorem cloS_any {w : World} {b off n c : Nat} {l : List ByteArray} (hl : l.length = n) (hn : n < 1000000000) (hc : ∀ j v, (strs l)[j]? = some v → w.cell? ⟨b, off + j, none⟩ = some v) :
    Calls Try.prog 55 #[.slice (some ⟨b, off, none⟩) n c] w fun e w' => ∃ v', e = .returned v' ∧ w'.ownsRow w.heap.size 9 1 v' n (strs l) ∧ Below w.heap.size w w' := by
  have H := Any.slices_Clone_string Try.lays16 b off n c (id l) w (by simp [id, hl]) (by omega) (fun j hj => by
    have hj' : j < l.length := by simpa [id] using hj
    rw [hc j (Value.string l[j]) (by simp [strs, hj'])]
    simp [id, List.getD, hj'])
  refine Calls.mono (show Calls Try.prog 55 #[.slice (some ⟨b, off, none⟩) n c] w _ from H) ?_
  rintro e w' ⟨v', rfl, h1, _, h2⟩
  refine ⟨v', rfl, ?_, h2⟩
  have : ((id l).take n).map Value.string = strs l := by rw [List.take_of_length_le (by simp [id]; omega)]; simp [id, strs, List.map_map, Function.comp_def]
  rw [← this]; exact h1
theorem cloS_nil (w : World) : Calls Try.prog 55 #[.slice none 0 0] w fun e w' => e = .returned (.slice none 0 0) ∧ w' = w :=
  Any.slices_Clone_string_nil Try.lays16 0 0 w

theorem insI_any {o : Own} {w : World} {g : Tag} {v x : Value} {n i vb : Nat} {C : List Value} (hr : Row o w g 3 1 v n C) (h1 : ∀ u ∈ C, u.oneCell' = true) (hlt : ∀ k, o k ≠ .free → k < w.heap.size) (hg : g ≠ .free)
    (hi : i ≤ n) (hn : n < 1000000000) (hvb : w.heap[vb]? = some (.cells #[x] 3 (0, 0))) (hx : x.oneCell' = true) (hne : o vb = .free) :
    Calls Try.prog 52 #[v, .int .i64 i, .slice (some ⟨vb, 0, none⟩) 1 1] w fun e w' => ∃ v' o', e = .returned v' ∧ Row o' w' g 3 1 v' (n + 1) (C.take i ++ x :: C.drop i) ∧ KB g o o' w w' := by
  have hvs : ∀ (j : Nat) u, [x][j]? = some u → w.cell? ⟨vb, 0 + j, none⟩ = some u := by
    intro j u hj
    rw [Nat.zero_add, cell_at hvb]
    match j, hj with
    | 0, hj => simpa using hj
  have h1v : ∀ u ∈ [x], u.oneCell' = true := by intro u hu; simp at hu; rw [hu]; exact hx
  have hl : C.length = n := by simpa using hr.1.1
  rcases hr.1.2 with ⟨rfl, rfl⟩ | ⟨b, cap, cur, rfl, _, hb, hnc, hcm, hcs, htk⟩
  · obtain rfl : C = [] := List.eq_nil_of_length_eq_zero hl
    obtain rfl : i = 0 := by omega
    have H : Calls Try.prog 52 #[.slice none 0 0, .int .i64 ((0 : Nat) : Int), .slice (some ⟨vb, 0, none⟩) 1 1] w fun e w' => e = .returned (.slice (some ⟨w.heap.size, 0, none⟩) (0 + 1) (grownCap w (0 + 1) 0 3)) ∧
        w' = w.drew.alloc (.cells (([] ++ [x]).toArray ++ Builtin.zeroCells (Value.int .i64 0).cells (grownCap w (0 + 1) 0 3 - (0 + 1))) 3) := Any2.slices_Insert_int_end_grow Try.lays21 none 0 0 vb 0 1 1 [] [x] w (by omega) (by omega) (by omega) (by omega) rfl rfl (fun _ => rfl) (fun a ha => by cases ha) hvs h1v
    refine H.mono ?_
    rintro e w' ⟨rfl, rfl⟩
    have hge := grownCap_ge w (0 + 1) 0 3
    have hmx := grownCap_le_maxLen w (0 + 1) 0 3 (by simp [maxLen])
    refine ⟨_, moved o g w.heap.size, rfl, ?_, KB.alloc rfl rfl rfl (by simp) (fun k hk => alloc_old' w.drew _ k hk) hlt⟩
    refine Row.put (L := [x] ++ (Builtin.zeroCells (Value.int .i64 0).cells (grownCap w (0 + 1) 0 3 - (0 + 1))).toList) (moved_self _ _ _) ?_ hge hmx ?_ ?_
    · rw [show ([x] ++ (Builtin.zeroCells (Value.int .i64 0).cells (grownCap w (0 + 1) 0 3 - (0 + 1))).toList).toArray = ([] ++ [x]).toArray ++ Builtin.zeroCells (Value.int .i64 0).cells (grownCap w (0 + 1) 0 3 - (0 + 1)) by simp]
      exact alloc_new w.drew _
    · have hz := zero_len (Value.int .i64 0) (grownCap w (0 + 1) 0 3 - (0 + 1)) rfl
      rw [List.length_append, List.length_singleton, Array.length_toList (xs := Builtin.zeroCells (Value.int .i64 0).cells (grownCap w (0 + 1) 0 3 - (0 + 1))), hz]; omega
    · simp
  · simp only [Nat.mul_one] at hcs htk
    have hob : o b = g := hr.2 b rfl
    have hvne : vb ≠ b := fun e => hg (by rw [← hob, ← e]; exact hne)
    have hcell : ∀ j u, C[j]? = some u → w.cell? ⟨b, 0 + j, none⟩ = some u := fun j u hj => by rw [Nat.zero_add, cell_at hb]; simpa using take_getElem? htk hj
    have hcell2 : ∀ a, some (⟨b, 0, none⟩ : Addr) = some a → ∀ j u, C[j]? = some u → w.cell? (a.add j) = some u := by
      intro a ha j u hj; cases ha; rw [Addr.add_lit]; exact hcell j u hj
    unfold maxLen at hcm
    by_cases hin : i = n
    · subst hin
      by_cases hroom : i + 1 ≤ cap
      · have H := Any2.slices_Insert_int_end_room Try.lays21 b 0 i cap vb 0 1 1 [x] w (by omega) hroom (by omega) rfl (fun j hj => by rw [cell_at hb]; simp; omega) (fun j hj => frozen_at hb _) hvs h1v
        refine Calls.mono (show Calls Try.prog 52 #[.slice (some ⟨b, 0, none⟩) i cap, .int .i64 (i : Int), .slice (some ⟨vb, 0, none⟩) 1 1] w _ from H) ?_
        rintro e w' ⟨rfl, rfl⟩
        obtain ⟨s1, s2⟩ := splice_end (x := x) htk (by simp; omega)
        refine ⟨_, o, rfl, Row.put hob (heap_setCells [x] (0 + i) w cur hb (by simp; omega)) hroom (by unfold maxLen; omega) (by rw [Nat.zero_add, s2]; simpa using hcs) ?_, KB.setCells hob hlt _ _⟩
        rw [Nat.zero_add, s1, List.take_of_length_le (by omega), List.drop_eq_nil_of_le (by omega)]
      · have H : Calls Try.prog 52 #[.slice (some ⟨b, 0, none⟩) i cap, .int .i64 (i : Int), .slice (some ⟨vb, 0, none⟩) 1 1] w fun e w' => e = .returned (.slice (some ⟨w.heap.size, 0, none⟩) (i + 1) (grownCap w (i + 1) cap 3)) ∧
            w' = w.drew.alloc (.cells ((C ++ [x]).toArray ++ Builtin.zeroCells (Value.int .i64 0).cells (grownCap w (i + 1) cap 3 - (i + 1))) 3) := Any2.slices_Insert_int_end_grow Try.lays21 (some ⟨b, 0, none⟩) i cap vb 0 1 1 C [x] w (by omega) hnc (by omega) (by omega) hl rfl (fun h => by cases h) hcell2 hvs h1v
        refine H.mono ?_
        rintro e w' ⟨rfl, rfl⟩
        have hge := grownCap_ge w (i + 1) cap 3
        have hmx := grownCap_le_maxLen w (i + 1) cap 3 (by unfold maxLen; omega)
        refine ⟨_, moved o g w.heap.size, rfl, ?_, KB.alloc rfl rfl rfl (by simp) (fun k hk => alloc_old' w.drew _ k hk) hlt⟩
        refine Row.put (L := (C ++ [x]) ++ (Builtin.zeroCells (Value.int .i64 0).cells (grownCap w (i + 1) cap 3 - (i + 1))).toList) (moved_self _ _ _) ?_ hge hmx ?_ ?_
        · rw [show ((C ++ [x]) ++ (Builtin.zeroCells (Value.int .i64 0).cells (grownCap w (i + 1) cap 3 - (i + 1))).toList).toArray = (C ++ [x]).toArray ++ Builtin.zeroCells (Value.int .i64 0).cells (grownCap w (i + 1) cap 3 - (i + 1)) by simp]
          exact alloc_new w.drew _
        · have hz := zero_len (Value.int .i64 0) (grownCap w (i + 1) cap 3 - (i + 1)) rfl
          rw [List.length_append, List.length_append, List.length_singleton, Array.length_toList (xs := Builtin.zeroCells (Value.int .i64 0).cells (grownCap w (i + 1) cap 3 - (i + 1))), hz]; omega
        · rw [List.take_append_of_le_length (by simp; omega), List.take_of_length_le (by simp; omega), List.take_of_length_le (by omega), List.drop_eq_nil_of_le (by omega)]
    · by_cases hroom : n + 1 ≤ cap
      · have H := Any2.slices_Insert_int_shift Try.lays21 b 0 n cap i vb 0 1 1 C [x] w (by omega) (by omega) hroom (by omega) hvne hl rfl hcell (fun j hj => by rw [cell_at hb]; simp; omega) (fun j hj => frozen_at hb _) hvs h1 h1v
          3 3 1 cur.size (by simp [World.shape?, hvb]) (by simp [World.shape?, hb]) (by omega) (frozen_at hvb _) (frozen_at hvb _)
        refine Calls.mono (show Calls Try.prog 52 #[.slice (some ⟨b, 0, none⟩) n cap, .int .i64 (i : Int), .slice (some ⟨vb, 0, none⟩) 1 1] w _ from H) ?_
        rintro e w' ⟨rfl, rfl⟩
        have hD : (C.drop i).length = n - i := by rw [List.length_drop, hl]
        have hb1 := heap_setCells (b := b) (C.drop i) (0 + (i + 1)) w.drew cur hb (by rw [hD]; omega)
        obtain ⟨s1, s2⟩ := splice_two (x := x) (i := i) (D := C.drop i) htk rfl (by omega) (by simp; omega)
        have hsz1 : (splice cur.toList (0 + (i + 1)) (C.drop i)).length = cur.size := by rw [length_splice _ _ _ (by rw [hD]; simp; omega)]; simp
        refine ⟨_, o, rfl, Row.put hob (heap_setCells [x] (0 + i) _ _ hb1 (by rw [List.size_toArray, hsz1, List.length_singleton]; omega)) hroom (by unfold maxLen; omega) ?_ ?_, ?_⟩
        · simp only [Nat.zero_add]; rw [s2]; simpa using hcs
        · simp only [Nat.zero_add]; exact s1
        · exact (KB.same (w := w) (w' := w.drew) rfl rfl rfl rfl hlt).trans hg ((KB.setCells (w := w.drew) hob hlt _ _).trans hg (KB.setCells hob (fun k hk => by rw [size_setCells]; exact hlt k hk) _ _))
      · have H := Any2.slices_Insert_int_grow Try.lays21 b 0 n cap i vb 0 1 1 C [x] w (by omega) (by omega) hnc (by omega) (by omega) hl rfl hcell hvs h1 h1v
        refine Calls.mono (show Calls Try.prog 52 #[.slice (some ⟨b, 0, none⟩) n cap, .int .i64 (i : Int), .slice (some ⟨vb, 0, none⟩) 1 1] w _ from H) ?_
        rintro e w' ⟨rfl, rfl⟩
        have hge := grownCap_ge w (n + 1) cap 3
        have hmx := grownCap_le_maxLen w (n + 1) cap 3 (by unfold maxLen; omega)
        have hD : (C.drop i).length = n - i := by rw [List.length_drop, hl]
        have hge' : n + 1 ≤ grownCap w (n + 1) cap 3 := hge
        have hmx' : grownCap w (n + 1) cap 3 ≤ maxLen := hmx
        clear hge hmx
        show ∃ v' o', Ending.returned (.slice (some ⟨w.heap.size, 0, none⟩) (n + 1) (grownCap w (n + 1) cap 3)) = .returned v' ∧ Row o' ((((w.alloc (.cells ((C.take i).toArray ++ Builtin.zeroCells (Value.int .i64 0).cells (n + 1 - i) ++ Builtin.zeroCells (Value.int .i64 0).cells (grownCap w (n + 1) cap 3 - (n + 1))) 3)).drew.setCells w.heap.size i [x]).drew).setCells w.heap.size (i + 1) (C.drop i)) g 3 1 v' (n + 1) (C.take i ++ x :: C.drop i) ∧
          KB g o o' w ((((w.alloc (.cells ((C.take i).toArray ++ Builtin.zeroCells (Value.int .i64 0).cells (n + 1 - i) ++ Builtin.zeroCells (Value.int .i64 0).cells (grownCap w (n + 1) cap 3 - (n + 1))) 3)).drew.setCells w.heap.size i [x]).drew).setCells w.heap.size (i + 1) (C.drop i))
        generalize grownCap w (n + 1) cap 3 = G at hge' hmx'
        have hcur : ((C.take i).toArray ++ Builtin.zeroCells (Value.int .i64 0).cells (n + 1 - i) ++ Builtin.zeroCells (Value.int .i64 0).cells (G - (n + 1))).size = G := by
          rw [Array.size_append, Array.size_append, zero_len _ _ rfl, zero_len _ _ rfl]; simp; omega
        have hpre : ((C.take i).toArray ++ Builtin.zeroCells (Value.int .i64 0).cells (n + 1 - i) ++ Builtin.zeroCells (Value.int .i64 0).cells (G - (n + 1))).toList.take i = C.take i := by
          rw [Array.toList_append, Array.toList_append, List.append_assoc, List.take_append_of_le_length (by simp; omega), List.take_of_length_le (by simp [Nat.min_le_left])]
        generalize (C.take i).toArray ++ Builtin.zeroCells (Value.int .i64 0).cells (n + 1 - i) ++ Builtin.zeroCells (Value.int .i64 0).cells (G - (n + 1)) = cur0 at hcur hpre
        have hb0 : ((w.alloc (.cells cur0 3)).drew).heap[w.heap.size]? = some (.cells cur0 3 (0, 0)) := alloc_new w _
        have hb1 := heap_setCells (b := w.heap.size) [x] i _ cur0 hb0 (by simp; omega)
        have hl1 : (splice cur0.toList i [x]).length = G := by rw [length_splice _ _ _ (by simp; omega)]; simpa using hcur
        have hb2 := heap_setCells (b := w.heap.size) (C.drop i) (i + 1) (((w.alloc (.cells cur0 3)).drew.setCells w.heap.size i [x]).drew) _ hb1 (by simp [hl1]; omega)
        have e1 : (splice cur0.toList i [x]).take (i + 1) = C.take i ++ [x] := by
          rw [splice, hpre, ← List.append_assoc, List.take_append_of_le_length (by simp; omega), List.take_of_length_le (by simp; omega)]
        have e2 : (splice (splice cur0.toList i [x]) (i + 1) (C.drop i)).take (n + 1) = C.take i ++ x :: C.drop i := by
          rw [splice, e1, ← List.append_assoc, List.take_append_of_le_length (by simp; omega), List.take_of_length_le (by simp; omega)]; simp
        refine ⟨_, moved o g w.heap.size, rfl, Row.put (moved_self _ _ _) hb2 hge' hmx' ?_ ?_, ?_⟩
        · simp only [List.size_toArray]; rw [length_splice _ _ _ (by rw [hl1, hD]; omega), hl1]
        · exact e2
        · have k1 : KB g o (moved o g w.heap.size) w (w.alloc (.cells cur0 3)).drew := KB.alloc rfl rfl rfl (by simp) (fun k hk => alloc_old' w _ k hk) hlt
          have k2 := k1.trans hg (KB.setCells (w := (w.alloc (.cells cur0 3)).drew) (moved_self o g w.heap.size) k1.lt i [x])
          have k3 := k2.trans hg (KB.same (w := (w.alloc (.cells cur0 3)).drew.setCells w.heap.size i [x]) (w' := ((w.alloc (.cells cur0 3)).drew.setCells w.heap.size i [x]).drew) rfl rfl rfl rfl k2.lt)
          exact k3.trans hg (KB.setCells (moved_self o g w.heap.size) k3.lt _ _)

theorem delI_any {o : Own} {w : World} {g : Tag} {v : Value} {n i j : Nat} {l : List Nat} (hr : Row o w g 3 1 v n (nums l)) (hlt : ∀ k, o k ≠ .free → k < w.heap.size) (hg : g ≠ .free) (hij : i ≤ j) (hj : j ≤ n) :
    Calls Try.prog 54 #[v, .int .i64 i, .int .i64 j] w fun e w' => ∃ v', e = .returned v' ∧ v'.ownBlock = v.ownBlock ∧ Row o w' g 3 1 v' (n - (j - i)) (nums (l.take i ++ l.drop j)) ∧ KB g o o w w' := by
  have hl : (nums l).length = n := by simpa using hr.1.1
  have hll : l.length = n := by simpa [nums] using hl
  rcases hr.1.2 with ⟨rfl, rfl⟩ | ⟨b, cap, cur, rfl, _, hb, hnc, hcm, hcs, htk⟩
  · obtain rfl : l = [] := List.eq_nil_of_length_eq_zero hll
    obtain rfl : j = 0 := by omega
    obtain rfl : i = 0 := by omega
    have H : Calls Try.prog 54 #[.slice none 0 0, .int .i64 (0 : Int), .int .i64 (0 : Int)] w fun e w' => e = .returned (.slice none 0 0) ∧ w' = w := by
      clear hr hlt
      go_enter Try.func54, Try.ntmps54
      go_wp2
      go_ret
      exact ⟨rfl, rfl⟩
    refine Calls.mono (show Calls Try.prog 54 #[.slice none 0 0, .int .i64 ((0 : Nat) : Int), .int .i64 ((0 : Nat) : Int)] w _ from H) ?_
    rintro e w' ⟨rfl, rfl⟩
    exact ⟨_, rfl, rfl, hr, KB.same rfl rfl rfl rfl hlt⟩
  · simp only [Nat.mul_one] at hcs htk
    have hob : o b = g := hr.2 b rfl
    unfold maxLen at hcm
    have hH : Sort.Holds (Value.int .i64) w b 0 (zsI l).toArray := by
      intro k hk
      simp only [zsI, List.size_toArray, List.length_map] at hk
      refine ⟨?_, frozen_at hb _⟩
      rw [Nat.zero_add, cell_at hb]
      have : cur[k]? = some ((fun m : Nat => Value.int .i64 (m : Int)) (l[k]'hk)) := by
        have := take_getElem? (j := k) (v := (fun m : Nat => Value.int .i64 (m : Int)) (l[k]'hk)) htk (by simp [nums, hk])
        simpa using this
      rw [this, getElem!_pos _ k (by simpa [zsI] using hk)]
      simp [zsI]
    have H := Any.slices_Delete_int Try.lays23 b 0 cap i j (zsI l) w hH (by simp [zsI]; omega) (by omega) hij (by simp [zsI]; omega)
    have hzl : (zsI l).length = n := by simp [zsI, hll]
    rw [hzl] at H
    refine Calls.mono (show Calls Try.prog 54 #[.slice (some ⟨b, 0, none⟩) n cap, .int .i64 (i : Int), .int .i64 (j : Int)] w _ from H) ?_
    rintro e w' ⟨rfl, q, rfl⟩
    have hys : (zsI l).take i ++ (zsI l).drop j ++ List.replicate (j - i) 0 = zsI (l.take i ++ l.drop j ++ List.replicate (j - i) 0) := by simp [zsI, List.map_take, List.map_drop]
    rw [hys, Lib.putRow_eq_setCells (Value.int .i64) w b 0 (zsI l).toArray _ q hH (by simp [zsI]; omega)]
    have hmap : (zsI (l.take i ++ l.drop j ++ List.replicate (j - i) 0)).map (Value.int .i64) = nums (l.take i ++ l.drop j ++ List.replicate (j - i) 0) := by
      simp [zsI, nums, List.map_map, Function.comp_def]
    rw [hmap]
    have hN : (nums (l.take i ++ l.drop j ++ List.replicate (j - i) 0)).length = n := by simp [nums]; omega
    have hb' : (w.drewN q).heap[b]? = some (.cells cur 3 (0, 0)) := by rw [drewN_heap]; exact hb
    obtain ⟨d1, d2, d3⟩ := drewN_rest w q
    refine ⟨_, rfl, rfl, Row.put hob (heap_setCells _ 0 _ cur hb' (by rw [hN]; omega)) (by omega) (by unfold maxLen; omega) ?_ ?_, ?_⟩
    · rw [length_splice _ _ _ (by rw [hN]; simp; omega)]; simpa using hcs
    · rw [splice_front (by rw [hN]; omega)]
      have e : nums (l.take i ++ l.drop j ++ List.replicate (j - i) 0) = nums (l.take i ++ l.drop j) ++ nums (List.replicate (j - i) 0) := by simp [nums]
      rw [e, List.take_append_of_le_length (by simp [nums]; omega), List.take_of_length_le (by simp [nums]; omega)]
    · exact (KB.same (w := w) (w' := w.drewN q) d1 d2 d3 (drewN_heap w q) hlt).trans hg (KB.setCells hob (fun k hk => by rw [drewN_heap]; exact hlt k hk) _ _)
theorem cloI_any {w : World} {b off n c : Nat} {l : List Nat} (hl : l.length = n) (hn : n < 1000000000) (hc : ∀ j v, (nums l)[j]? = some v → w.cell? ⟨b, off + j, none⟩ = some v) :
    Calls Try.prog 56 #[.slice (some ⟨b, off, none⟩) n c] w fun e w' => ∃ v', e = .returned v' ∧ w'.ownsRow w.heap.size 3 1 v' n (nums l) ∧ Below w.heap.size w w' := by
  have H := Any.slices_Clone_int Try.lays15 b off n c (zsI l) w (by simp [zsI, hl]) (by omega) (fun j hj => by
    have hj' : j < l.length := by simpa [zsI] using hj
    rw [hc j ((fun m : Nat => Value.int .i64 (m : Int)) l[j]) (by simp [nums, hj'])]
    simp [zsI, List.getD, hj'])
  refine Calls.mono (show Calls Try.prog 56 #[.slice (some ⟨b, off, none⟩) n c] w _ from H) ?_
  rintro e w' ⟨v', rfl, h1, _, h2⟩
  refine ⟨v', rfl, ?_, h2⟩
  have : ((zsI l).take n).map (Value.int .i64) = nums l := by rw [List.take_of_length_le (by simp [zsI]; omega)]; simp [zsI, nums, List.map_map, Function.comp_def]
  rw [← this]; exact h1
theorem cloI_nil (w : World) : Calls Try.prog 56 #[.slice none 0 0] w fun e w' => e = .returned (.slice none 0 0) ∧ w' = w :=
  Any.slices_Clone_int_nil Try.lays15 0 0 w

end Go.Proofs.Ytfnhbjokokjhfab
