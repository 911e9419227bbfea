/- The statements' helper does, call by call. -/
import Derived.Test.YtfnhbjokokjhfaaTwo
namespace Go.Proofs.Ytfnhbjokokjhfaa
open Go.ChangeShapes Go.WideShapes Go.ChangeAt Go.RowKit
set_option linter.unusedVariables false
def Tb (wb : Nat) (ob : Obj) (w' : World) : Prop := w'.heap[wb]? = some ob
def opObj (p : OpD) : Obj := .cells #[.int .u8 p.kind, .int .i64 p.i, .int .i64 p.n, .string p.s, p.lv] 50
theorem tb_cells {wb : Nat} {p : OpD} {x : World} (h : Tb wb (opObj p) x) : x.cell? ⟨wb, 0, none⟩ = some (.int .u8 p.kind) ∧ x.cell? ⟨wb, 1, none⟩ = some (.int .i64 p.i) ∧ x.cell? ⟨wb, 2, none⟩ = some (.int .i64 p.n) ∧ x.cell? ⟨wb, 3, none⟩ = some (.string p.s) ∧ x.cell? ⟨wb, 4, none⟩ = some p.lv := by
  have h' : x.heap[wb]? = some (.cells #[.int .u8 p.kind, .int .i64 p.i, .int .i64 p.n, .string p.s, p.lv] 50 (0, 0)) := h
  exact ⟨by simp [World.cell?, h'], by simp [World.cell?, h'], by simp [World.cell?, h'], by simp [World.cell?, h'], by simp [World.cell?, h']⟩
/-- Both have the same lines, not many more than before. -/
def Done (B : Nat) (W : World) (t r : Nat) (ls : List ByteArray) (m : Nat) (bx : List (Nat × Obj)) (w' : World) : Prop := ∃ ls', Two B W w' t r ls' ls' m bx ∧ ls'.length ≤ ls.length + 50 ∧ ∀ y ∈ ls', y.size ≤ reachBytes
theorem done_spliced {B : Nat} {W w' : World} {t r m m' : Nat} {ls ms : List ByteArray} {i n : Int} {b0 : Nat × Obj} {bx : List (Nat × Obj)} (h : Two B W w' t r (spliced ls ms i n) (spliced ls ms i n) m (b0 :: bx)) (hm : m ≤ m') (hl : ms.length ≤ 50) (h1 : ∀ y ∈ ls, y.size ≤ reachBytes) (h2 : ∀ y ∈ ms, y.size ≤ reachBytes) : Done B W t r ls m' bx w' :=
  ⟨_, h.unbox.mono hm, Nat.le_trans len_spliced (by omega), fun y hy => by rcases mem_spliced hy with q | q; exact h1 y q; exact h2 y q⟩
section
variable {B : Nat} {W wr : World} {t r : Nat} {ls : List ByteArray} {m : Nat}
def lineOf (ls : List ByteArray) (i : Int) : ByteArray := if 0 ≤ i then (ls[i.toNat]?).getD ⟨#[]⟩ else ⟨#[]⟩
def partOf (ls : List ByteArray) (i n : Int) : List ByteArray := if 0 ≤ i ∧ 0 ≤ n ∧ n ≤ (ls.length : Int) - i then (ls.drop i.toNat).take n.toNat else []
theorem tget_any {o : Own} (h : Tr o wr t ls m) (hl : ls.length < 2 ^ 38) (i : Int) (hi : -9223372036854775808 ≤ i ∧ i ≤ 9223372036854775807) : Calls Try.prog 20 #[.pointer (some ⟨t, 0, none⟩), .int .i64 i] wr fun e w' => e = .returned (.tuple #[.string (lineOf ls i), .bool (may ls i 1)]) ∧ ∃ q, w' = wr.drewN q := by
  by_cases hok : 0 ≤ i ∧ (0 : Int) ≤ 1 ∧ 1 ≤ (ls.length : Int) - i
  · have hx : ls[i.toNat]? = some (ls[i.toNat]'(by omega)) := List.getElem?_eq_getElem _
    have hc := get_ok h hl hx
    rw [Int.toNat_of_nonneg hok.1] at hc
    rw [show may ls i 1 = true by simp only [may, hok]; simp, show lineOf ls i = ls[i.toNat]'(by omega) by rw [lineOf, if_pos hok.1, hx]; rfl]
    exact hc
  · rw [show may ls i 1 = false by simpa [may] using hok, show lineOf ls i = ⟨#[]⟩ by
      unfold lineOf; split
      · rw [List.getElem?_eq_none (by omega)]; rfl
      · rfl]
    exact get_no h hl i hi (by omega)
theorem rget_any {o : Own} (h : Rf o wr r ls) (hl : ls.length < 2 ^ 38) (i : Int) : Calls Try.prog 44 #[.pointer (some ⟨r, 0, none⟩), .int .i64 i] wr fun e w' => e = .returned (.tuple #[.string (lineOf ls i), .bool (may ls i 1)]) ∧ ∃ q, w' = wr.drewN q := by
  by_cases hok : 0 ≤ i ∧ (0 : Int) ≤ 1 ∧ 1 ≤ (ls.length : Int) - i
  · have hx : ls[i.toNat]? = some (ls[i.toNat]'(by omega)) := List.getElem?_eq_getElem _
    have hc := rget_ok h (by omega) hx
    rw [Int.toNat_of_nonneg hok.1] at hc
    rw [show may ls i 1 = true by simp only [may, hok]; simp, show lineOf ls i = ls[i.toNat]'(by omega) by rw [lineOf, if_pos hok.1, hx]; rfl]
    exact hc
  · rw [show may ls i 1 = false by simpa [may] using hok, show lineOf ls i = ⟨#[]⟩ by
      unfold lineOf; split
      · rw [List.getElem?_eq_none (by omega)]; rfl
      · rfl]
    exact rget_no h i (by omega)
theorem tpart_any {o : Own} (h : Tr o wr t ls m) (hl : ls.length < 2 ^ 38) (i n : Int) (hi : -9223372036854775808 ≤ i ∧ i ≤ 9223372036854775807) : Calls Try.prog 19 #[.pointer (some ⟨t, 0, none⟩), .int .i64 i, .int .i64 n] wr fun e w' => ∃ a n' c, e = .returned (.tuple #[.slice a n' c, .bool (may ls i n)]) ∧ Lies nobody w' (.slice a n' c) (partOf ls i n) ∧ Below wr.heap.size wr w' := by
  by_cases hok : 0 ≤ i ∧ 0 ≤ n ∧ n ≤ (ls.length : Int) - i
  · have hc := part_ok h hl (i := i.toNat) (n := n.toNat) (by omega)
    rw [Int.toNat_of_nonneg hok.1, Int.toNat_of_nonneg hok.2.1] at hc
    rw [show may ls i n = true by simp [may, hok], show partOf ls i n = (ls.drop i.toNat).take n.toNat by rw [partOf, if_pos hok]]
    refine hc.mono ?_
    rintro e w' ⟨v, rfl, hT⟩
    obtain ⟨gb, e, _⟩ := hT.2
    have hL := hT.lies
    rw [e] at hL ⊢
    exact ⟨_, _, _, rfl, hL, hT.1⟩
  · rw [show may ls i n = false by simpa [may] using hok, show partOf ls i n = [] by rw [partOf, if_neg hok]]
    refine (part_no h hl i n hi hok).mono ?_
    rintro e w' ⟨rfl, hb⟩
    exact ⟨_, _, _, rfl, lies_nil, hb⟩
theorem rpart_any {o : Own} (h : Rf o wr r ls) (hl : ls.length < 2 ^ 38) (i n : Int) (hi : -9223372036854775808 ≤ i ∧ i ≤ 9223372036854775807) : Calls Try.prog 45 #[.pointer (some ⟨r, 0, none⟩), .int .i64 i, .int .i64 n] wr fun e w' => ∃ a n' c, e = .returned (.tuple #[.slice a n' c, .bool (may ls i n)]) ∧ Lies nobody w' (.slice a n' c) (partOf ls i n) ∧ Below wr.heap.size wr w' := by
  by_cases hok : 0 ≤ i ∧ 0 ≤ n ∧ n ≤ (ls.length : Int) - i
  · have hc := rpart_ok h (by omega) (i := i.toNat) (n := n.toNat) (by omega)
    rw [Int.toNat_of_nonneg hok.1, Int.toNat_of_nonneg hok.2.1] at hc
    rw [show may ls i n = true by simp [may, hok], show partOf ls i n = (ls.drop i.toNat).take n.toNat by rw [partOf, if_pos hok]]
    refine hc.mono ?_
    rintro e w' ⟨a, c, rfl, h1, h2⟩
    exact ⟨_, _, _, rfl, h1, h2⟩
  · rw [show may ls i n = false by simpa [may] using hok, show partOf ls i n = [] by rw [partOf, if_neg hok]]
    refine (rpart_no h (by omega) i n hi hok).mono ?_
    rintro e w' ⟨rfl, q, rfl⟩
    exact ⟨_, _, _, rfl, lies_nil, below_drewN _ _⟩
theorem done_same {w' : World} {b0 : Nat × Obj} {bx : List (Nat × Obj)} {m' : Nat} (h : Two B W w' t r ls ls m (b0 :: bx)) (hm : m ≤ m') (h1 : ∀ y ∈ ls, y.size ≤ reachBytes) : Done B W t r ls m' bx w' := ⟨ls, h.unbox.mono hm, by omega, h1⟩
theorem Two.tget {bx : List (Nat × Obj)} (h : Two B W wr t r ls ls m bx) (hl : ls.length < 2 ^ 38) (i : Int) (hi : -9223372036854775808 ≤ i ∧ i ≤ 9223372036854775807) : Calls Try.prog 20 #[.pointer (some ⟨t, 0, none⟩), .int .i64 i] wr fun e w' => e = .returned (.tuple #[.string (lineOf ls i), .bool (may ls i 1)]) ∧ Two B W w' t r ls ls m bx := by
  obtain ⟨o, h1, _⟩ := h.ex
  refine (tget_any h1 hl i hi).mono ?_
  rintro e w' ⟨rfl, q, rfl⟩
  exact ⟨rfl, h.drewN q⟩
theorem Two.rget {bx : List (Nat × Obj)} (h : Two B W wr t r ls ls m bx) (hl : ls.length < 2 ^ 38) (i : Int) : Calls Try.prog 44 #[.pointer (some ⟨r, 0, none⟩), .int .i64 i] wr fun e w' => e = .returned (.tuple #[.string (lineOf ls i), .bool (may ls i 1)]) ∧ Two B W w' t r ls ls m bx := by
  obtain ⟨o, _, _, h3, _⟩ := h.ex
  refine (rget_any h3 hl i).mono ?_
  rintro e w' ⟨rfl, q, rfl⟩
  exact ⟨rfl, h.drewN q⟩
set_option maxHeartbeats 4000000 in
set_option maxRecDepth 100000 in
theorem does_0 {bx : List (Nat × Obj)} (h : Two B W wr t r ls ls m bx) (hBW : B = W.heap.size) (p : OpD) (hp : OpOk W p) (hz : OpSz p) (hl50 : p.l.length ≤ 50) (hls : ls.length ≤ 20000) (hm : m + 22 * (ls.length + 60) < 70000000) (hy : ∀ y ∈ ls, y.size ≤ reachBytes) (hk : p.kind % 10 = 0) :
    Calls Try.prog 24 #[.pointer (some ⟨t, 0, none⟩), .pointer (some ⟨r, 0, none⟩), .agg #[.int .u8 p.kind, .int .i64 p.i, .int .i64 p.n, .string p.s, p.lv]] wr fun e w' => e = .returned (.bool true) ∧ Done B W t r ls (m + 22 * (ls.length + 60)) bx w' := by
  have hr := reachBytes_lt
  have hsz : sizes ls < 3000000000000000000 := by
    have := sizes_le hy
    have : ls.length * reachBytes ≤ 20000 * reachBytes := Nat.mul_le_mul_right _ hls
    omega
  have hszl : sizes p.l < 2 ^ 60 := by
    have := sizes_le hz.l
    have : p.l.length * reachBytes ≤ 50 * reachBytes := Nat.mul_le_mul_right _ hl50
    omega
  have hss : p.s.size < 2 ^ 60 := by have := hz.s; omega
  have H1 : Hid (Two B W (wr.alloc (opObj p)) t r ls ls m ((wr.heap.size, opObj p) :: bx)) := h.box (opObj p)
  have HTb : Hid (Tb wr.heap.size (opObj p) (wr.alloc (opObj p)).drew ∧ Tb wr.heap.size (opObj p) (wr.alloc (opObj p))) := ⟨alloc_new wr _, alloc_new wr _⟩
  obtain ⟨b0, b1, b2, b3, b4⟩ := tb_cells HTb.out.2
  have rule1 : ∀ w', Tb wr.heap.size (opObj p) w' → w'.cell? ⟨wr.heap.size, 1, none⟩ = some (.int .i64 p.i) := fun _ h => (tb_cells h).2.1
  have rule2 : ∀ w', Tb wr.heap.size (opObj p) w' → w'.cell? ⟨wr.heap.size, 2, none⟩ = some (.int .i64 p.n) := fun _ h => (tb_cells h).2.2.1
  have rule3 : ∀ w', Tb wr.heap.size (opObj p) w' → w'.cell? ⟨wr.heap.size, 3, none⟩ = some (.string p.s) := fun _ h => (tb_cells h).2.2.2.1
  have rule4 : ∀ w', Tb wr.heap.size (opObj p) w' → w'.cell? ⟨wr.heap.size, 4, none⟩ = some p.lv := fun _ h => (tb_cells h).2.2.2.2
  have HO : Hid (OpOk W p ∧ OpSz p ∧ (∀ y ∈ ls, y.size ≤ reachBytes)) := ⟨hp, hz, hy⟩
  have hki : (p.kind : Int) % 10 = 0 := by omega
  have hkt : (p.kind : Int).tmod 10 = 0 := by rw [Int.tmod_eq_emod_of_nonneg (by omega)]; exact hki
  clear h hp hz hk hy
  go_enter Try.func24, Try.ntmps24
  go_wp2_with fail
  refine wp_region_noPanic ?_
  refine wp_region_held_drew (S := Tb wr.heap.size (opObj p)) (by kernel_rfl) (HTb.out.1) (fun hHeld => ?_)
  refine takeAt 0 (some 133) ?_ rfl rfl (by kernel_rfl) (by kernel_rfl) (by kernel_rfl) (fun _ _ _ h => h) (Or.inl ⟨by rfl, ?_⟩) hHeld ?_
  rotate_left
  · intro w hSw
    go_simp <;> with_reducible rfl
  try simp only [Act.put, List.setIfInBounds_toArray, List.set_cons_zero, List.set_cons_succ]
  refine takeAt 1 (some 134) ?_ rfl rfl (by kernel_rfl) (by kernel_rfl) (by kernel_rfl) (fun _ _ _ h => h) (Or.inl ⟨by rfl, ?_⟩) hHeld ?_
  rotate_left
  · intro w hSw
    go_simp <;> with_reducible rfl
  try simp only [Act.put, List.setIfInBounds_toArray, List.set_cons_zero, List.set_cons_succ]
  refine takeAt 2 (some 135) ?_ rfl rfl (by kernel_rfl) (by kernel_rfl) (by kernel_rfl) (fun _ _ _ h => h) (Or.inl ⟨by rfl, ?_⟩) hHeld ?_
  rotate_left
  · intro w hSw
    go_simp <;> with_reducible rfl
  try simp only [Act.put, List.setIfInBounds_toArray, List.set_cons_zero, List.set_cons_succ]
  refine takeAt 3 (some 136) ?_ rfl rfl (by kernel_rfl) (by kernel_rfl) (by kernel_rfl) (fun _ _ _ h => h) (Or.inl ⟨by rfl, ?_⟩) hHeld ?_
  rotate_left
  · intro w hSw
    go_simp <;> with_reducible rfl
  try simp only [Act.put, List.setIfInBounds_toArray, List.set_cons_zero, List.set_cons_succ]
  refine takeAt 4 (some 137) ?_ rfl rfl (by kernel_rfl) (by kernel_rfl) (by kernel_rfl) (fun _ _ _ h => h) (Or.inl ⟨by rfl, ?_⟩) hHeld ?_
  rotate_left
  · intro w hSw
    go_simp <;> with_reducible rfl
  try simp only [Act.put, List.setIfInBounds_toArray, List.set_cons_zero, List.set_cons_succ]
  refine takeAt 6 (some 139) ?_ rfl rfl (by kernel_rfl) (by kernel_rfl) (by kernel_rfl) (fun _ _ _ h => h) (Or.inl ⟨by rfl, ?_⟩) hHeld ?_
  rotate_left
  · intro w hSw
    go_simp <;> with_reducible rfl
  try simp only [Act.put, List.setIfInBounds_toArray, List.set_cons_zero, List.set_cons_succ]
  refine takeAt 7 (some 140) ?_ rfl rfl (by kernel_rfl) (by kernel_rfl) (by kernel_rfl) (fun _ _ _ h => h) (Or.inl ⟨by rfl, ?_⟩) hHeld ?_
  rotate_left
  · intro w hSw
    go_simp <;> with_reducible rfl
  try simp only [Act.put, List.setIfInBounds_toArray, List.set_cons_zero, List.set_cons_succ]
  refine takeAt 8 (some 141) ?_ rfl rfl (by kernel_rfl) (by kernel_rfl) (by kernel_rfl) (fun _ _ _ h => h) (Or.inl ⟨by rfl, ?_⟩) hHeld ?_
  rotate_left
  · intro w hSw
    go_simp <;> with_reducible rfl
  try simp only [Act.put, List.setIfInBounds_toArray, List.set_cons_zero, List.set_cons_succ]
  refine takeAt 9 (some 142) ?_ rfl rfl (by kernel_rfl) (by kernel_rfl) (by kernel_rfl) (fun _ _ _ h => h) (Or.inl ⟨by rfl, ?_⟩) hHeld ?_
  rotate_left
  · intro w hSw
    go_simp <;> with_reducible rfl
  try simp only [Act.put, List.setIfInBounds_toArray, List.set_cons_zero, List.set_cons_succ]
  refine takeAt 10 (some 143) ?_ rfl rfl (by kernel_rfl) (by kernel_rfl) (by kernel_rfl) (fun _ _ _ h => h) (Or.inl ⟨by rfl, ?_⟩) hHeld ?_
  rotate_left
  · intro w hSw
    go_simp <;> with_reducible rfl
  try simp only [Act.put, List.setIfInBounds_toArray, List.set_cons_zero, List.set_cons_succ]
  refine callAt 5 138 11 (vals := #[.pointer (some ⟨t, 0, none⟩), .int .i64 p.i, .string p.s]) (by kernel_rfl) rfl rfl rfl rfl (by simp [Act.eval]) Try.func11 (by kernel_rfl) (by kernel_rfl) ?_
  refine Calls.mono ((H1.out.drewN 1).tinsert (by omega) (by omega) (y := p.s) (by omega) p.i HO.out.1.i) ?_
  rintro e w2 ⟨rfl, q⟩
  have H2 : Hid _ := q
  clear q
  refine ⟨_, rfl, show Tb _ _ _ from H2.out.obj (x := (wr.heap.size, opObj p)) (by simp), fun hHeld => ?_⟩
  try simp only [Act.put, List.setIfInBounds_toArray, List.set_cons_zero, List.set_cons_succ]
  refine callAt 11 144 46 (vals := #[.pointer (some ⟨r, 0, none⟩), .int .i64 p.i, .string p.s]) (by kernel_rfl) rfl rfl rfl rfl (by simp [Act.eval]) Try.func46 (by kernel_rfl) (by kernel_rfl) ?_
  refine Calls.mono (H2.out.rinsert (by omega) p.s p.i HO.out.1.i) ?_
  rintro e w3 ⟨rfl, q⟩
  have H3 : Hid _ := q
  clear q
  refine ⟨_, rfl, show Tb _ _ _ from H3.out.obj (x := (wr.heap.size, opObj p)) (by simp), fun hHeld => ?_⟩
  try simp only [Act.put, List.setIfInBounds_toArray, List.set_cons_zero, List.set_cons_succ]
  obtain ⟨R, hR⟩ : ∃ R, may ls p.i 0 = R := ⟨_, rfl⟩
  rw [hR]
  clear hR
  refine takeAt 12 (some 145) ?_ rfl rfl (by kernel_rfl) (by kernel_rfl) (by kernel_rfl) (fun _ _ _ h => h) (Or.inl ⟨by rfl, ?_⟩) hHeld ?_
  rotate_left
  · intro w hSw
    go_simp <;> with_reducible rfl
  try simp only [Act.put, List.setIfInBounds_toArray, List.set_cons_zero, List.set_cons_succ]
  refine takeAt 13 (some 6) ?_ rfl rfl (by kernel_rfl) (by kernel_rfl) (by kernel_rfl) (fun _ _ _ h => h) (Or.inl ⟨by rfl, ?_⟩) hHeld ?_
  rotate_left
  · intro w hSw
    go_simp <;> with_reducible rfl
  try simp only [Act.put, List.setIfInBounds_toArray, List.set_cons_zero, List.set_cons_succ]
  refine wpAnyH_done (by kernel_rfl) ?_ _
  refine NoPanic.normal ?_
  go_wp2_with fail
  go_ret
  exact ⟨by simp, done_spliced H3.out (by omega) (by simp) HO.out.2.2 (by intro y hy; simp at hy; rw [hy]; exact HO.out.2.1.s)⟩
set_option maxHeartbeats 4000000 in
set_option maxRecDepth 100000 in
theorem does_1 {bx : List (Nat × Obj)} (h : Two B W wr t r ls ls m bx) (hBW : B = W.heap.size) (p : OpD) (hp : OpOk W p) (hz : OpSz p) (hl50 : p.l.length ≤ 50) (hls : ls.length ≤ 20000) (hm : m + 22 * (ls.length + 60) < 70000000) (hy : ∀ y ∈ ls, y.size ≤ reachBytes) (hk : p.kind % 10 = 1) :
    Calls Try.prog 24 #[.pointer (some ⟨t, 0, none⟩), .pointer (some ⟨r, 0, none⟩), .agg #[.int .u8 p.kind, .int .i64 p.i, .int .i64 p.n, .string p.s, p.lv]] wr fun e w' => e = .returned (.bool true) ∧ Done B W t r ls (m + 22 * (ls.length + 60)) bx w' := by
  have hr := reachBytes_lt
  have hsz : sizes ls < 3000000000000000000 := by
    have := sizes_le hy
    have : ls.length * reachBytes ≤ 20000 * reachBytes := Nat.mul_le_mul_right _ hls
    omega
  have hszl : sizes p.l < 2 ^ 60 := by
    have := sizes_le hz.l
    have : p.l.length * reachBytes ≤ 50 * reachBytes := Nat.mul_le_mul_right _ hl50
    omega
  have hss : p.s.size < 2 ^ 60 := by have := hz.s; omega
  have H1 : Hid (Two B W (wr.alloc (opObj p)) t r ls ls m ((wr.heap.size, opObj p) :: bx)) := h.box (opObj p)
  have HTb : Hid (Tb wr.heap.size (opObj p) (wr.alloc (opObj p)).drew ∧ Tb wr.heap.size (opObj p) (wr.alloc (opObj p))) := ⟨alloc_new wr _, alloc_new wr _⟩
  obtain ⟨b0, b1, b2, b3, b4⟩ := tb_cells HTb.out.2
  have rule1 : ∀ w', Tb wr.heap.size (opObj p) w' → w'.cell? ⟨wr.heap.size, 1, none⟩ = some (.int .i64 p.i) := fun _ h => (tb_cells h).2.1
  have rule2 : ∀ w', Tb wr.heap.size (opObj p) w' → w'.cell? ⟨wr.heap.size, 2, none⟩ = some (.int .i64 p.n) := fun _ h => (tb_cells h).2.2.1
  have rule3 : ∀ w', Tb wr.heap.size (opObj p) w' → w'.cell? ⟨wr.heap.size, 3, none⟩ = some (.string p.s) := fun _ h => (tb_cells h).2.2.2.1
  have rule4 : ∀ w', Tb wr.heap.size (opObj p) w' → w'.cell? ⟨wr.heap.size, 4, none⟩ = some p.lv := fun _ h => (tb_cells h).2.2.2.2
  have HO : Hid (OpOk W p ∧ OpSz p ∧ (∀ y ∈ ls, y.size ≤ reachBytes)) := ⟨hp, hz, hy⟩
  have hki : (p.kind : Int) % 10 = 1 := by omega
  have hkt : (p.kind : Int).tmod 10 = 1 := by rw [Int.tmod_eq_emod_of_nonneg (by omega)]; exact hki
  clear h hp hz hk hy
  go_enter Try.func24, Try.ntmps24
  go_wp2_with fail
  refine wp_region_noPanic ?_
  refine wp_region_held_drew (S := Tb wr.heap.size (opObj p)) (by kernel_rfl) (HTb.out.1) (fun hHeld => ?_)
  refine takeAt 0 (some 133) ?_ rfl rfl (by kernel_rfl) (by kernel_rfl) (by kernel_rfl) (fun _ _ _ h => h) (Or.inl ⟨by rfl, ?_⟩) hHeld ?_
  rotate_left
  · intro w hSw
    go_simp <;> with_reducible rfl
  try simp only [Act.put, List.setIfInBounds_toArray, List.set_cons_zero, List.set_cons_succ]
  refine takeAt 1 (some 134) ?_ rfl rfl (by kernel_rfl) (by kernel_rfl) (by kernel_rfl) (fun _ _ _ h => h) (Or.inl ⟨by rfl, ?_⟩) hHeld ?_
  rotate_left
  · intro w hSw
    go_simp <;> with_reducible rfl
  try simp only [Act.put, List.setIfInBounds_toArray, List.set_cons_zero, List.set_cons_succ]
  refine takeAt 2 (some 135) ?_ rfl rfl (by kernel_rfl) (by kernel_rfl) (by kernel_rfl) (fun _ _ _ h => h) (Or.inl ⟨by rfl, ?_⟩) hHeld ?_
  rotate_left
  · intro w hSw
    go_simp <;> with_reducible rfl
  try simp only [Act.put, List.setIfInBounds_toArray, List.set_cons_zero, List.set_cons_succ]
  refine takeAt 3 (some 136) ?_ rfl rfl (by kernel_rfl) (by kernel_rfl) (by kernel_rfl) (fun _ _ _ h => h) (Or.inl ⟨by rfl, ?_⟩) hHeld ?_
  rotate_left
  · intro w hSw
    go_simp <;> with_reducible rfl
  try simp only [Act.put, List.setIfInBounds_toArray, List.set_cons_zero, List.set_cons_succ]
  refine takeAt 4 (some 137) ?_ rfl rfl (by kernel_rfl) (by kernel_rfl) (by kernel_rfl) (fun _ _ _ h => h) (Or.inl ⟨by rfl, ?_⟩) hHeld ?_
  rotate_left
  · intro w hSw
    go_simp <;> with_reducible rfl
  try simp only [Act.put, List.setIfInBounds_toArray, List.set_cons_zero, List.set_cons_succ]
  refine takeAt 6 (some 139) ?_ rfl rfl (by kernel_rfl) (by kernel_rfl) (by kernel_rfl) (fun _ _ _ h => h) (Or.inl ⟨by rfl, ?_⟩) hHeld ?_
  rotate_left
  · intro w hSw
    go_simp <;> with_reducible rfl
  try simp only [Act.put, List.setIfInBounds_toArray, List.set_cons_zero, List.set_cons_succ]
  refine takeAt 7 (some 140) ?_ rfl rfl (by kernel_rfl) (by kernel_rfl) (by kernel_rfl) (fun _ _ _ h => h) (Or.inl ⟨by rfl, ?_⟩) hHeld ?_
  rotate_left
  · intro w hSw
    go_simp <;> with_reducible rfl
  try simp only [Act.put, List.setIfInBounds_toArray, List.set_cons_zero, List.set_cons_succ]
  refine takeAt 8 (some 141) ?_ rfl rfl (by kernel_rfl) (by kernel_rfl) (by kernel_rfl) (fun _ _ _ h => h) (Or.inl ⟨by rfl, ?_⟩) hHeld ?_
  rotate_left
  · intro w hSw
    go_simp <;> with_reducible rfl
  try simp only [Act.put, List.setIfInBounds_toArray, List.set_cons_zero, List.set_cons_succ]
  refine takeAt 9 (some 142) ?_ rfl rfl (by kernel_rfl) (by kernel_rfl) (by kernel_rfl) (fun _ _ _ h => h) (Or.inl ⟨by rfl, ?_⟩) hHeld ?_
  rotate_left
  · intro w hSw
    go_simp <;> with_reducible rfl
  try simp only [Act.put, List.setIfInBounds_toArray, List.set_cons_zero, List.set_cons_succ]
  refine takeAt 10 (some 143) ?_ rfl rfl (by kernel_rfl) (by kernel_rfl) (by kernel_rfl) (fun _ _ _ h => h) (Or.inl ⟨by rfl, ?_⟩) hHeld ?_
  rotate_left
  · intro w hSw
    go_simp <;> with_reducible rfl
  try simp only [Act.put, List.setIfInBounds_toArray, List.set_cons_zero, List.set_cons_succ]
  refine callAt 5 138 11 (vals := #[.pointer (some ⟨t, 0, none⟩), .int .i64 p.i, .string p.s]) (by kernel_rfl) rfl rfl rfl rfl (by simp [Act.eval]) Try.func11 (by kernel_rfl) (by kernel_rfl) ?_
  refine Calls.mono ((H1.out.drewN 1).tinsert (by omega) (by omega) (y := p.s) (by omega) p.i HO.out.1.i) ?_
  rintro e w2 ⟨rfl, q⟩
  have H2 : Hid _ := q
  clear q
  refine ⟨_, rfl, show Tb _ _ _ from H2.out.obj (x := (wr.heap.size, opObj p)) (by simp), fun hHeld => ?_⟩
  try simp only [Act.put, List.setIfInBounds_toArray, List.set_cons_zero, List.set_cons_succ]
  refine callAt 11 144 46 (vals := #[.pointer (some ⟨r, 0, none⟩), .int .i64 p.i, .string p.s]) (by kernel_rfl) rfl rfl rfl rfl (by simp [Act.eval]) Try.func46 (by kernel_rfl) (by kernel_rfl) ?_
  refine Calls.mono (H2.out.rinsert (by omega) p.s p.i HO.out.1.i) ?_
  rintro e w3 ⟨rfl, q⟩
  have H3 : Hid _ := q
  clear q
  refine ⟨_, rfl, show Tb _ _ _ from H3.out.obj (x := (wr.heap.size, opObj p)) (by simp), fun hHeld => ?_⟩
  try simp only [Act.put, List.setIfInBounds_toArray, List.set_cons_zero, List.set_cons_succ]
  obtain ⟨R, hR⟩ : ∃ R, may ls p.i 0 = R := ⟨_, rfl⟩
  rw [hR]
  clear hR
  refine takeAt 12 (some 145) ?_ rfl rfl (by kernel_rfl) (by kernel_rfl) (by kernel_rfl) (fun _ _ _ h => h) (Or.inl ⟨by rfl, ?_⟩) hHeld ?_
  rotate_left
  · intro w hSw
    go_simp <;> with_reducible rfl
  try simp only [Act.put, List.setIfInBounds_toArray, List.set_cons_zero, List.set_cons_succ]
  refine takeAt 13 (some 6) ?_ rfl rfl (by kernel_rfl) (by kernel_rfl) (by kernel_rfl) (fun _ _ _ h => h) (Or.inl ⟨by rfl, ?_⟩) hHeld ?_
  rotate_left
  · intro w hSw
    go_simp <;> with_reducible rfl
  try simp only [Act.put, List.setIfInBounds_toArray, List.set_cons_zero, List.set_cons_succ]
  refine wpAnyH_done (by kernel_rfl) ?_ _
  refine NoPanic.normal ?_
  go_wp2_with fail
  go_ret
  exact ⟨by simp, done_spliced H3.out (by omega) (by simp) HO.out.2.2 (by intro y hy; simp at hy; rw [hy]; exact HO.out.2.1.s)⟩
set_option maxHeartbeats 4000000 in
set_option maxRecDepth 100000 in
theorem does_2 {bx : List (Nat × Obj)} (h : Two B W wr t r ls ls m bx) (hBW : B = W.heap.size) (p : OpD) (hp : OpOk W p) (hz : OpSz p) (hl50 : p.l.length ≤ 50) (hls : ls.length ≤ 20000) (hm : m + 22 * (ls.length + 60) < 70000000) (hy : ∀ y ∈ ls, y.size ≤ reachBytes) (hk : p.kind % 10 = 2) :
    Calls Try.prog 24 #[.pointer (some ⟨t, 0, none⟩), .pointer (some ⟨r, 0, none⟩), .agg #[.int .u8 p.kind, .int .i64 p.i, .int .i64 p.n, .string p.s, p.lv]] wr fun e w' => e = .returned (.bool true) ∧ Done B W t r ls (m + 22 * (ls.length + 60)) bx w' := by
  have hr := reachBytes_lt
  have hsz : sizes ls < 3000000000000000000 := by
    have := sizes_le hy
    have : ls.length * reachBytes ≤ 20000 * reachBytes := Nat.mul_le_mul_right _ hls
    omega
  have hszl : sizes p.l < 2 ^ 60 := by
    have := sizes_le hz.l
    have : p.l.length * reachBytes ≤ 50 * reachBytes := Nat.mul_le_mul_right _ hl50
    omega
  have hss : p.s.size < 2 ^ 60 := by have := hz.s; omega
  have H1 : Hid (Two B W (wr.alloc (opObj p)) t r ls ls m ((wr.heap.size, opObj p) :: bx)) := h.box (opObj p)
  have HTb : Hid (Tb wr.heap.size (opObj p) (wr.alloc (opObj p)).drew ∧ Tb wr.heap.size (opObj p) (wr.alloc (opObj p))) := ⟨alloc_new wr _, alloc_new wr _⟩
  obtain ⟨b0, b1, b2, b3, b4⟩ := tb_cells HTb.out.2
  have rule1 : ∀ w', Tb wr.heap.size (opObj p) w' → w'.cell? ⟨wr.heap.size, 1, none⟩ = some (.int .i64 p.i) := fun _ h => (tb_cells h).2.1
  have rule2 : ∀ w', Tb wr.heap.size (opObj p) w' → w'.cell? ⟨wr.heap.size, 2, none⟩ = some (.int .i64 p.n) := fun _ h => (tb_cells h).2.2.1
  have rule3 : ∀ w', Tb wr.heap.size (opObj p) w' → w'.cell? ⟨wr.heap.size, 3, none⟩ = some (.string p.s) := fun _ h => (tb_cells h).2.2.2.1
  have rule4 : ∀ w', Tb wr.heap.size (opObj p) w' → w'.cell? ⟨wr.heap.size, 4, none⟩ = some p.lv := fun _ h => (tb_cells h).2.2.2.2
  have HO : Hid (OpOk W p ∧ OpSz p ∧ (∀ y ∈ ls, y.size ≤ reachBytes)) := ⟨hp, hz, hy⟩
  have hki : (p.kind : Int) % 10 = 2 := by omega
  have hkt : (p.kind : Int).tmod 10 = 2 := by rw [Int.tmod_eq_emod_of_nonneg (by omega)]; exact hki
  clear h hp hz hk hy
  go_enter Try.func24, Try.ntmps24
  go_wp2_with fail
  refine wp_region_noPanic ?_
  refine wp_region_held_drew (S := Tb wr.heap.size (opObj p)) (by kernel_rfl) (HTb.out.1) (fun hHeld => ?_)
  refine takeAt 0 (some 133) ?_ rfl rfl (by kernel_rfl) (by kernel_rfl) (by kernel_rfl) (fun _ _ _ h => h) (Or.inl ⟨by rfl, ?_⟩) hHeld ?_
  rotate_left
  · intro w hSw
    go_simp <;> with_reducible rfl
  try simp only [Act.put, List.setIfInBounds_toArray, List.set_cons_zero, List.set_cons_succ]
  refine takeAt 1 (some 134) ?_ rfl rfl (by kernel_rfl) (by kernel_rfl) (by kernel_rfl) (fun _ _ _ h => h) (Or.inl ⟨by rfl, ?_⟩) hHeld ?_
  rotate_left
  · intro w hSw
    go_simp <;> with_reducible rfl
  try simp only [Act.put, List.setIfInBounds_toArray, List.set_cons_zero, List.set_cons_succ]
  refine takeAt 2 (some 135) ?_ rfl rfl (by kernel_rfl) (by kernel_rfl) (by kernel_rfl) (fun _ _ _ h => h) (Or.inl ⟨by rfl, ?_⟩) hHeld ?_
  rotate_left
  · intro w hSw
    go_simp <;> with_reducible rfl
  try simp only [Act.put, List.setIfInBounds_toArray, List.set_cons_zero, List.set_cons_succ]
  refine takeAt 3 (some 136) ?_ rfl rfl (by kernel_rfl) (by kernel_rfl) (by kernel_rfl) (fun _ _ _ h => h) (Or.inl ⟨by rfl, ?_⟩) hHeld ?_
  rotate_left
  · intro w hSw
    go_simp <;> with_reducible rfl
  try simp only [Act.put, List.setIfInBounds_toArray, List.set_cons_zero, List.set_cons_succ]
  refine takeAt 4 (some 137) ?_ rfl rfl (by kernel_rfl) (by kernel_rfl) (by kernel_rfl) (fun _ _ _ h => h) (Or.inl ⟨by rfl, ?_⟩) hHeld ?_
  rotate_left
  · intro w hSw
    go_simp <;> with_reducible rfl
  try simp only [Act.put, List.setIfInBounds_toArray, List.set_cons_zero, List.set_cons_succ]
  refine takeAt 6 (some 139) ?_ rfl rfl (by kernel_rfl) (by kernel_rfl) (by kernel_rfl) (fun _ _ _ h => h) (Or.inl ⟨by rfl, ?_⟩) hHeld ?_
  rotate_left
  · intro w hSw
    go_simp <;> with_reducible rfl
  try simp only [Act.put, List.setIfInBounds_toArray, List.set_cons_zero, List.set_cons_succ]
  refine takeAt 7 (some 140) ?_ rfl rfl (by kernel_rfl) (by kernel_rfl) (by kernel_rfl) (fun _ _ _ h => h) (Or.inl ⟨by rfl, ?_⟩) hHeld ?_
  rotate_left
  · intro w hSw
    go_simp <;> with_reducible rfl
  try simp only [Act.put, List.setIfInBounds_toArray, List.set_cons_zero, List.set_cons_succ]
  refine takeAt 8 (some 141) ?_ rfl rfl (by kernel_rfl) (by kernel_rfl) (by kernel_rfl) (fun _ _ _ h => h) (Or.inl ⟨by rfl, ?_⟩) hHeld ?_
  rotate_left
  · intro w hSw
    go_simp <;> with_reducible rfl
  try simp only [Act.put, List.setIfInBounds_toArray, List.set_cons_zero, List.set_cons_succ]
  refine takeAt 9 (some 142) ?_ rfl rfl (by kernel_rfl) (by kernel_rfl) (by kernel_rfl) (fun _ _ _ h => h) (Or.inl ⟨by rfl, ?_⟩) hHeld ?_
  rotate_left
  · intro w hSw
    go_simp <;> with_reducible rfl
  try simp only [Act.put, List.setIfInBounds_toArray, List.set_cons_zero, List.set_cons_succ]
  refine takeAt 10 (some 143) ?_ rfl rfl (by kernel_rfl) (by kernel_rfl) (by kernel_rfl) (fun _ _ _ h => h) (Or.inl ⟨by rfl, ?_⟩) hHeld ?_
  rotate_left
  · intro w hSw
    go_simp <;> with_reducible rfl
  try simp only [Act.put, List.setIfInBounds_toArray, List.set_cons_zero, List.set_cons_succ]
  refine callAt 5 138 11 (vals := #[.pointer (some ⟨t, 0, none⟩), .int .i64 p.i, .string p.s]) (by kernel_rfl) rfl rfl rfl rfl (by simp [Act.eval]) Try.func11 (by kernel_rfl) (by kernel_rfl) ?_
  refine Calls.mono ((H1.out.drewN 1).tinsert (by omega) (by omega) (y := p.s) (by omega) p.i HO.out.1.i) ?_
  rintro e w2 ⟨rfl, q⟩
  have H2 : Hid _ := q
  clear q
  refine ⟨_, rfl, show Tb _ _ _ from H2.out.obj (x := (wr.heap.size, opObj p)) (by simp), fun hHeld => ?_⟩
  try simp only [Act.put, List.setIfInBounds_toArray, List.set_cons_zero, List.set_cons_succ]
  refine callAt 11 144 46 (vals := #[.pointer (some ⟨r, 0, none⟩), .int .i64 p.i, .string p.s]) (by kernel_rfl) rfl rfl rfl rfl (by simp [Act.eval]) Try.func46 (by kernel_rfl) (by kernel_rfl) ?_
  refine Calls.mono (H2.out.rinsert (by omega) p.s p.i HO.out.1.i) ?_
  rintro e w3 ⟨rfl, q⟩
  have H3 : Hid _ := q
  clear q
  refine ⟨_, rfl, show Tb _ _ _ from H3.out.obj (x := (wr.heap.size, opObj p)) (by simp), fun hHeld => ?_⟩
  try simp only [Act.put, List.setIfInBounds_toArray, List.set_cons_zero, List.set_cons_succ]
  obtain ⟨R, hR⟩ : ∃ R, may ls p.i 0 = R := ⟨_, rfl⟩
  rw [hR]
  clear hR
  refine takeAt 12 (some 145) ?_ rfl rfl (by kernel_rfl) (by kernel_rfl) (by kernel_rfl) (fun _ _ _ h => h) (Or.inl ⟨by rfl, ?_⟩) hHeld ?_
  rotate_left
  · intro w hSw
    go_simp <;> with_reducible rfl
  try simp only [Act.put, List.setIfInBounds_toArray, List.set_cons_zero, List.set_cons_succ]
  refine takeAt 13 (some 6) ?_ rfl rfl (by kernel_rfl) (by kernel_rfl) (by kernel_rfl) (fun _ _ _ h => h) (Or.inl ⟨by rfl, ?_⟩) hHeld ?_
  rotate_left
  · intro w hSw
    go_simp <;> with_reducible rfl
  try simp only [Act.put, List.setIfInBounds_toArray, List.set_cons_zero, List.set_cons_succ]
  refine wpAnyH_done (by kernel_rfl) ?_ _
  refine NoPanic.normal ?_
  go_wp2_with fail
  go_ret
  exact ⟨by simp, done_spliced H3.out (by omega) (by simp) HO.out.2.2 (by intro y hy; simp at hy; rw [hy]; exact HO.out.2.1.s)⟩
set_option maxHeartbeats 4000000 in
set_option maxRecDepth 100000 in
theorem does_3 {bx : List (Nat × Obj)} (h : Two B W wr t r ls ls m bx) (hBW : B = W.heap.size) (p : OpD) (hp : OpOk W p) (hz : OpSz p) (hl50 : p.l.length ≤ 50) (hls : ls.length ≤ 20000) (hm : m + 22 * (ls.length + 60) < 70000000) (hy : ∀ y ∈ ls, y.size ≤ reachBytes) (hk : p.kind % 10 = 3) :
    Calls Try.prog 24 #[.pointer (some ⟨t, 0, none⟩), .pointer (some ⟨r, 0, none⟩), .agg #[.int .u8 p.kind, .int .i64 p.i, .int .i64 p.n, .string p.s, p.lv]] wr fun e w' => e = .returned (.bool true) ∧ Done B W t r ls (m + 22 * (ls.length + 60)) bx w' := by
  have hr := reachBytes_lt
  have hsz : sizes ls < 3000000000000000000 := by
    have := sizes_le hy
    have : ls.length * reachBytes ≤ 20000 * reachBytes := Nat.mul_le_mul_right _ hls
    omega
  have hszl : sizes p.l < 2 ^ 60 := by
    have := sizes_le hz.l
    have : p.l.length * reachBytes ≤ 50 * reachBytes := Nat.mul_le_mul_right _ hl50
    omega
  have hss : p.s.size < 2 ^ 60 := by have := hz.s; omega
  have H1 : Hid (Two B W (wr.alloc (opObj p)) t r ls ls m ((wr.heap.size, opObj p) :: bx)) := h.box (opObj p)
  have HTb : Hid (Tb wr.heap.size (opObj p) (wr.alloc (opObj p)).drew ∧ Tb wr.heap.size (opObj p) (wr.alloc (opObj p))) := ⟨alloc_new wr _, alloc_new wr _⟩
  obtain ⟨b0, b1, b2, b3, b4⟩ := tb_cells HTb.out.2
  have rule1 : ∀ w', Tb wr.heap.size (opObj p) w' → w'.cell? ⟨wr.heap.size, 1, none⟩ = some (.int .i64 p.i) := fun _ h => (tb_cells h).2.1
  have rule2 : ∀ w', Tb wr.heap.size (opObj p) w' → w'.cell? ⟨wr.heap.size, 2, none⟩ = some (.int .i64 p.n) := fun _ h => (tb_cells h).2.2.1
  have rule3 : ∀ w', Tb wr.heap.size (opObj p) w' → w'.cell? ⟨wr.heap.size, 3, none⟩ = some (.string p.s) := fun _ h => (tb_cells h).2.2.2.1
  have rule4 : ∀ w', Tb wr.heap.size (opObj p) w' → w'.cell? ⟨wr.heap.size, 4, none⟩ = some p.lv := fun _ h => (tb_cells h).2.2.2.2
  have HO : Hid (OpOk W p ∧ OpSz p ∧ (∀ y ∈ ls, y.size ≤ reachBytes)) := ⟨hp, hz, hy⟩
  have hki : (p.kind : Int) % 10 = 3 := by omega
  have hkt : (p.kind : Int).tmod 10 = 3 := by rw [Int.tmod_eq_emod_of_nonneg (by omega)]; exact hki
  clear h hp hz hk hy
  go_enter Try.func24, Try.ntmps24
  go_wp2_with fail
  refine wp_region_noPanic ?_
  refine wp_region_held_drew (S := Tb wr.heap.size (opObj p)) (by kernel_rfl) (HTb.out.1) (fun hHeld => ?_)
  refine takeAt 0 (some 22) ?_ rfl rfl (by kernel_rfl) (by kernel_rfl) (by kernel_rfl) (fun _ _ _ h => h) (Or.inl ⟨by rfl, ?_⟩) hHeld ?_
  rotate_left
  · intro w hSw
    go_simp <;> with_reducible rfl
  try simp only [Act.put, List.setIfInBounds_toArray, List.set_cons_zero, List.set_cons_succ]
  refine takeAt 1 (some 23) ?_ rfl rfl (by kernel_rfl) (by kernel_rfl) (by kernel_rfl) (fun _ _ _ h => h) (Or.inl ⟨by rfl, ?_⟩) hHeld ?_
  rotate_left
  · intro w hSw
    go_simp <;> with_reducible rfl
  try simp only [Act.put, List.setIfInBounds_toArray, List.set_cons_zero, List.set_cons_succ]
  refine takeAt 2 (some 24) ?_ rfl rfl (by kernel_rfl) (by kernel_rfl) (by kernel_rfl) (fun _ _ _ h => h) (Or.inl ⟨by rfl, ?_⟩) hHeld ?_
  rotate_left
  · intro w hSw
    go_simp <;> with_reducible rfl
  try simp only [Act.put, List.setIfInBounds_toArray, List.set_cons_zero, List.set_cons_succ]
  refine takeAt 4 (some 26) ?_ rfl rfl (by kernel_rfl) (by kernel_rfl) (by kernel_rfl) (fun _ _ _ h => h) (Or.inl ⟨by rfl, ?_⟩) hHeld ?_
  rotate_left
  · intro w hSw
    go_simp <;> with_reducible rfl
  try simp only [Act.put, List.setIfInBounds_toArray, List.set_cons_zero, List.set_cons_succ]
  refine takeAt 5 (some 27) ?_ rfl rfl (by kernel_rfl) (by kernel_rfl) (by kernel_rfl) (fun _ _ _ h => h) (Or.inl ⟨by rfl, ?_⟩) hHeld ?_
  rotate_left
  · intro w hSw
    go_simp <;> with_reducible rfl
  try simp only [Act.put, List.setIfInBounds_toArray, List.set_cons_zero, List.set_cons_succ]
  refine takeAt 6 (some 28) ?_ rfl rfl (by kernel_rfl) (by kernel_rfl) (by kernel_rfl) (fun _ _ _ h => h) (Or.inl ⟨by rfl, ?_⟩) hHeld ?_
  rotate_left
  · intro w hSw
    go_simp <;> with_reducible rfl
  try simp only [Act.put, List.setIfInBounds_toArray, List.set_cons_zero, List.set_cons_succ]
  refine callAt 3 25 17 (vals := #[.pointer (some ⟨t, 0, none⟩), .int .i64 p.i]) (by kernel_rfl) rfl rfl rfl rfl (by simp [Act.eval]) Try.func17 (by kernel_rfl) (by kernel_rfl) ?_
  refine Calls.mono ((H1.out.drewN 1).tdelete (by omega) (by omega) (by omega) p.i HO.out.1.i) ?_
  rintro e w2 ⟨rfl, q⟩
  have H2 : Hid _ := q
  clear q
  refine ⟨_, rfl, show Tb _ _ _ from H2.out.obj (x := (wr.heap.size, opObj p)) (by simp), fun hHeld => ?_⟩
  try simp only [Act.put, List.setIfInBounds_toArray, List.set_cons_zero, List.set_cons_succ]
  refine callAt 7 29 41 (vals := #[.pointer (some ⟨r, 0, none⟩), .int .i64 p.i]) (by kernel_rfl) rfl rfl rfl rfl (by simp [Act.eval]) Try.func41 (by kernel_rfl) (by kernel_rfl) ?_
  refine Calls.mono (H2.out.rdelete (by omega) p.i HO.out.1.i) ?_
  rintro e w3 ⟨rfl, q⟩
  have H3 : Hid _ := q
  clear q
  refine ⟨_, rfl, show Tb _ _ _ from H3.out.obj (x := (wr.heap.size, opObj p)) (by simp), fun hHeld => ?_⟩
  try simp only [Act.put, List.setIfInBounds_toArray, List.set_cons_zero, List.set_cons_succ]
  obtain ⟨R, hR⟩ : ∃ R, may ls p.i 1 = R := ⟨_, rfl⟩
  rw [hR]
  clear hR
  refine takeAt 8 (some 30) ?_ rfl rfl (by kernel_rfl) (by kernel_rfl) (by kernel_rfl) (fun _ _ _ h => h) (Or.inl ⟨by rfl, ?_⟩) hHeld ?_
  rotate_left
  · intro w hSw
    go_simp <;> with_reducible rfl
  try simp only [Act.put, List.setIfInBounds_toArray, List.set_cons_zero, List.set_cons_succ]
  refine takeAt 9 (some 6) ?_ rfl rfl (by kernel_rfl) (by kernel_rfl) (by kernel_rfl) (fun _ _ _ h => h) (Or.inl ⟨by rfl, ?_⟩) hHeld ?_
  rotate_left
  · intro w hSw
    go_simp <;> with_reducible rfl
  try simp only [Act.put, List.setIfInBounds_toArray, List.set_cons_zero, List.set_cons_succ]
  refine wpAnyH_done (by kernel_rfl) ?_ _
  refine NoPanic.normal ?_
  go_wp2_with fail
  go_ret
  exact ⟨by simp, done_spliced H3.out (by omega) (by simp) HO.out.2.2 (by intro y hy; cases hy)⟩
set_option maxHeartbeats 4000000 in
set_option maxRecDepth 100000 in
theorem does_4 {bx : List (Nat × Obj)} (h : Two B W wr t r ls ls m bx) (hBW : B = W.heap.size) (p : OpD) (hp : OpOk W p) (hz : OpSz p) (hl50 : p.l.length ≤ 50) (hls : ls.length ≤ 20000) (hm : m + 22 * (ls.length + 60) < 70000000) (hy : ∀ y ∈ ls, y.size ≤ reachBytes) (hk : p.kind % 10 = 4) :
    Calls Try.prog 24 #[.pointer (some ⟨t, 0, none⟩), .pointer (some ⟨r, 0, none⟩), .agg #[.int .u8 p.kind, .int .i64 p.i, .int .i64 p.n, .string p.s, p.lv]] wr fun e w' => e = .returned (.bool true) ∧ Done B W t r ls (m + 22 * (ls.length + 60)) bx w' := by
  have hr := reachBytes_lt
  have hsz : sizes ls < 3000000000000000000 := by
    have := sizes_le hy
    have : ls.length * reachBytes ≤ 20000 * reachBytes := Nat.mul_le_mul_right _ hls
    omega
  have hszl : sizes p.l < 2 ^ 60 := by
    have := sizes_le hz.l
    have : p.l.length * reachBytes ≤ 50 * reachBytes := Nat.mul_le_mul_right _ hl50
    omega
  have hss : p.s.size < 2 ^ 60 := by have := hz.s; omega
  have H1 : Hid (Two B W (wr.alloc (opObj p)) t r ls ls m ((wr.heap.size, opObj p) :: bx)) := h.box (opObj p)
  have HTb : Hid (Tb wr.heap.size (opObj p) (wr.alloc (opObj p)).drew ∧ Tb wr.heap.size (opObj p) (wr.alloc (opObj p))) := ⟨alloc_new wr _, alloc_new wr _⟩
  obtain ⟨b0, b1, b2, b3, b4⟩ := tb_cells HTb.out.2
  have rule1 : ∀ w', Tb wr.heap.size (opObj p) w' → w'.cell? ⟨wr.heap.size, 1, none⟩ = some (.int .i64 p.i) := fun _ h => (tb_cells h).2.1
  have rule2 : ∀ w', Tb wr.heap.size (opObj p) w' → w'.cell? ⟨wr.heap.size, 2, none⟩ = some (.int .i64 p.n) := fun _ h => (tb_cells h).2.2.1
  have rule3 : ∀ w', Tb wr.heap.size (opObj p) w' → w'.cell? ⟨wr.heap.size, 3, none⟩ = some (.string p.s) := fun _ h => (tb_cells h).2.2.2.1
  have rule4 : ∀ w', Tb wr.heap.size (opObj p) w' → w'.cell? ⟨wr.heap.size, 4, none⟩ = some p.lv := fun _ h => (tb_cells h).2.2.2.2
  have HO : Hid (OpOk W p ∧ OpSz p ∧ (∀ y ∈ ls, y.size ≤ reachBytes)) := ⟨hp, hz, hy⟩
  have hki : (p.kind : Int) % 10 = 4 := by omega
  have hkt : (p.kind : Int).tmod 10 = 4 := by rw [Int.tmod_eq_emod_of_nonneg (by omega)]; exact hki
  clear h hp hz hk hy
  go_enter Try.func24, Try.ntmps24
  go_wp2_with fail
  refine wp_region_noPanic ?_
  refine wp_region_held_drew (S := Tb wr.heap.size (opObj p)) (by kernel_rfl) (HTb.out.1) (fun hHeld => ?_)
  refine takeAt 0 (some 22) ?_ rfl rfl (by kernel_rfl) (by kernel_rfl) (by kernel_rfl) (fun _ _ _ h => h) (Or.inl ⟨by rfl, ?_⟩) hHeld ?_
  rotate_left
  · intro w hSw
    go_simp <;> with_reducible rfl
  try simp only [Act.put, List.setIfInBounds_toArray, List.set_cons_zero, List.set_cons_succ]
  refine takeAt 1 (some 23) ?_ rfl rfl (by kernel_rfl) (by kernel_rfl) (by kernel_rfl) (fun _ _ _ h => h) (Or.inl ⟨by rfl, ?_⟩) hHeld ?_
  rotate_left
  · intro w hSw
    go_simp <;> with_reducible rfl
  try simp only [Act.put, List.setIfInBounds_toArray, List.set_cons_zero, List.set_cons_succ]
  refine takeAt 2 (some 24) ?_ rfl rfl (by kernel_rfl) (by kernel_rfl) (by kernel_rfl) (fun _ _ _ h => h) (Or.inl ⟨by rfl, ?_⟩) hHeld ?_
  rotate_left
  · intro w hSw
    go_simp <;> with_reducible rfl
  try simp only [Act.put, List.setIfInBounds_toArray, List.set_cons_zero, List.set_cons_succ]
  refine takeAt 4 (some 26) ?_ rfl rfl (by kernel_rfl) (by kernel_rfl) (by kernel_rfl) (fun _ _ _ h => h) (Or.inl ⟨by rfl, ?_⟩) hHeld ?_
  rotate_left
  · intro w hSw
    go_simp <;> with_reducible rfl
  try simp only [Act.put, List.setIfInBounds_toArray, List.set_cons_zero, List.set_cons_succ]
  refine takeAt 5 (some 27) ?_ rfl rfl (by kernel_rfl) (by kernel_rfl) (by kernel_rfl) (fun _ _ _ h => h) (Or.inl ⟨by rfl, ?_⟩) hHeld ?_
  rotate_left
  · intro w hSw
    go_simp <;> with_reducible rfl
  try simp only [Act.put, List.setIfInBounds_toArray, List.set_cons_zero, List.set_cons_succ]
  refine takeAt 6 (some 28) ?_ rfl rfl (by kernel_rfl) (by kernel_rfl) (by kernel_rfl) (fun _ _ _ h => h) (Or.inl ⟨by rfl, ?_⟩) hHeld ?_
  rotate_left
  · intro w hSw
    go_simp <;> with_reducible rfl
  try simp only [Act.put, List.setIfInBounds_toArray, List.set_cons_zero, List.set_cons_succ]
  refine callAt 3 25 17 (vals := #[.pointer (some ⟨t, 0, none⟩), .int .i64 p.i]) (by kernel_rfl) rfl rfl rfl rfl (by simp [Act.eval]) Try.func17 (by kernel_rfl) (by kernel_rfl) ?_
  refine Calls.mono ((H1.out.drewN 1).tdelete (by omega) (by omega) (by omega) p.i HO.out.1.i) ?_
  rintro e w2 ⟨rfl, q⟩
  have H2 : Hid _ := q
  clear q
  refine ⟨_, rfl, show Tb _ _ _ from H2.out.obj (x := (wr.heap.size, opObj p)) (by simp), fun hHeld => ?_⟩
  try simp only [Act.put, List.setIfInBounds_toArray, List.set_cons_zero, List.set_cons_succ]
  refine callAt 7 29 41 (vals := #[.pointer (some ⟨r, 0, none⟩), .int .i64 p.i]) (by kernel_rfl) rfl rfl rfl rfl (by simp [Act.eval]) Try.func41 (by kernel_rfl) (by kernel_rfl) ?_
  refine Calls.mono (H2.out.rdelete (by omega) p.i HO.out.1.i) ?_
  rintro e w3 ⟨rfl, q⟩
  have H3 : Hid _ := q
  clear q
  refine ⟨_, rfl, show Tb _ _ _ from H3.out.obj (x := (wr.heap.size, opObj p)) (by simp), fun hHeld => ?_⟩
  try simp only [Act.put, List.setIfInBounds_toArray, List.set_cons_zero, List.set_cons_succ]
  obtain ⟨R, hR⟩ : ∃ R, may ls p.i 1 = R := ⟨_, rfl⟩
  rw [hR]
  clear hR
  refine takeAt 8 (some 30) ?_ rfl rfl (by kernel_rfl) (by kernel_rfl) (by kernel_rfl) (fun _ _ _ h => h) (Or.inl ⟨by rfl, ?_⟩) hHeld ?_
  rotate_left
  · intro w hSw
    go_simp <;> with_reducible rfl
  try simp only [Act.put, List.setIfInBounds_toArray, List.set_cons_zero, List.set_cons_succ]
  refine takeAt 9 (some 6) ?_ rfl rfl (by kernel_rfl) (by kernel_rfl) (by kernel_rfl) (fun _ _ _ h => h) (Or.inl ⟨by rfl, ?_⟩) hHeld ?_
  rotate_left
  · intro w hSw
    go_simp <;> with_reducible rfl
  try simp only [Act.put, List.setIfInBounds_toArray, List.set_cons_zero, List.set_cons_succ]
  refine wpAnyH_done (by kernel_rfl) ?_ _
  refine NoPanic.normal ?_
  go_wp2_with fail
  go_ret
  exact ⟨by simp, done_spliced H3.out (by omega) (by simp) HO.out.2.2 (by intro y hy; cases hy)⟩
set_option maxHeartbeats 4000000 in
set_option maxRecDepth 100000 in
theorem does_5 {bx : List (Nat × Obj)} (h : Two B W wr t r ls ls m bx) (hBW : B = W.heap.size) (p : OpD) (hp : OpOk W p) (hz : OpSz p) (hl50 : p.l.length ≤ 50) (hls : ls.length ≤ 20000) (hm : m + 22 * (ls.length + 60) < 70000000) (hy : ∀ y ∈ ls, y.size ≤ reachBytes) (hk : p.kind % 10 = 5) :
    Calls Try.prog 24 #[.pointer (some ⟨t, 0, none⟩), .pointer (some ⟨r, 0, none⟩), .agg #[.int .u8 p.kind, .int .i64 p.i, .int .i64 p.n, .string p.s, p.lv]] wr fun e w' => e = .returned (.bool true) ∧ Done B W t r ls (m + 22 * (ls.length + 60)) bx w' := by
  have hr := reachBytes_lt
  have hsz : sizes ls < 3000000000000000000 := by
    have := sizes_le hy
    have : ls.length * reachBytes ≤ 20000 * reachBytes := Nat.mul_le_mul_right _ hls
    omega
  have hszl : sizes p.l < 2 ^ 60 := by
    have := sizes_le hz.l
    have : p.l.length * reachBytes ≤ 50 * reachBytes := Nat.mul_le_mul_right _ hl50
    omega
  have hss : p.s.size < 2 ^ 60 := by have := hz.s; omega
  have H1 : Hid (Two B W (wr.alloc (opObj p)) t r ls ls m ((wr.heap.size, opObj p) :: bx)) := h.box (opObj p)
  have HTb : Hid (Tb wr.heap.size (opObj p) (wr.alloc (opObj p)).drew ∧ Tb wr.heap.size (opObj p) (wr.alloc (opObj p))) := ⟨alloc_new wr _, alloc_new wr _⟩
  obtain ⟨b0, b1, b2, b3, b4⟩ := tb_cells HTb.out.2
  have rule1 : ∀ w', Tb wr.heap.size (opObj p) w' → w'.cell? ⟨wr.heap.size, 1, none⟩ = some (.int .i64 p.i) := fun _ h => (tb_cells h).2.1
  have rule2 : ∀ w', Tb wr.heap.size (opObj p) w' → w'.cell? ⟨wr.heap.size, 2, none⟩ = some (.int .i64 p.n) := fun _ h => (tb_cells h).2.2.1
  have rule3 : ∀ w', Tb wr.heap.size (opObj p) w' → w'.cell? ⟨wr.heap.size, 3, none⟩ = some (.string p.s) := fun _ h => (tb_cells h).2.2.2.1
  have rule4 : ∀ w', Tb wr.heap.size (opObj p) w' → w'.cell? ⟨wr.heap.size, 4, none⟩ = some p.lv := fun _ h => (tb_cells h).2.2.2.2
  have HO : Hid (OpOk W p ∧ OpSz p ∧ (∀ y ∈ ls, y.size ≤ reachBytes)) := ⟨hp, hz, hy⟩
  have hki : (p.kind : Int) % 10 = 5 := by omega
  have hkt : (p.kind : Int).tmod 10 = 5 := by rw [Int.tmod_eq_emod_of_nonneg (by omega)]; exact hki
  clear h hp hz hk hy
  go_enter Try.func24, Try.ntmps24
  go_wp2_with fail
  refine wp_region_noPanic ?_
  refine wp_region_held_drew (S := Tb wr.heap.size (opObj p)) (by kernel_rfl) (HTb.out.1) (fun hHeld => ?_)
  refine takeAt 0 (some 33) ?_ rfl rfl (by kernel_rfl) (by kernel_rfl) (by kernel_rfl) (fun _ _ _ h => h) (Or.inl ⟨by rfl, ?_⟩) hHeld ?_
  rotate_left
  · intro w hSw
    go_simp <;> with_reducible rfl
  try simp only [Act.put, List.setIfInBounds_toArray, List.set_cons_zero, List.set_cons_succ]
  refine takeAt 1 (some 34) ?_ rfl rfl (by kernel_rfl) (by kernel_rfl) (by kernel_rfl) (fun _ _ _ h => h) (Or.inl ⟨by rfl, ?_⟩) hHeld ?_
  rotate_left
  · intro w hSw
    go_simp <;> with_reducible rfl
  try simp only [Act.put, List.setIfInBounds_toArray, List.set_cons_zero, List.set_cons_succ]
  refine takeAt 2 (some 35) ?_ rfl rfl (by kernel_rfl) (by kernel_rfl) (by kernel_rfl) (fun _ _ _ h => h) (Or.inl ⟨by rfl, ?_⟩) hHeld ?_
  rotate_left
  · intro w hSw
    go_simp <;> with_reducible rfl
  try simp only [Act.put, List.setIfInBounds_toArray, List.set_cons_zero, List.set_cons_succ]
  refine takeAt 3 (some 36) ?_ rfl rfl (by kernel_rfl) (by kernel_rfl) (by kernel_rfl) (fun _ _ _ h => h) (Or.inl ⟨by rfl, ?_⟩) hHeld ?_
  rotate_left
  · intro w hSw
    go_simp <;> with_reducible rfl
  try simp only [Act.put, List.setIfInBounds_toArray, List.set_cons_zero, List.set_cons_succ]
  refine takeAt 4 (some 37) ?_ rfl rfl (by kernel_rfl) (by kernel_rfl) (by kernel_rfl) (fun _ _ _ h => h) (Or.inl ⟨by rfl, ?_⟩) hHeld ?_
  rotate_left
  · intro w hSw
    go_simp <;> with_reducible rfl
  try simp only [Act.put, List.setIfInBounds_toArray, List.set_cons_zero, List.set_cons_succ]
  refine takeAt 6 (some 39) ?_ rfl rfl (by kernel_rfl) (by kernel_rfl) (by kernel_rfl) (fun _ _ _ h => h) (Or.inl ⟨by rfl, ?_⟩) hHeld ?_
  rotate_left
  · intro w hSw
    go_simp <;> with_reducible rfl
  try simp only [Act.put, List.setIfInBounds_toArray, List.set_cons_zero, List.set_cons_succ]
  refine takeAt 7 (some 40) ?_ rfl rfl (by kernel_rfl) (by kernel_rfl) (by kernel_rfl) (fun _ _ _ h => h) (Or.inl ⟨by rfl, ?_⟩) hHeld ?_
  rotate_left
  · intro w hSw
    go_simp <;> with_reducible rfl
  try simp only [Act.put, List.setIfInBounds_toArray, List.set_cons_zero, List.set_cons_succ]
  refine takeAt 8 (some 41) ?_ rfl rfl (by kernel_rfl) (by kernel_rfl) (by kernel_rfl) (fun _ _ _ h => h) (Or.inl ⟨by rfl, ?_⟩) hHeld ?_
  rotate_left
  · intro w hSw
    go_simp <;> with_reducible rfl
  try simp only [Act.put, List.setIfInBounds_toArray, List.set_cons_zero, List.set_cons_succ]
  refine takeAt 9 (some 42) ?_ rfl rfl (by kernel_rfl) (by kernel_rfl) (by kernel_rfl) (fun _ _ _ h => h) (Or.inl ⟨by rfl, ?_⟩) hHeld ?_
  rotate_left
  · intro w hSw
    go_simp <;> with_reducible rfl
  try simp only [Act.put, List.setIfInBounds_toArray, List.set_cons_zero, List.set_cons_succ]
  refine takeAt 10 (some 43) ?_ rfl rfl (by kernel_rfl) (by kernel_rfl) (by kernel_rfl) (fun _ _ _ h => h) (Or.inl ⟨by rfl, ?_⟩) hHeld ?_
  rotate_left
  · intro w hSw
    go_simp <;> with_reducible rfl
  try simp only [Act.put, List.setIfInBounds_toArray, List.set_cons_zero, List.set_cons_succ]
  refine callAt 5 38 21 (vals := #[.pointer (some ⟨t, 0, none⟩), .int .i64 p.i, .string p.s]) (by kernel_rfl) rfl rfl rfl rfl (by simp [Act.eval]) Try.func21 (by kernel_rfl) (by kernel_rfl) ?_
  refine Calls.mono ((H1.out.drewN 1).tset (by omega) (by omega) (y := p.s) (by omega) p.i HO.out.1.i) ?_
  rintro e w2 ⟨rfl, q⟩
  have H2 : Hid _ := q
  clear q
  refine ⟨_, rfl, show Tb _ _ _ from H2.out.obj (x := (wr.heap.size, opObj p)) (by simp), fun hHeld => ?_⟩
  try simp only [Act.put, List.setIfInBounds_toArray, List.set_cons_zero, List.set_cons_succ]
  refine callAt 11 44 42 (vals := #[.pointer (some ⟨r, 0, none⟩), .int .i64 p.i, .string p.s]) (by kernel_rfl) rfl rfl rfl rfl (by simp [Act.eval]) Try.func42 (by kernel_rfl) (by kernel_rfl) ?_
  refine Calls.mono (H2.out.rset (by omega) p.s p.i HO.out.1.i) ?_
  rintro e w3 ⟨rfl, q⟩
  have H3 : Hid _ := q
  clear q
  refine ⟨_, rfl, show Tb _ _ _ from H3.out.obj (x := (wr.heap.size, opObj p)) (by simp), fun hHeld => ?_⟩
  try simp only [Act.put, List.setIfInBounds_toArray, List.set_cons_zero, List.set_cons_succ]
  obtain ⟨R, hR⟩ : ∃ R, may ls p.i 1 = R := ⟨_, rfl⟩
  rw [hR]
  clear hR
  refine takeAt 12 (some 45) ?_ rfl rfl (by kernel_rfl) (by kernel_rfl) (by kernel_rfl) (fun _ _ _ h => h) (Or.inl ⟨by rfl, ?_⟩) hHeld ?_
  rotate_left
  · intro w hSw
    go_simp <;> with_reducible rfl
  try simp only [Act.put, List.setIfInBounds_toArray, List.set_cons_zero, List.set_cons_succ]
  refine takeAt 13 (some 6) ?_ rfl rfl (by kernel_rfl) (by kernel_rfl) (by kernel_rfl) (fun _ _ _ h => h) (Or.inl ⟨by rfl, ?_⟩) hHeld ?_
  rotate_left
  · intro w hSw
    go_simp <;> with_reducible rfl
  try simp only [Act.put, List.setIfInBounds_toArray, List.set_cons_zero, List.set_cons_succ]
  refine wpAnyH_done (by kernel_rfl) ?_ _
  refine NoPanic.normal ?_
  go_wp2_with fail
  go_ret
  exact ⟨by simp, done_spliced H3.out (by omega) (by simp) HO.out.2.2 (by intro y hy; simp at hy; rw [hy]; exact HO.out.2.1.s)⟩
set_option maxHeartbeats 4000000 in
set_option maxRecDepth 100000 in
theorem does_6 {bx : List (Nat × Obj)} (h : Two B W wr t r ls ls m bx) (hBW : B = W.heap.size) (p : OpD) (hp : OpOk W p) (hz : OpSz p) (hl50 : p.l.length ≤ 50) (hls : ls.length ≤ 20000) (hm : m + 22 * (ls.length + 60) < 70000000) (hy : ∀ y ∈ ls, y.size ≤ reachBytes) (hk : p.kind % 10 = 6) :
    Calls Try.prog 24 #[.pointer (some ⟨t, 0, none⟩), .pointer (some ⟨r, 0, none⟩), .agg #[.int .u8 p.kind, .int .i64 p.i, .int .i64 p.n, .string p.s, p.lv]] wr fun e w' => e = .returned (.bool true) ∧ Done B W t r ls (m + 22 * (ls.length + 60)) bx w' := by
  have hr := reachBytes_lt
  have hsz : sizes ls < 3000000000000000000 := by
    have := sizes_le hy
    have : ls.length * reachBytes ≤ 20000 * reachBytes := Nat.mul_le_mul_right _ hls
    omega
  have hszl : sizes p.l < 2 ^ 60 := by
    have := sizes_le hz.l
    have : p.l.length * reachBytes ≤ 50 * reachBytes := Nat.mul_le_mul_right _ hl50
    omega
  have hss : p.s.size < 2 ^ 60 := by have := hz.s; omega
  have H1 : Hid (Two B W (wr.alloc (opObj p)) t r ls ls m ((wr.heap.size, opObj p) :: bx)) := h.box (opObj p)
  have HTb : Hid (Tb wr.heap.size (opObj p) (wr.alloc (opObj p)).drew ∧ Tb wr.heap.size (opObj p) (wr.alloc (opObj p))) := ⟨alloc_new wr _, alloc_new wr _⟩
  obtain ⟨b0, b1, b2, b3, b4⟩ := tb_cells HTb.out.2
  have rule1 : ∀ w', Tb wr.heap.size (opObj p) w' → w'.cell? ⟨wr.heap.size, 1, none⟩ = some (.int .i64 p.i) := fun _ h => (tb_cells h).2.1
  have rule2 : ∀ w', Tb wr.heap.size (opObj p) w' → w'.cell? ⟨wr.heap.size, 2, none⟩ = some (.int .i64 p.n) := fun _ h => (tb_cells h).2.2.1
  have rule3 : ∀ w', Tb wr.heap.size (opObj p) w' → w'.cell? ⟨wr.heap.size, 3, none⟩ = some (.string p.s) := fun _ h => (tb_cells h).2.2.2.1
  have rule4 : ∀ w', Tb wr.heap.size (opObj p) w' → w'.cell? ⟨wr.heap.size, 4, none⟩ = some p.lv := fun _ h => (tb_cells h).2.2.2.2
  have HO : Hid (OpOk W p ∧ OpSz p ∧ (∀ y ∈ ls, y.size ≤ reachBytes)) := ⟨hp, hz, hy⟩
  have hki : (p.kind : Int) % 10 = 6 := by omega
  have hkt : (p.kind : Int).tmod 10 = 6 := by rw [Int.tmod_eq_emod_of_nonneg (by omega)]; exact hki
  clear h hp hz hk hy
  go_enter Try.func24, Try.ntmps24
  go_wp2_with fail
  refine wp_region_noPanic ?_
  refine wp_region_held_drew (S := Tb wr.heap.size (opObj p)) (by kernel_rfl) (HTb.out.1) (fun hHeld => ?_)
  refine takeAt 0 (some 48) ?_ rfl rfl (by kernel_rfl) (by kernel_rfl) (by kernel_rfl) (fun _ _ _ h => h) (Or.inl ⟨by rfl, ?_⟩) hHeld ?_
  rotate_left
  · intro w hSw
    go_simp <;> with_reducible rfl
  try simp only [Act.put, List.setIfInBounds_toArray, List.set_cons_zero, List.set_cons_succ]
  refine takeAt 1 (some 49) ?_ rfl rfl (by kernel_rfl) (by kernel_rfl) (by kernel_rfl) (fun _ _ _ h => h) (Or.inl ⟨by rfl, ?_⟩) hHeld ?_
  rotate_left
  · intro w hSw
    go_simp <;> with_reducible rfl
  try simp only [Act.put, List.setIfInBounds_toArray, List.set_cons_zero, List.set_cons_succ]
  refine takeAt 2 (some 50) ?_ rfl rfl (by kernel_rfl) (by kernel_rfl) (by kernel_rfl) (fun _ _ _ h => h) (Or.inl ⟨by rfl, ?_⟩) hHeld ?_
  rotate_left
  · intro w hSw
    go_simp <;> with_reducible rfl
  try simp only [Act.put, List.setIfInBounds_toArray, List.set_cons_zero, List.set_cons_succ]
  refine takeAt 3 (some 51) ?_ rfl rfl (by kernel_rfl) (by kernel_rfl) (by kernel_rfl) (fun _ _ _ h => h) (Or.inl ⟨by rfl, ?_⟩) hHeld ?_
  rotate_left
  · intro w hSw
    go_simp <;> with_reducible rfl
  try simp only [Act.put, List.setIfInBounds_toArray, List.set_cons_zero, List.set_cons_succ]
  refine takeAt 4 (some 52) ?_ rfl rfl (by kernel_rfl) (by kernel_rfl) (by kernel_rfl) (fun _ _ _ h => h) (Or.inl ⟨by rfl, ?_⟩) hHeld ?_
  rotate_left
  · intro w hSw
    go_simp <;> with_reducible rfl
  try simp only [Act.put, List.setIfInBounds_toArray, List.set_cons_zero, List.set_cons_succ]
  refine takeAt 5 (some 53) ?_ rfl rfl (by kernel_rfl) (by kernel_rfl) (by kernel_rfl) (fun _ _ _ h => h) (Or.inl ⟨by rfl, ?_⟩) hHeld ?_
  rotate_left
  · intro w hSw
    go_simp <;> with_reducible rfl
  try simp only [Act.put, List.setIfInBounds_toArray, List.set_cons_zero, List.set_cons_succ]
  refine takeAt 6 (some 54) ?_ rfl rfl (by kernel_rfl) (by kernel_rfl) (by kernel_rfl) (fun _ _ _ h => h) (Or.inl ⟨by rfl, ?_⟩) hHeld ?_
  rotate_left
  · intro w hSw
    go_simp <;> with_reducible rfl
  try simp only [Act.put, List.setIfInBounds_toArray, List.set_cons_zero, List.set_cons_succ]
  refine takeAt 8 (some 56) ?_ rfl rfl (by kernel_rfl) (by kernel_rfl) (by kernel_rfl) (fun _ _ _ h => h) (Or.inl ⟨by rfl, ?_⟩) hHeld ?_
  rotate_left
  · intro w hSw
    go_simp <;> with_reducible rfl
  try simp only [Act.put, List.setIfInBounds_toArray, List.set_cons_zero, List.set_cons_succ]
  refine takeAt 9 (some 57) ?_ rfl rfl (by kernel_rfl) (by kernel_rfl) (by kernel_rfl) (fun _ _ _ h => h) (Or.inl ⟨by rfl, ?_⟩) hHeld ?_
  rotate_left
  · intro w hSw
    go_simp <;> with_reducible rfl
  try simp only [Act.put, List.setIfInBounds_toArray, List.set_cons_zero, List.set_cons_succ]
  refine takeAt 10 (some 58) ?_ rfl rfl (by kernel_rfl) (by kernel_rfl) (by kernel_rfl) (fun _ _ _ h => h) (Or.inl ⟨by rfl, ?_⟩) hHeld ?_
  rotate_left
  · intro w hSw
    go_simp <;> with_reducible rfl
  try simp only [Act.put, List.setIfInBounds_toArray, List.set_cons_zero, List.set_cons_succ]
  refine takeAt 11 (some 59) ?_ rfl rfl (by kernel_rfl) (by kernel_rfl) (by kernel_rfl) (fun _ _ _ h => h) (Or.inl ⟨by rfl, ?_⟩) hHeld ?_
  rotate_left
  · intro w hSw
    go_simp <;> with_reducible rfl
  try simp only [Act.put, List.setIfInBounds_toArray, List.set_cons_zero, List.set_cons_succ]
  refine takeAt 12 (some 60) ?_ rfl rfl (by kernel_rfl) (by kernel_rfl) (by kernel_rfl) (fun _ _ _ h => h) (Or.inl ⟨by rfl, ?_⟩) hHeld ?_
  rotate_left
  · intro w hSw
    go_simp <;> with_reducible rfl
  try simp only [Act.put, List.setIfInBounds_toArray, List.set_cons_zero, List.set_cons_succ]
  refine takeAt 13 (some 61) ?_ rfl rfl (by kernel_rfl) (by kernel_rfl) (by kernel_rfl) (fun _ _ _ h => h) (Or.inl ⟨by rfl, ?_⟩) hHeld ?_
  rotate_left
  · intro w hSw
    go_simp <;> with_reducible rfl
  try simp only [Act.put, List.setIfInBounds_toArray, List.set_cons_zero, List.set_cons_succ]
  refine takeAt 14 (some 62) ?_ rfl rfl (by kernel_rfl) (by kernel_rfl) (by kernel_rfl) (fun _ _ _ h => h) (Or.inl ⟨by rfl, ?_⟩) hHeld ?_
  rotate_left
  · intro w hSw
    go_simp <;> with_reducible rfl
  try simp only [Act.put, List.setIfInBounds_toArray, List.set_cons_zero, List.set_cons_succ]
  refine callAt 7 55 27 (vals := #[.pointer (some ⟨t, 0, none⟩), .int .i64 p.i, .int .i64 p.n, p.lv]) (by kernel_rfl) rfl rfl rfl rfl (by simp [Act.eval]) Try.func27 (by kernel_rfl) (by kernel_rfl) ?_
  refine Calls.mono ((H1.out.drewN 1).tsplice hBW HO.out.1.l (by omega) (by omega) (by omega) p.i p.n HO.out.1.i) ?_
  rintro e w2 ⟨rfl, q⟩
  have H2 : Hid _ := q
  clear q
  refine ⟨_, rfl, show Tb _ _ _ from H2.out.obj (x := (wr.heap.size, opObj p)) (by simp), fun hHeld => ?_⟩
  try simp only [Act.put, List.setIfInBounds_toArray, List.set_cons_zero, List.set_cons_succ]
  refine callAt 15 63 43 (vals := #[.pointer (some ⟨r, 0, none⟩), .int .i64 p.i, .int .i64 p.n, p.lv]) (by kernel_rfl) rfl rfl rfl rfl (by simp [Act.eval]) Try.func43 (by kernel_rfl) (by kernel_rfl) ?_
  refine Calls.mono (H2.out.rsplice hBW HO.out.1.l HO.out.1.nn (by omega) p.i p.n HO.out.1.i) ?_
  rintro e w3 ⟨rfl, q⟩
  have H3 : Hid _ := q
  clear q
  refine ⟨_, rfl, show Tb _ _ _ from H3.out.obj (x := (wr.heap.size, opObj p)) (by simp), fun hHeld => ?_⟩
  try simp only [Act.put, List.setIfInBounds_toArray, List.set_cons_zero, List.set_cons_succ]
  obtain ⟨R, hR⟩ : ∃ R, may ls p.i p.n = R := ⟨_, rfl⟩
  rw [hR]
  clear hR
  refine takeAt 16 (some 64) ?_ rfl rfl (by kernel_rfl) (by kernel_rfl) (by kernel_rfl) (fun _ _ _ h => h) (Or.inl ⟨by rfl, ?_⟩) hHeld ?_
  rotate_left
  · intro w hSw
    go_simp <;> with_reducible rfl
  try simp only [Act.put, List.setIfInBounds_toArray, List.set_cons_zero, List.set_cons_succ]
  refine takeAt 17 (some 6) ?_ rfl rfl (by kernel_rfl) (by kernel_rfl) (by kernel_rfl) (fun _ _ _ h => h) (Or.inl ⟨by rfl, ?_⟩) hHeld ?_
  rotate_left
  · intro w hSw
    go_simp <;> with_reducible rfl
  try simp only [Act.put, List.setIfInBounds_toArray, List.set_cons_zero, List.set_cons_succ]
  refine wpAnyH_done (by kernel_rfl) ?_ _
  refine NoPanic.normal ?_
  go_wp2_with fail
  go_ret
  exact ⟨by simp, done_spliced H3.out (by omega) hl50 HO.out.2.2 HO.out.2.1.l⟩
set_option maxHeartbeats 4000000 in
set_option maxRecDepth 100000 in
theorem does_7 {bx : List (Nat × Obj)} (h : Two B W wr t r ls ls m bx) (hBW : B = W.heap.size) (p : OpD) (hp : OpOk W p) (hz : OpSz p) (hl50 : p.l.length ≤ 50) (hls : ls.length ≤ 20000) (hm : m + 22 * (ls.length + 60) < 70000000) (hy : ∀ y ∈ ls, y.size ≤ reachBytes) (hk : p.kind % 10 = 7) :
    Calls Try.prog 24 #[.pointer (some ⟨t, 0, none⟩), .pointer (some ⟨r, 0, none⟩), .agg #[.int .u8 p.kind, .int .i64 p.i, .int .i64 p.n, .string p.s, p.lv]] wr fun e w' => e = .returned (.bool true) ∧ Done B W t r ls (m + 22 * (ls.length + 60)) bx w' := by
  have hr := reachBytes_lt
  have hsz : sizes ls < 3000000000000000000 := by
    have := sizes_le hy
    have : ls.length * reachBytes ≤ 20000 * reachBytes := Nat.mul_le_mul_right _ hls
    omega
  have hszl : sizes p.l < 2 ^ 60 := by
    have := sizes_le hz.l
    have : p.l.length * reachBytes ≤ 50 * reachBytes := Nat.mul_le_mul_right _ hl50
    omega
  have hss : p.s.size < 2 ^ 60 := by have := hz.s; omega
  have H1 : Hid (Two B W (wr.alloc (opObj p)) t r ls ls m ((wr.heap.size, opObj p) :: bx)) := h.box (opObj p)
  have HTb : Hid (Tb wr.heap.size (opObj p) (wr.alloc (opObj p)).drew ∧ Tb wr.heap.size (opObj p) (wr.alloc (opObj p))) := ⟨alloc_new wr _, alloc_new wr _⟩
  obtain ⟨b0, b1, b2, b3, b4⟩ := tb_cells HTb.out.2
  have rule1 : ∀ w', Tb wr.heap.size (opObj p) w' → w'.cell? ⟨wr.heap.size, 1, none⟩ = some (.int .i64 p.i) := fun _ h => (tb_cells h).2.1
  have rule2 : ∀ w', Tb wr.heap.size (opObj p) w' → w'.cell? ⟨wr.heap.size, 2, none⟩ = some (.int .i64 p.n) := fun _ h => (tb_cells h).2.2.1
  have rule3 : ∀ w', Tb wr.heap.size (opObj p) w' → w'.cell? ⟨wr.heap.size, 3, none⟩ = some (.string p.s) := fun _ h => (tb_cells h).2.2.2.1
  have rule4 : ∀ w', Tb wr.heap.size (opObj p) w' → w'.cell? ⟨wr.heap.size, 4, none⟩ = some p.lv := fun _ h => (tb_cells h).2.2.2.2
  have HO : Hid (OpOk W p ∧ OpSz p ∧ (∀ y ∈ ls, y.size ≤ reachBytes)) := ⟨hp, hz, hy⟩
  have hki : (p.kind : Int) % 10 = 7 := by omega
  have hkt : (p.kind : Int).tmod 10 = 7 := by rw [Int.tmod_eq_emod_of_nonneg (by omega)]; exact hki
  clear h hp hz hk hy
  go_enter Try.func24, Try.ntmps24
  go_wp2_with fail
  obtain ⟨R, hR⟩ : ∃ R, may ls p.i 1 = R := ⟨_, rfl⟩
  obtain ⟨Y, hY⟩ : ∃ Y, lineOf ls p.i = Y := ⟨_, rfl⟩
  have HG := H1.out.tget (by omega) p.i HO.out.1.i
  rw [hR, hY] at HG
  refine Calls.mono HG ?_
  rintro e w2 ⟨rfl, q⟩
  have H2 : Hid _ := q
  clear q HG b0 b1 b2 b3 b4
  obtain ⟨b0, b1, b2, b3, b4⟩ := tb_cells (show Tb wr.heap.size (opObj p) w2 from H2.out.obj (x := (wr.heap.size, opObj p)) (by simp))
  have HG := H2.out.rget (by omega) p.i
  rw [hR, hY] at HG
  have HG' : Hid _ := HG
  clear hR hY HG
  go_wp2_with fail
  refine Calls.mono HG'.out ?_
  rintro e w3 ⟨rfl, q⟩
  have H3 : Hid _ := q
  clear q HG'
  go_wp2_with fail
  go_ret
  exact ⟨by simp, done_same H3.out (by omega) HO.out.2.2⟩
set_option maxHeartbeats 4000000 in
set_option maxRecDepth 100000 in
theorem does_8 {bx : List (Nat × Obj)} (h : Two B W wr t r ls ls m bx) (hBW : B = W.heap.size) (p : OpD) (hp : OpOk W p) (hz : OpSz p) (hl50 : p.l.length ≤ 50) (hls : ls.length ≤ 20000) (hm : m + 22 * (ls.length + 60) < 70000000) (hy : ∀ y ∈ ls, y.size ≤ reachBytes) (hk : p.kind % 10 = 8) :
    Calls Try.prog 24 #[.pointer (some ⟨t, 0, none⟩), .pointer (some ⟨r, 0, none⟩), .agg #[.int .u8 p.kind, .int .i64 p.i, .int .i64 p.n, .string p.s, p.lv]] wr fun e w' => e = .returned (.bool true) ∧ Done B W t r ls (m + 22 * (ls.length + 60)) bx w' := by
  have hr := reachBytes_lt
  have hsz : sizes ls < 3000000000000000000 := by
    have := sizes_le hy
    have : ls.length * reachBytes ≤ 20000 * reachBytes := Nat.mul_le_mul_right _ hls
    omega
  have hszl : sizes p.l < 2 ^ 60 := by
    have := sizes_le hz.l
    have : p.l.length * reachBytes ≤ 50 * reachBytes := Nat.mul_le_mul_right _ hl50
    omega
  have hss : p.s.size < 2 ^ 60 := by have := hz.s; omega
  have H1 : Hid (Two B W (wr.alloc (opObj p)) t r ls ls m ((wr.heap.size, opObj p) :: bx)) := h.box (opObj p)
  have HTb : Hid (Tb wr.heap.size (opObj p) (wr.alloc (opObj p)).drew ∧ Tb wr.heap.size (opObj p) (wr.alloc (opObj p))) := ⟨alloc_new wr _, alloc_new wr _⟩
  obtain ⟨b0, b1, b2, b3, b4⟩ := tb_cells HTb.out.2
  have rule1 : ∀ w', Tb wr.heap.size (opObj p) w' → w'.cell? ⟨wr.heap.size, 1, none⟩ = some (.int .i64 p.i) := fun _ h => (tb_cells h).2.1
  have rule2 : ∀ w', Tb wr.heap.size (opObj p) w' → w'.cell? ⟨wr.heap.size, 2, none⟩ = some (.int .i64 p.n) := fun _ h => (tb_cells h).2.2.1
  have rule3 : ∀ w', Tb wr.heap.size (opObj p) w' → w'.cell? ⟨wr.heap.size, 3, none⟩ = some (.string p.s) := fun _ h => (tb_cells h).2.2.2.1
  have rule4 : ∀ w', Tb wr.heap.size (opObj p) w' → w'.cell? ⟨wr.heap.size, 4, none⟩ = some p.lv := fun _ h => (tb_cells h).2.2.2.2
  have HO : Hid (OpOk W p ∧ OpSz p ∧ (∀ y ∈ ls, y.size ≤ reachBytes)) := ⟨hp, hz, hy⟩
  have hki : (p.kind : Int) % 10 = 8 := by omega
  have hkt : (p.kind : Int).tmod 10 = 8 := by rw [Int.tmod_eq_emod_of_nonneg (by omega)]; exact hki
  clear h hp hz hk hy
  go_enter Try.func24, Try.ntmps24
  go_wp2_with fail
  obtain ⟨R, hR⟩ : ∃ R, may ls p.i p.n = R := ⟨_, rfl⟩
  obtain ⟨Y, hY⟩ : ∃ Y, partOf ls p.i p.n = Y := ⟨_, rfl⟩
  have hYl : Y.length ≤ ls.length := by rw [← hY]; unfold partOf; split; · simp; omega
                                        · simp
  obtain ⟨o1, t1, _⟩ := H1.out.ex
  have HG := tpart_any t1 (by omega) p.i p.n HO.out.1.i
  rw [hR, hY] at HG
  refine Calls.mono HG ?_
  rintro e w2 ⟨a2, n2, c2, rfl, L2, q2⟩
  have H2 : Hid (Two B W w2 t r ls ls m ((wr.heap.size, opObj p) :: bx) ∧ Lies nobody w2 (.slice a2 n2 c2) Y) := ⟨H1.out.under q2, L2⟩
  clear q2 L2 HG b0 b1 b2 b3 b4 t1
  obtain ⟨b0, b1, b2, b3, b4⟩ := tb_cells (show Tb wr.heap.size (opObj p) w2 from H2.out.1.obj (x := (wr.heap.size, opObj p)) (by simp))
  obtain ⟨o2, _, _, t2, _⟩ := H2.out.1.ex
  have HG := rpart_any t2 (by omega) p.i p.n HO.out.1.i
  rw [hR, hY] at HG
  have HG' : Hid _ := HG
  clear hR hY HG t2
  go_wp2_with fail
  refine Calls.mono HG'.out ?_
  rintro e w3 ⟨a3, n3, c3, rfl, L3, q3⟩
  have H3 : Hid (Two B W w3 t r ls ls m ((wr.heap.size, opObj p) :: bx) ∧ Lies nobody w3 (.slice a2 n2 c2) Y ∧ Lies nobody w3 (.slice a3 n3 c3) Y) := ⟨H2.out.1.under q3, H2.out.2.below q3 (Nat.le_refl _), L3⟩
  clear q3 L3 HG'
  go_wp2_with fail
  refine Calls.mono (same_true H3.out.2.1 H3.out.2.2 (by omega)) ?_
  rintro e w4 ⟨rfl, q, rfl⟩
  have H4 : Hid _ := H3.out.1.drewN q
  go_wp2_with fail
  go_ret
  exact ⟨by simp, done_same H4.out (by omega) HO.out.2.2⟩
set_option maxHeartbeats 4000000 in
set_option maxRecDepth 100000 in
theorem does_9 {bx : List (Nat × Obj)} (h : Two B W wr t r ls ls m bx) (hBW : B = W.heap.size) (p : OpD) (hp : OpOk W p) (hz : OpSz p) (hl50 : p.l.length ≤ 50) (hls : ls.length ≤ 20000) (hm : m + 22 * (ls.length + 60) < 70000000) (hy : ∀ y ∈ ls, y.size ≤ reachBytes) (hk : p.kind % 10 = 9) :
    Calls Try.prog 24 #[.pointer (some ⟨t, 0, none⟩), .pointer (some ⟨r, 0, none⟩), .agg #[.int .u8 p.kind, .int .i64 p.i, .int .i64 p.n, .string p.s, p.lv]] wr fun e w' => e = .returned (.bool true) ∧ Done B W t r ls (m + 22 * (ls.length + 60)) bx w' := by
  have hr := reachBytes_lt
  have hsz : sizes ls < 3000000000000000000 := by
    have := sizes_le hy
    have : ls.length * reachBytes ≤ 20000 * reachBytes := Nat.mul_le_mul_right _ hls
    omega
  have hszl : sizes p.l < 2 ^ 60 := by
    have := sizes_le hz.l
    have : p.l.length * reachBytes ≤ 50 * reachBytes := Nat.mul_le_mul_right _ hl50
    omega
  have hss : p.s.size < 2 ^ 60 := by have := hz.s; omega
  have H1 : Hid (Two B W (wr.alloc (opObj p)) t r ls ls m ((wr.heap.size, opObj p) :: bx)) := h.box (opObj p)
  have HTb : Hid (Tb wr.heap.size (opObj p) (wr.alloc (opObj p)).drew ∧ Tb wr.heap.size (opObj p) (wr.alloc (opObj p))) := ⟨alloc_new wr _, alloc_new wr _⟩
  obtain ⟨b0, b1, b2, b3, b4⟩ := tb_cells HTb.out.2
  have rule1 : ∀ w', Tb wr.heap.size (opObj p) w' → w'.cell? ⟨wr.heap.size, 1, none⟩ = some (.int .i64 p.i) := fun _ h => (tb_cells h).2.1
  have rule2 : ∀ w', Tb wr.heap.size (opObj p) w' → w'.cell? ⟨wr.heap.size, 2, none⟩ = some (.int .i64 p.n) := fun _ h => (tb_cells h).2.2.1
  have rule3 : ∀ w', Tb wr.heap.size (opObj p) w' → w'.cell? ⟨wr.heap.size, 3, none⟩ = some (.string p.s) := fun _ h => (tb_cells h).2.2.2.1
  have rule4 : ∀ w', Tb wr.heap.size (opObj p) w' → w'.cell? ⟨wr.heap.size, 4, none⟩ = some p.lv := fun _ h => (tb_cells h).2.2.2.2
  have HO : Hid (OpOk W p ∧ OpSz p ∧ (∀ y ∈ ls, y.size ≤ reachBytes)) := ⟨hp, hz, hy⟩
  have hki : (p.kind : Int) % 10 = 9 := by omega
  have hkt : (p.kind : Int).tmod 10 = 9 := by rw [Int.tmod_eq_emod_of_nonneg (by omega)]; exact hki
  clear h hp hz hk hy
  go_enter Try.func24, Try.ntmps24
  go_wp2_with fail
  have HRL : Hid (∀ x : World, x.heap = (wr.alloc (opObj p)).heap → Calls Try.prog 25 #[.pointer (some ⟨r, 0, none⟩)] x fun e w' => e = .returned (.int .i64 ls.length) ∧ w' = x) := fun x hx => by
    obtain ⟨o1, _, _, t1, _⟩ := H1.out.ex
    have hb : Below (wr.alloc (opObj p)).heap.size (wr.alloc (opObj p)) { (wr.alloc (opObj p)) with heap := x.heap } := ⟨rfl, rfl, rfl, by rw [hx]; exact Nat.le_refl _, fun k _ => by rw [hx]⟩
    obtain ⟨lv, q1, q2⟩ := t1.ex
    have t2 : Rf o1 x r ls := ⟨t1.free, lv, by rw [hx]; exact q1, by
      rcases q2 with q | ⟨b, cap, a1, a2, a3, a4, a5, a6, a7⟩
      · exact .inl q
      · exact .inr ⟨b, cap, a1, a2, a3, by rw [hx]; exact a4, a5, a6, fun j y hj => by have := a7 j y hj; simp only [World.cell?, hx] at this ⊢; exact this⟩⟩
    exact rlen_any t2
  obtain ⟨L, hL⟩ : ∃ L, ls.length = L := ⟨_, rfl⟩
  have HL : Hid (ls.length = L) := hL
  have hw1 : IntKind.i64.wrap ((L : Int) + 1) = (L : Int) + 1 := by rw [IntKind.wrap_i64]; omega
  rw [hL] at HRL
  have hL0 : ¬ ((L : Int) + 1 = 0) := by omega
  clear hL
  go_quiet ((go_at_call 25; exact Calls.quiet_of_same (HRL.out _ (by rw [drewN_heap]; rfl))))
  obtain ⟨k, hk⟩ : ∃ k, max p.i 0 % ((L : Int) + 1) = k := ⟨_, rfl⟩
  have hkr : -9223372036854775808 ≤ k ∧ k ≤ 9223372036854775807 := by
    have := HL.out
    have h1 := Int.emod_nonneg (max p.i 0) hL0
    have h2 := Int.emod_lt_of_pos (max p.i 0) (show (0 : Int) < (L : Int) + 1 by omega)
    omega
  rw [hk]
  clear hk
  have H1q : Hid (Two B W ((wr.alloc (opObj p)).drewN nq) t r ls ls m ((wr.heap.size, opObj p) :: bx)) := H1.out.drewN nq
  change Exit.then _ _ _ _ ((wr.alloc (opObj p)).drewN nq)
  obtain ⟨w1, hw⟩ : ∃ w1, (wr.alloc (opObj p)).drewN nq = w1 := ⟨_, rfl⟩
  rw [hw] at H1q ⊢
  clear hw
  clear b0 b1 b2 b3 b4
  have HD := H1q.out.tdelete (by omega) (by omega) (by omega) k hkr
  obtain ⟨R, hR⟩ : ∃ R, may ls k 1 = R := ⟨_, rfl⟩
  rw [hR] at HD
  have HD' : Hid _ := HD
  clear HD
  have HRk : Hid (may ls k 1 = R) := hR
  clear hR
  go_wp2_with fail
  refine Calls.mono HD'.out ?_
  rintro e w2 ⟨rfl, q⟩
  have H2 : Hid _ := q
  clear q HD'
  have HE := H2.out.rdelete (by omega) k hkr
  rw [HRk.out] at HE
  have HE' : Hid _ := HE
  clear HE
  go_wp2_with fail
  refine Calls.mono HE'.out ?_
  rintro e w3 ⟨rfl, q⟩
  have H3 : Hid _ := q
  clear q HE'
  go_wp2_with fail
  go_ret
  exact ⟨by simp, done_spliced H3.out (by omega) (by simp) HO.out.2.2 (by intro y hy; cases hy)⟩
theorem does_any {bx : List (Nat × Obj)} (h : Two B W wr t r ls ls m bx) (hBW : B = W.heap.size) (p : OpD) (hp : OpOk W p) (hz : OpSz p) (hl50 : p.l.length ≤ 50) (hls : ls.length ≤ 20000) (hm : m + 22 * (ls.length + 60) < 70000000) (hy : ∀ y ∈ ls, y.size ≤ reachBytes) :
    Calls Try.prog 24 #[.pointer (some ⟨t, 0, none⟩), .pointer (some ⟨r, 0, none⟩), .agg #[.int .u8 p.kind, .int .i64 p.i, .int .i64 p.n, .string p.s, p.lv]] wr fun e w' => e = .returned (.bool true) ∧ Done B W t r ls (m + 22 * (ls.length + 60)) bx w' := by
  have hk : p.kind % 10 < 10 := Nat.mod_lt _ (by omega)
  obtain ⟨c, hc⟩ : ∃ c, p.kind % 10 = c := ⟨_, rfl⟩
  match c, hc with
  | 0, hc => exact does_0 h hBW p hp hz hl50 hls hm hy hc
  | 1, hc => exact does_1 h hBW p hp hz hl50 hls hm hy hc
  | 2, hc => exact does_2 h hBW p hp hz hl50 hls hm hy hc
  | 3, hc => exact does_3 h hBW p hp hz hl50 hls hm hy hc
  | 4, hc => exact does_4 h hBW p hp hz hl50 hls hm hy hc
  | 5, hc => exact does_5 h hBW p hp hz hl50 hls hm hy hc
  | 6, hc => exact does_6 h hBW p hp hz hl50 hls hm hy hc
  | 7, hc => exact does_7 h hBW p hp hz hl50 hls hm hy hc
  | 8, hc => exact does_8 h hBW p hp hz hl50 hls hm hy hc
  | 9, hc => exact does_9 h hBW p hp hz hl50 hls hm hy hc
  | c + 10, hc => omega
end
end Go.Proofs.Ytfnhbjokokjhfaa
