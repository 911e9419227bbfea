/- Texts that the proof of the law stands on: VShelf, VS, VU, VV, VI, ZA, ZB. -/
import Derived.Ground.NamesProg
import Derived.Shelf.Sort.Plain
import Derived.Shelf.Slices.Turned
import Derived.Shelf.Slices.Reverse
import Derived.Shelf.Slices.In.SortNone
import Derived.Test.YtaefeakmlgjonaaGreatProg
import Derived.Test.YtaefeakmlgjonaaGreatPartB
import Derived.Sort.OwnSortedInts
import Derived.Test.YtaefeakmlgjonaaGreatPartA
/-
  DERIVED: THE SHELF's CONTRACTS AT THIS DUMP, IN PLAIN WORDS (tools/lay-plain.mjs out of 'YtaefeakmlgjonaaGreatVShelf.lean', which tools/lay-shelf.mjs wrote): THE SAME DECLARATIONS UNDER THE SAME NAMES: 'import', 'namespace', 'open', 'def', 'theorem' AND NOTHING ELSE: no command of the shelf's: FOR A HAND-IN. Each laying: the table of numbers ('.._ren') and one theorem, a field a fact of the dump's own or the kernel's comparison; each contract: ONE APPLICATION.
-/
namespace Go.Proofs
open Go.Shelf
def Tryz.lays189_ren : Go.Shelf.Ren := ⟨fun | 189 => 153 | 125 => 147 | 257 => 182 | 128 => 172 | 129 => 173 | 294 => 197 | 295 => 198 | 296 => 199 | 297 => 200 | 298 => 201 | 299 => 202 | 216 => 203 | 300 => 204 | 301 => 205 | 328 => 212 | 329 => 186 | 330 => 187 | 331 => 213 | 332 => 214 | 215 => 215 | 343 => 221 | n => n, fun | 28 => 120 | 3 => 3 | 46 => 186 | 0 => 0 | 51 => 207 | 53 => 209 | 4 => 4 | 183 => 200 | 182 => 199 | 131 => 33 | 5 => 5 | 9 => 9 | 218 => 219 | 222 => 223 | 228 => 232 | 229 => 147 | n => n, fun | n => n⟩
theorem Tryz.lays189 : Go.Proofs.Lays.n189 Tryz.prog Tryz.lays189_ren := {
  mixed := by kernel_rfl
  f125 := Tryz.func147.trans (congrArg some (by kernel_rfl))
  f128 := Tryz.func172.trans (congrArg some (by kernel_rfl))
  f129 := Tryz.func173.trans (congrArg some (by kernel_rfl))
  f189 := Tryz.func153.trans (congrArg some (by kernel_rfl))
  f215 := Tryz.func215.trans (congrArg some (by kernel_rfl))
  f216 := Tryz.func203.trans (congrArg some (by kernel_rfl))
  f257 := Tryz.func182.trans (congrArg some (by kernel_rfl))
  f294 := Tryz.func197.trans (congrArg some (by kernel_rfl))
  f295 := Tryz.func198.trans (congrArg some (by kernel_rfl))
  f296 := Tryz.func199.trans (congrArg some (by kernel_rfl))
  f297 := Tryz.func200.trans (congrArg some (by kernel_rfl))
  f298 := Tryz.func201.trans (congrArg some (by kernel_rfl))
  f299 := Tryz.func202.trans (congrArg some (by kernel_rfl))
  f300 := Tryz.func204.trans (congrArg some (by kernel_rfl))
  f301 := Tryz.func205.trans (congrArg some (by kernel_rfl))
  f328 := Tryz.func212.trans (congrArg some (by kernel_rfl))
  f329 := Tryz.func186.trans (congrArg some (by kernel_rfl))
  f330 := Tryz.func187.trans (congrArg some (by kernel_rfl))
  f331 := Tryz.func213.trans (congrArg some (by kernel_rfl))
  f332 := Tryz.func214.trans (congrArg some (by kernel_rfl))
  f343 := Tryz.func221.trans (congrArg some (by kernel_rfl))
  t0 := Tryz.underlying0
  a0 := Tryz.isAgg0
  z0 := Tryz.sizeOf0
  v0 := Tryz.zeroValue0
  t3 := Tryz.underlying3
  a3 := Tryz.isAgg3
  z3 := Tryz.sizeOf3
  v3 := Tryz.zeroValue3
  t4 := Tryz.underlying4
  a4 := Tryz.isAgg4
  z4 := Tryz.sizeOf4
  v4 := Tryz.zeroValue4
  t5 := Tryz.underlying5
  a5 := Tryz.isAgg5
  z5 := Tryz.sizeOf5
  v5 := Tryz.zeroValue5
  t9 := Tryz.underlying9
  a9 := Tryz.isAgg9
  z9 := Tryz.sizeOf9
  v9 := Tryz.zeroValue9
  t28 := Tryz.underlying120
  a28 := Tryz.isAgg120
  z28 := Tryz.sizeOf120
  v28 := Tryz.zeroValue120
  t46 := Tryz.underlying186
  a46 := Tryz.isAgg186
  z46 := Tryz.sizeOf186
  v46 := Tryz.zeroValue186
  t51 := Tryz.underlying207
  a51 := Tryz.isAgg207
  z51 := Tryz.sizeOf207
  v51 := Tryz.zeroValue207
  t53 := Tryz.underlying209
  a53 := Tryz.isAgg209
  z53 := Tryz.sizeOf209
  v53 := Tryz.zeroValue209
  t131 := Tryz.underlying33
  a131 := Tryz.isAgg33
  z131 := Tryz.sizeOf33
  v131 := Tryz.zeroValue33
  t182 := Tryz.underlying199
  a182 := Tryz.isAgg199
  z182 := Tryz.sizeOf199
  v182 := Tryz.zeroValue199
  t183 := Tryz.underlying200
  a183 := Tryz.isAgg200
  z183 := Tryz.sizeOf200
  v183 := Tryz.zeroValue200
  t218 := Tryz.underlying219
  a218 := Tryz.isAgg219
  z218 := Tryz.sizeOf219
  v218 := Tryz.zeroValue219
  t222 := Tryz.underlying223
  a222 := Tryz.isAgg223
  z222 := Tryz.sizeOf223
  v222 := Tryz.zeroValue223
  t228 := Tryz.underlying232
  a228 := Tryz.isAgg232
  z228 := Tryz.sizeOf232
  v228 := Tryz.zeroValue232
  t229 := Tryz.underlying147
  a229 := Tryz.isAgg147
  z229 := Tryz.sizeOf147
  v229 := Tryz.zeroValue147 }
def Tryz.lays108_ren : Go.Shelf.Ren := ⟨fun | 108 => 184 | n => n, fun | 28 => 120 | 3 => 3 | 0 => 0 | 4 => 4 | n => n, fun | n => n⟩
theorem Tryz.lays108 : Go.Proofs.Lays.n108 Tryz.prog Tryz.lays108_ren := {
  mixed := by kernel_rfl
  f108 := Tryz.func184.trans (congrArg some (by kernel_rfl))
  t0 := Tryz.underlying0
  a0 := Tryz.isAgg0
  z0 := Tryz.sizeOf0
  v0 := Tryz.zeroValue0
  t3 := Tryz.underlying3
  a3 := Tryz.isAgg3
  z3 := Tryz.sizeOf3
  v3 := Tryz.zeroValue3
  t4 := Tryz.underlying4
  a4 := Tryz.isAgg4
  z4 := Tryz.sizeOf4
  v4 := Tryz.zeroValue4
  t28 := Tryz.underlying120
  a28 := Tryz.isAgg120
  z28 := Tryz.sizeOf120
  v28 := Tryz.zeroValue120 }
def Tryz.lays112_ren : Go.Shelf.Ren := ⟨fun | 112 => 161 | n => n, fun | 28 => 120 | 3 => 3 | 4 => 4 | 0 => 0 | n => n, fun | n => n⟩
theorem Tryz.lays112 : Go.Proofs.Lays.n112 Tryz.prog Tryz.lays112_ren := {
  mixed := by kernel_rfl
  f112 := Tryz.func161.trans (congrArg some (by kernel_rfl))
  t0 := Tryz.underlying0
  a0 := Tryz.isAgg0
  z0 := Tryz.sizeOf0
  v0 := Tryz.zeroValue0
  t3 := Tryz.underlying3
  a3 := Tryz.isAgg3
  z3 := Tryz.sizeOf3
  v3 := Tryz.zeroValue3
  t4 := Tryz.underlying4
  a4 := Tryz.isAgg4
  z4 := Tryz.sizeOf4
  v4 := Tryz.zeroValue4
  t28 := Tryz.underlying120
  a28 := Tryz.isAgg120
  z28 := Tryz.sizeOf120
  v28 := Tryz.zeroValue120 }
end Go.Proofs
/- slices.Sorted of a map's keys: numbers. -/
namespace Go.Proofs.YtaefeakmlgjonaaGreat
open Go.ChangeShapes Go.WideShapes Go.ChangeAt Go.RowKit Go.Maps Go.MapKept Go.Shelf
set_option linter.unusedVariables false
set_option linter.unusedSimpArgs false
set_option maxRecDepth 100000
/-- Numbers of the call's own. -/
def Ir (B : Nat) (v : Value) (ss : List Int) (w : World) : Prop := w.ownsRow B 3 1 v ss.length (zcs ss)
theorem Ir.form {B : Nat} {v : Value} {ss : List Int} {w : World} (h : Ir B v ss w) : ∃ a cap, v = .slice a ss.length cap ∧ ss.length ≤ cap ∧ cap ≤ maxLen := owns_form h
theorem zcs_cells {ss : List Int} {cur : Array Value} (h : cur.toList.take (ss.length * 1) = zcs ss) : cur.toList.take ss.length = ss.map (Value.int .i64) := by rw [Nat.mul_one] at h; exact h
theorem sortI_some {B g cap : Nat} {ss : List Int} {w : World} (h : Ir B (.slice (some ⟨g, 0, none⟩) ss.length cap) ss w) (hl : ss.length ≤ 1000000) :
    Calls Tryz.prog 153 #[.slice (some ⟨g, 0, none⟩) ss.length cap] w fun e w' => e = .returned (.tuple #[]) ∧ Ir B (.slice (some ⟨g, 0, none⟩) ss.length cap) (ss.mergeSort fun x y => decide (x ≤ y)) w' ∧ Fr (On g) w w' := by
  rcases h.2 with ⟨z, _⟩ | ⟨g', cap', cur, z, hb, hg, h1, h2, h3, h4⟩
  · cases z
  cases z
  refine (Any.slices_Sort_int Tryz.lays189 g 0 cap ss w (holds_of_blockI hg (zcs_cells h4)) (Array.getElem?_eq_some_iff.1 hg).1 (by omega)).mono ?_
  rintro e w' ⟨rfl, n, os, rfl⟩
  have hl2 : (ss.mergeSort fun x y => decide (x ≤ y)).length = ss.length := List.length_mergeSort ss
  have q := ownsRow_sortedI (n := n) (os := os) (base := B) hl2 hb hg h1 h2 h3
  refine ⟨rfl, ?_, ?_⟩
  · unfold Ir; rw [hl2]; exact q
  · have := fr_grown (grownBy_sortedI (w := w) (g := g) (n := n) (os := os) (ss.mergeSort fun x y => decide (x ≤ y)).toArray)
    exact this.mono fun k _ e => by cases e; rfl
theorem sortI_nil (w : World) : Calls Tryz.prog 153 #[.slice none 0 0] w fun e w' => e = .returned (.tuple #[]) ∧ w' = w :=
  Any.slices_Sort_int_none Tryz.lays189 none 0 w
theorem look_ne {L : List St} {x : Int} : look L x ≠ none ↔ x ∈ L.map St.seq := by
  constructor
  · intro h
    obtain ⟨s, hs⟩ := Option.ne_none_iff_exists'.1 h
    exact List.mem_map.2 ⟨s, look_mem hs, look_seq hs⟩
  · intro h e
    obtain ⟨s, hs, rfl⟩ := List.mem_map.1 h
    have := List.find?_eq_none.1 e s hs
    simp at this
theorem nodup_sub : ∀ {l M : List Int}, l.Nodup → (∀ x ∈ l, x ∈ M) → l.length ≤ M.length
  | [], M, _, _ => Nat.zero_le _
  | x :: r, M, hn, hs => by
    obtain ⟨n1, n2⟩ := List.nodup_cons.1 hn
    have hx := hs x (.head _)
    have q := nodup_sub (l := r) (M := M.erase x) n2 fun y hy => (List.mem_erase_of_ne (fun e : y = x => n1 (by rw [← e]; exact hy))).2 (hs y (.tail _ hy))
    rw [List.length_erase_of_mem hx] at q
    have : 0 < M.length := List.length_pos_of_mem hx
    simp only [List.length_cons]; omega
theorem sorted_keys {L : List St} {q : Int → Nat} {ss : List Int} (hs : (L.map St.seq).Pairwise (· < ·)) (hk : Kys (ptrs L q) ss) : (ss.mergeSort fun x y => decide (x ≤ y)) = L.map St.seq := by
  have hn : (L.map St.seq).Nodup := hs.imp fun h e => by omega
  have hp : ss.Perm (L.map St.seq) := (List.perm_ext_iff_of_nodup hk.1 hn).2 fun x => by
    rw [hk.2, ← look_ne]
    unfold ptrs
    cases look L x <;> simp
  refine List.Perm.eq_of_pairwise (le := fun a b => a ≤ b) (fun a b _ _ h1 h2 => by omega) ?_ (hs.imp fun h => by omega) ((List.mergeSort_perm ss _).trans hp)
  have := List.pairwise_mergeSort (le := fun x y : Int => decide (x ≤ y)) (fun a b c h1 h2 => by simp only [decide_eq_true_eq] at *; omega) (fun a b => by simp only [Bool.or_eq_true, decide_eq_true_eq]; omega) ss
  exact this.imp fun h => by simpa using h
theorem kfew_of {L : List St} {q : Int → Nat} (h : L.length ≤ 250) : Kfew (ptrs L q) := fun ss h1 h2 => by
  have := nodup_sub (M := L.map St.seq) h1 fun x hx => look_ne.1 (by
    have := h2 x hx
    unfold ptrs at this
    intro e; rw [e] at this; exact this rfl)
  rw [List.length_map] at this; omega
theorem Ir.kp {B : Nat} {v : Value} {ss : List Int} {w w1 : World} (h : Ir B v ss w) (k : Kp w w1) : Ir B v ss w1 := row_kp h k
set_option maxHeartbeats 4000000 in
theorem sorted_any {L : List St} {q : Int → Nat} {b Bm : Nat} {w : World} (hB : Lc 117 Bm [.map (some b)] w) (hm : Mp b (ptrs L q) w) (hl : L.length ≤ 250) (hs : (L.map St.seq).Pairwise (· < ·)) :
    Calls Tryz.prog 120 #[.func (.func 154) #[] #[.pointer (some ⟨Bm, 0, none⟩)]] w fun e w' => ∃ v, e = .returned v ∧ Ir w.heap.size v (L.map St.seq) w' ∧ Kp w w' := by
  have HC : Hid _ := collect_any hB hm (kfew_of hl)
  have HD : Hid ((L.map St.seq).Pairwise (· < ·) ∧ Kfew (ptrs L q)) := ⟨hs, kfew_of hl⟩
  clear hB hm hl hs
  go_enter Tryz.func120, Tryz.ntmps120
  go_wp2_with fail
  refine Calls.mono HC.out ?_
  rintro e w2 ⟨v, ss, rfl, h1, h2, h3⟩
  have hsk := sorted_keys HD.out.1 h1
  have hl : ss.length ≤ 250 := HD.out.2 ss h1.1 fun y hy => (h1.2 y).1 hy
  clear HC
  obtain ⟨a, cap, rfl, _, _⟩ := owns_form h2
  cases a with
  | none =>
    have h0 : ss = [] := by
      rcases h2.2 with ⟨e, h0⟩ | ⟨g, cap', cur, e, _⟩
      · exact List.eq_nil_of_length_eq_zero h0
      · cases e
    subst h0
    obtain rfl : cap = 0 := by
      rcases h2.2 with ⟨e, _⟩ | ⟨g, cap', cur, e, _⟩
      · cases e; rfl
      · cases e
    have HX : Hid (Ir w.heap.size (.slice none 0 0) (L.map St.seq) w2 ∧ Kp w w2) := ⟨by rw [← hsk, List.mergeSort_nil]; exact h2, h3⟩
    have HS : Hid _ := sortI_nil w2
    clear h1 h2 h3 hsk
    go_wp2_with fail
    refine Calls.mono HS.out ?_
    rintro e w3 ⟨rfl, rfl⟩
    clear HS
    go_wp2_with fail
    go_ret
    exact ⟨_, rfl, HX.out⟩
  | some ad =>
    obtain ⟨g, rfl, hbg⟩ : ∃ g, ad = ⟨g, 0, none⟩ ∧ w.heap.size ≤ g := by
      rcases h2.2 with ⟨e, h0⟩ | ⟨g, cap', cur, e, hb, _⟩
      · cases e
      · cases e; exact ⟨g, rfl, hb⟩
    have HS : Hid _ := sortI_some (B := w.heap.size) h2 (by omega)
    have HK : Hid (Kp w w2 ∧ w.heap.size ≤ g ∧ (ss.mergeSort fun x y => decide (x ≤ y)) = L.map St.seq) := ⟨h3, hbg, hsk⟩
    generalize ss.length = N at HS ⊢
    clear h1 h2 h3 hsk hbg
    go_wp2_with fail
    refine Calls.mono HS.out ?_
    rintro e w3 ⟨rfl, q1, q2⟩
    have HX : Hid (Ir w.heap.size (.slice (some ⟨g, 0, none⟩) N cap) (L.map St.seq) w3 ∧ Kp w w3) := ⟨by rw [← HK.out.2.2]; exact q1, HK.out.1.trans (q2.below HK.out.1.size fun k hk e => by have := HK.out.2.1; unfold On at e; omega)⟩
    clear HS q1 q2 HK
    go_wp2_with fail
    go_ret
    exact ⟨_, rfl, HX.out⟩
section
variable {Q : Nat → Prop} {B C t : Nat} {m : Tr} {w : World}
set_option maxHeartbeats 4000000 in
theorem numbers_any (h : Tw Q B C t m w) (hl : m.L.length ≤ 250) (hs : (m.L.map St.seq).Pairwise (· < ·)) :
    Calls Tryz.prog 78 #[.pointer (some ⟨t, 0, none⟩)] w fun e w' => ∃ v, e = .returned v ∧ Ir w.heap.size v (m.L.map St.seq) w' ∧ Kp w w' := by
  obtain ⟨b, q, h⟩ := h
  have c0 := h.box.at (j := 0) rfl
  have HK : Hid _ := keys_any b w
  have HS : Hid _ := sorted_any (L := m.L) (q := q) (b := b) (Bm := w.heap.size) (w := w.alloc (.cells #[.map (some b)] 117)) (Lc.new w _ _) (h.map.kp (kp_alloc _ _)) hl hs
  clear h hl hs
  go_enter Tryz.func78, Tryz.ntmps78
  go_wp2_with fail
  refine Calls.mono HK.out ?_
  rintro e w2 ⟨rfl, rfl⟩
  clear HK
  go_wp2_with fail
  refine Calls.mono HS.out ?_
  rintro e w3 ⟨v, rfl, q1, q2⟩
  have HX : Hid (Ir w.heap.size v (m.L.map St.seq) w3 ∧ Kp w w3) := ⟨row_lift q1 fun j hj => by have := (q1.lt j hj).1; rw [alloc_size] at this; omega, kp_trans (kp_alloc _ _) q2⟩
  clear HS q1 q2
  go_wp2_with fail
  go_ret
  exact ⟨_, rfl, HX.out⟩
end
end Go.Proofs.YtaefeakmlgjonaaGreat
/- States; goBehind, Earlier, Later. -/
namespace Go.Proofs.YtaefeakmlgjonaaGreat
open Go.ChangeShapes Go.WideShapes Go.ChangeAt Go.RowKit Go.Maps Go.MapKept Go.Shelf
set_option linter.unusedVariables false
set_option linter.unusedSimpArgs false
set_option maxRecDepth 100000
/-- States as they are told. -/
def flatS : List St → List Value
  | [] => []
  | s :: r => .int .i64 s.seq :: .int .i64 s.fr :: flatS r
theorem flatS_len : ∀ l : List St, (flatS l).length = l.length * 2
  | [] => rfl
  | s :: r => by simp only [flatS, List.length_cons, flatS_len r]; omega
theorem flatS_app : ∀ a b : List St, flatS (a ++ b) = flatS a ++ flatS b
  | [], b => rfl
  | c :: r, b => by simp only [flatS, List.cons_append, flatS_app r b]
theorem flatS_one : ∀ (l : List St), ∀ u ∈ flatS l, u.oneCell' = true
  | [], u, hu => by cases hu
  | c :: r, u, hu => by
    simp only [flatS, List.mem_cons] at hu
    rcases hu with rfl | rfl | hu
    · rfl
    · rfl
    · exact flatS_one r u hu
theorem flatS_at : ∀ {l : List St} {i : Nat} {s : St}, l[i]? = some s → (flatS l)[i * 2]? = some (.int .i64 s.seq) ∧ (flatS l)[i * 2 + 1]? = some (.int .i64 s.fr)
  | [], i, c, h => by cases h
  | d :: r, 0, c, h => by cases h; exact ⟨rfl, rfl⟩
  | d :: r, i + 1, c, h => by
    have q := flatS_at (l := r) (i := i) (s := c) h
    rw [show (i + 1) * 2 = i * 2 + 1 + 1 by omega]
    exact q
def Sr (B : Nat) (v : Value) (l : List St) (w : World) : Prop := w.ownsRow B 70 2 v l.length (flatS l)
theorem infoAS : (Tryz.prog.info? 70).map (fun i => (i.zero, i.size, i.bytes)) = some (some (.agg #[.int .i64 0, .int .i64 0]), 2, 16) := by kernel_rfl
theorem look_at {L : List St} (hs : (L.map St.seq).Pairwise (· < ·)) {i : Nat} {s : St} (hi : L[i]? = some s) : look L s.seq = some s := by
  obtain ⟨s', hs'⟩ := Option.ne_none_iff_exists'.1 (look_ne.2 (List.mem_map.2 ⟨s, List.mem_of_getElem? hi, rfl⟩))
  obtain ⟨j, hj⟩ := List.getElem?_of_mem (look_mem hs')
  have e : s'.seq = s.seq := look_seq hs'
  have h1 : (L.map St.seq)[i]? = some s.seq := by rw [List.getElem?_map, hi]; rfl
  have h2 : (L.map St.seq)[j]? = some s.seq := by rw [List.getElem?_map, hj, Option.map_some, e]
  obtain ⟨l1, e1⟩ := List.getElem?_eq_some_iff.1 h1
  obtain ⟨l2, e2⟩ := List.getElem?_eq_some_iff.1 h2
  have hp := List.pairwise_iff_getElem.1 hs
  have hij : i = j := by
    rcases Nat.lt_trichotomy i j with q | q | q
    · have := hp i j l1 l2 q; omega
    · exact q
    · have := hp j i l2 l1 q; omega
  subst hij
  rw [hi] at hj; cases hj
  exact hs'
section
variable {Q : Nat → Prop} {B C t : Nat} {m : Tr} {w : World}
set_option maxHeartbeats 8000000 in
theorem states_any (h : Tw Q B C t m w) (F : Fam m.L m.next) (hn : m.next ≤ 10000) (hl : m.L.length ≤ 250) (hs : (m.L.map St.seq).Pairwise (· < ·)) :
    Calls Tryz.prog 37 #[.pointer (some ⟨t, 0, none⟩)] w fun e w' => ∃ v, e = .returned v ∧ Sr w.heap.size v m.L w' ∧ Kp w w' := by
  obtain ⟨i9, hi9, z0, z1, z2⟩ := info_parts infoAS
  have HN : Hid _ := numbers_any h hl hs
  have HH : Hid (Tw Q B C t m w ∧ Fam m.L m.next ∧ m.next ≤ 10000 ∧ (m.L.map St.seq).Pairwise (· < ·)) := ⟨h, F, hn, hs⟩
  obtain ⟨N, hN⟩ : ∃ N, m.L.length = N := ⟨_, rfl⟩
  have HL : Hid (m.L.length = N) := hN
  rw [hN] at hl
  clear h F hn hs hN
  go_enter Tryz.func37, Tryz.ntmps37
  go_wp2_with fail
  refine Calls.mono HN.out ?_
  rintro e w1 ⟨v, rfl, q1, k1⟩
  obtain ⟨a, cap, rfl, _, _⟩ := q1.form
  rw [List.length_map, HL.out] at q1 ⊢
  have H1 : Hid (w1.ownsRow w.heap.size 3 1 (.slice a N cap) N (zcs (m.L.map St.seq)) ∧ Kp w w1) := ⟨by have := q1; unfold Ir at this; rw [List.length_map, HL.out] at this; exact this, k1⟩
  clear HN q1 k1
  go_wp2_with fail
  go_loopw [3, 9] (fun v3 v9 wr => ∃ (i : Nat) (a' : Option Addr) (c' : Nat), i ≤ N ∧ v9 = .int .i64 i ∧ v3 = .slice a' i c' ∧ Hid (wr.ownsRow w.heap.size 70 2 (.slice a' i c') i (flatS (m.L.take i)) ∧ wr.ownsRow w.heap.size 3 1 (.slice a N cap) N (zcs (m.L.map St.seq)) ∧ Kp w wr)) (fun _ v9 _ => N - (intOf v9).toNat)
  case atStart => exact ⟨0, none, 0, Nat.zero_le _, rfl, rfl, ⟨rfl, .inl ⟨rfl, rfl⟩⟩, H1.out⟩
  case round =>
    obtain ⟨i, a', c', hi, rfl, rfl, HI⟩ := hrel
    clear H1
    by_cases q : i < N
    · have d1 : decide ((i : Int) < (N : Int)) = true := decide_eq_true (by omega)
      have d2 : decide (i < N) = true := decide_eq_true (by omega)
      obtain ⟨s, hsi⟩ : ∃ s, m.L[i]? = some s := ⟨_, List.getElem?_eq_getElem (by rw [HL.out]; exact q)⟩
      have hlk := look_at HH.out.2.2.2 hsi
      obtain ⟨g, rfl⟩ : ∃ g, a = some ⟨g, 0, none⟩ := by
        rcases HI.out.2.1.2 with ⟨e, e0⟩ | ⟨g, _, _, e, _⟩
        · omega
        · cases e; exact ⟨g, rfl⟩
      have ci : wr.cell? ⟨g, i, none⟩ = some (.int .i64 s.seq) := by
        have := HI.out.2.1.cellAt i (by omega)
        rw [this]
        simp [zcs, hsi]
      obtain ⟨b, q', hT⟩ := HH.out.1.kp HI.out.2.2
      have c0 := hT.box.at (j := 0) rfl
      have r1 := HH.out.2.1.rg (by have := HH.out.2.2.1; omega) (x := s.seq) (by rw [hlk]; simp)
      have hk := hT.get (by omega) (by omega) hlk wr (Below.refl _ _)
      obtain ⟨_, u, p1, _⟩ := hT.st _ _ hlk
      have p0 := p1.at (j := 0) rfl
      have HR : Hid (w.heap.size ≤ wr.heap.size ∧ (wr.alloc (.cells #[.int .i64 s.seq, .int .i64 s.fr] 70)).ownsRow w.heap.size 70 2 (.slice a' i c') i (flatS (m.L.take i))) := ⟨HI.out.2.2.size, row_kp HI.out.1 (kp_alloc _ _)⟩
      have HF : Hid (∀ v4 w4, w4.ownsRow w.heap.size 70 2 v4 (i + 1) (flatS (m.L.take i) ++ [.int .i64 s.seq, .int .i64 s.fr]) → (wr.alloc (.cells #[.int .i64 s.seq, .int .i64 s.fr] 70)).grownBy w4 (Value.slice a' i c').ownBlock → ∃ a4 c4, v4 = .slice a4 (i + 1) c4 ∧ Hid (w4.ownsRow w.heap.size 70 2 (.slice a4 (i + 1) c4) (i + 1) (flatS (m.L.take (i + 1))) ∧ w4.ownsRow w.heap.size 3 1 (.slice (some ⟨g, 0, none⟩) N cap) N (zcs (m.L.map St.seq)) ∧ Kp w w4)) := fun v4 w4 x1 x2 => by
        obtain ⟨a4, c4, rfl, _, _⟩ := owns_form x1
        refine ⟨a4, c4, rfl, ?_, ?_, ?_⟩
        · rw [take_snoc m.L hsi, flatS_app]; exact x1
        · exact row_fr (row_kp HI.out.2.1 (kp_alloc _ _)) (fr_grown x2) fun j hj e => row_row HI.out.1 HI.out.2.1 (by decide) j e.symm hj
        · exact (kp_trans HI.out.2.2 (kp_alloc _ _)).trans (below_grown HR.out.2 (by have := HR.out.1; rw [alloc_size]; omega) x2)
      have HNEW : Hid (∀ j u, ([.int .i64 s.seq, .int .i64 s.fr] : List Value)[j]? = some u → (wr.alloc (.cells #[.int .i64 s.seq, .int .i64 s.fr] 70)).cell? ((⟨wr.heap.size, 0, none⟩ : Addr).add j) = some u) := fun j u hj => by
        rw [addr_add]; exact (Lc.new wr [.int .i64 s.seq, .int .i64 s.fr] 70).at hj
      have HONE : Hid (∀ u ∈ ([.int .i64 s.seq, .int .i64 s.fr] : List Value), u.oneCell' = true) := flatS_one [s]
      have HBW : Hid (w.heap.size ≤ (wr.alloc (.cells #[.int .i64 s.seq, .int .i64 s.fr] 70)).heap.size) := by have := HR.out.1; show _ ≤ _; rw [alloc_size]; omega
      clear hT p1 hlk hsi HI
      go_wp2_with (at_builtin; refine wpList_append_own _ rfl (.tmp 13) (.tmp 25) 66 rfl w.heap.size 70 i9 _ 2 16 Tryz.underlying66 hi9 z0 z1 z2 rfl (by decide) (.slice a' i c') i (flatS (m.L.take i)) rfl HR.out.2 ⟨wr.heap.size, 0, none⟩ 1 1 [.int .i64 s.seq, .int .i64 s.fr] rfl rfl HNEW.out HONE.out (by unfold maxLen; omega) (by omega) HBW.out ?_; intro v4 w4 x1 x2 _; obtain ⟨a4, c4, rfl, H4⟩ := HF.out v4 w4 x1 x2; clear x1 x2)
      go_roundw
      case rel => exact ⟨i + 1, a4, c4, by omega, by go_num, rfl, H4.out⟩
      case measure => simp only [intOf]; omega
    · obtain rfl : i = N := by omega
      have d1 : decide ((i : Int) < (i : Int)) = false := by simp
      have HX : Hid (Sr w.heap.size (.slice a' i c') m.L wr ∧ Kp w wr) := by
        have h1 := HI.out.1
        rw [List.take_of_length_le (by rw [HL.out]; exact Nat.le_refl _)] at h1
        exact ⟨by unfold Sr; rw [HL.out]; exact h1, HI.out.2.2⟩
      clear HI
      go_wp2_with fail
      go_ret
      exact ⟨_, rfl, HX.out⟩
end
end Go.Proofs.YtaefeakmlgjonaaGreat
/- What is kept of a tree. -/
namespace Go.Proofs.YtaefeakmlgjonaaGreat
open Go.ChangeShapes Go.WideShapes Go.ChangeAt Go.RowKit Go.Maps Go.MapKept
set_option linter.unusedVariables false
set_option linter.unusedSimpArgs false
structure Inv (m : Tr) : Prop where
  fam : Fam m.L m.next
  sq : (m.L.map St.seq).Pairwise (· < ·)
  nw : look m.L m.now ≠ none
section
variable {m : Tr} {s : St} {ds : List Dl}
theorem inv_first (most : Int) : Inv (first most) := by
  have hl : ∀ x s, look (first most).L x = some s → x = 0 ∧ s = ⟨0, -1, -1, []⟩ := fun x s h => by
    unfold first at h; rw [look_cons] at h
    split at h
    · rename_i e; cases h; exact ⟨e.symm, rfl⟩
    · cases h
  have h0 : look (first most).L 0 = some ⟨0, -1, -1, []⟩ := rfl
  refine ⟨⟨fun x s h => ?_, ⟨0, _, h0, rfl, fun x hx => ?_⟩, fun x s h ho => ?_, fun x s h => ?_⟩, by simp [first], by show look (first most).L 0 ≠ none; rw [h0]; simp⟩
  · obtain ⟨rfl, rfl⟩ := hl x s h; exact ⟨by decide, by decide, by decide, by show (0 : Int) < 1; decide⟩
  · obtain ⟨s, hs⟩ := Option.ne_none_iff_exists'.1 hx
    obtain ⟨rfl, _⟩ := hl x s hs
    exact ⟨[], .nil _⟩
  · obtain ⟨rfl, rfl⟩ := hl x s h; exact absurd rfl ho
  · obtain ⟨rfl, rfl⟩ := hl x s h; exact ⟨by simp, by simp⟩
theorem Fam.none_next {L : List St} {next : Int} (F : Fam L next) : look L next = none := by
  cases e : look L next with
  | none => rfl
  | some s => have := F.fr _ _ e; omega
theorem Inv.lt (h : Inv m) : 0 ≤ m.now ∧ m.now < m.next := by
  obtain ⟨s, hs⟩ := Option.ne_none_iff_exists'.1 h.nw
  have := h.fam.fr _ _ hs; omega
theorem addT_look (h : Inv m) (x : Int) : look (addT m ds).L x = if x = m.next then some ⟨m.next, m.now, -1, ds⟩ else (look m.L x).map fun s => if x = m.now then { s with on := m.next } else s := by
  have hn : look (setOn m.L m.now m.next) m.next = none := by rw [look_on, h.fam.none_next]; rfl
  show look (setOn m.L m.now m.next ++ [⟨m.next, m.now, -1, ds⟩]) x = _
  rw [look_snoc hn, look_on]
theorem Inv.add (h : Inv m) (hf : Few 2000 ds) : Inv (addT m ds) := by
  have hlt := h.lt
  have old : ∀ x s, look m.L x = some s → ∃ s', look (addT m ds).L x = some s' ∧ s'.fr = s.fr ∧ s'.by_ = s.by_ ∧ (x = m.now → s'.on = m.next) ∧ (x ≠ m.now → s'.on = s.on) := fun x s hs => by
    have := h.fam.fr _ _ hs
    rw [addT_look h, if_neg (by omega), hs]
    by_cases q : x = m.now
    · exact ⟨_, rfl, by simp [q], by simp [q], fun _ => by simp [q], fun e => absurd q e⟩
    · exact ⟨_, rfl, by simp [q], by simp [q], fun e => absurd e q, fun _ => by simp [q]⟩
  have new : look (addT m ds).L m.next = some ⟨m.next, m.now, -1, ds⟩ := by rw [addT_look h, if_pos rfl]
  have inv : ∀ x s, look (addT m ds).L x = some s → (x = m.next ∧ s = ⟨m.next, m.now, -1, ds⟩) ∨ ∃ s0, look m.L x = some s0 ∧ s.fr = s0.fr ∧ s.by_ = s0.by_ ∧ (x = m.now → s.on = m.next) ∧ (x ≠ m.now → s.on = s0.on) := fun x s hs => by
    by_cases q : x = m.next
    · subst q; rw [new] at hs; cases hs; exact .inl ⟨rfl, rfl⟩
    · rw [addT_look h, if_neg q] at hs
      obtain ⟨s0, h0, _⟩ := Option.map_eq_some_iff.1 hs
      obtain ⟨s', k1, k2, k3, k4, k5⟩ := old x s0 h0
      rw [addT_look h, if_neg q, hs] at k1; cases k1
      exact .inr ⟨s0, h0, k2, k3, k4, k5⟩
  have up : ∀ {x l y}, Up m.L x l y → Up (addT m ds).L x l y := fun hu => hu.mono fun x s hs => by obtain ⟨s', k1, k2, _⟩ := old x s hs; exact ⟨s', k1, k2⟩
  refine ⟨⟨fun x s hs => ?_, ?_, fun x s hs ho => ?_, fun x s hs => ?_⟩, ?_, ?_⟩
  · show _ ∧ _ ∧ _ ∧ x < m.next + 1
    rcases inv x s hs with ⟨rfl, rfl⟩ | ⟨s0, h0, k2, _⟩
    · exact ⟨by show -1 ≤ m.now; omega, by show m.now < _; omega, by omega, by omega⟩
    · have := h.fam.fr _ _ h0; rw [k2]; omega
  · obtain ⟨r, sr, h1, h2, h3⟩ := h.fam.rt
    obtain ⟨s', k1, k2, _⟩ := old r sr h1
    refine ⟨r, s', k1, k2.trans h2, fun x hx => ?_⟩
    obtain ⟨s, hs⟩ := Option.ne_none_iff_exists'.1 hx
    rcases inv x s hs with ⟨rfl, rfl⟩ | ⟨s0, h0, _⟩
    · obtain ⟨l, hl⟩ := h3 m.now h.nw
      exact ⟨m.next :: l, .cons new (by show m.now ≠ -1; omega) (up hl)⟩
    · obtain ⟨l, hl⟩ := h3 x (by rw [h0]; simp)
      exact ⟨l, up hl⟩
  · rcases inv x s hs with ⟨rfl, rfl⟩ | ⟨s0, h0, k2, k3, k4, k5⟩
    · exact absurd rfl ho
    · by_cases q : x = m.now
      · rw [k4 q]; exact ⟨_, new, q.symm⟩
      · rw [k5 q] at ho ⊢
        obtain ⟨s1, j1, j2⟩ := h.fam.on x s0 h0 ho
        obtain ⟨s', i1, i2, _⟩ := old _ _ j1
        exact ⟨s', i1, i2.trans j2⟩
  · rcases inv x s hs with ⟨rfl, rfl⟩ | ⟨s0, h0, k2, k3, _⟩
    · exact hf
    · rw [k3]; exact h.fam.few x s0 h0
  · show ((setOn m.L m.now m.next ++ [_]).map St.seq).Pairwise (· < ·)
    rw [List.map_append, setOn_seq, List.map_singleton, List.pairwise_append]
    refine ⟨h.sq, by simp, fun x hx y hy => ?_⟩
    simp only [List.mem_singleton] at hy
    subst hy
    obtain ⟨s, hs⟩ := Option.ne_none_iff_exists'.1 (look_ne.2 hx)
    have := h.fam.fr _ _ hs; omega
  · show look (addT m ds).L m.next ≠ none
    rw [new]; simp
theorem Inv.up (h : Inv m) (hs : look m.L m.now = some s) (hf : s.fr ≠ -1) : Inv { m with now := s.fr } := ⟨h.fam, h.sq, h.fam.from_there hs hf⟩
theorem Inv.down (h : Inv m) (hs : look m.L m.now = some s) (ho : s.on ≠ -1) : Inv { m with now := s.on } := ⟨h.fam, h.sq, by obtain ⟨s', q, _⟩ := h.fam.on _ _ hs ho; show look m.L s.on ≠ none; rw [q]; simp⟩
theorem Inv.go (h : Inv m) {seq top : Int} {l1 l2 : List Int} (hm : Meet m.L m.now seq top l1 l2) (hs : look m.L seq ≠ none) : Inv { m with L := led m.L l2 top, now := seq } := by
  obtain ⟨q1, q2⟩ := h.fam.led hm.u2
  exact ⟨q1, by show ((led m.L l2 top).map St.seq).Pairwise _; rw [q2]; exact h.sq, (ne_led _ _ _).2 hs⟩
theorem Inv.nodup (h : Inv m) : (m.L.map St.seq).Nodup := h.sq.imp fun h e => by omega
theorem led_len : ∀ (l : List Int) (L : List St) (y : Int), (led L l y).length = L.length
  | [], _, _ => rfl
  | c :: r, L, y => by show (led (setOn L (r.headD y) c) r y).length = _; rw [led_len r, setOn_len]
theorem addT_len (m : Tr) (ds : List Dl) : (addT m ds).L.length = m.L.length + 1 := by simp [addT, setOn_len]
end
end Go.Proofs.YtaefeakmlgjonaaGreat
/- emendatorref12.Turn. -/
namespace Go.Proofs.YtaefeakmlgjonaaGreat
open Go.ChangeShapes Go.WideShapes Go.ChangeAt Go.RowKit Go.Maps Go.MapKept
set_option linter.unusedVariables false
set_option linter.unusedSimpArgs false
set_option maxRecDepth 100000
theorem turn_take (ds : List Dl) {i : Nat} {d : Dl} (h : ds[i]? = some d) : turnD (ds.drop i) = turnD (ds.drop (i + 1)) ++ [tn d] := by
  have hl := (List.getElem?_eq_some_iff.1 h)
  obtain ⟨h1, rfl⟩ := hl
  unfold turnD
  rw [List.drop_eq_getElem_cons h1, List.reverse_cons, List.map_append]; rfl
set_option maxHeartbeats 8000000 in
theorem rturn_any {P : Nat → Prop} {X : Xl} {v : Value} {ds : List Dl} {w : World} (ok : Okx w.heap.size X) (h : Dr P X v ds w) (hn : ds.length ≤ 2513169434916) :
    Calls Tryz.prog 137 #[v] w fun e w' => ∃ v', e = .returned v' ∧ Dx X w.heap.size v' (turnD ds) w' ∧ Kp w w' := by
  obtain ⟨a, cap, rfl, h1, h2, h3⟩ := h.form
  obtain ⟨n, hn0⟩ : ∃ n, ds.length = n := ⟨_, rfl⟩
  have HS : Hid (Dr P X (.slice a n cap) ds w ∧ ds.length = n) := ⟨by rw [← hn0]; exact h, hn0⟩
  rw [hn0] at hn ⊢
  clear h h1 h2 h3 hn0
  go_enter Tryz.func137, Tryz.ntmps137
  go_wp2_with fail
  go_loopw [3, 4] (fun v3 v4 wr => ∃ (i : Nat) (a' : Option Addr) (c' m : Nat), i + m = n ∧ v4 = .int .i64 ((i : Int) - 1) ∧ v3 = .slice a' m c' ∧ Hid (Dx X w.heap.size (.slice a' m c') (turnD (ds.drop i)) wr ∧ Kp w wr)) (fun _ v4 _ => (intOf v4 + 1).toNat)
  case atStart => exact ⟨n, none, 0, 0, by omega, by go_num, rfl, by rw [List.drop_eq_nil_of_le (by rw [HS.out.2]; exact Nat.le_refl _)]; exact Dx.nil _ _ _, Below.refl _ _⟩
  case round =>
    obtain ⟨i, a', c', m, hi, rfl, rfl, HI⟩ := hrel
    rcases Nat.eq_zero_or_pos i with q | q
    · subst q
      have d1 : decide (((0 : Nat) : Int) - 1 ≥ 0) = false := by decide
      have HX : Hid (Dx X w.heap.size (.slice a' m c') (turnD ds) wr ∧ Kp w wr) := HI.out
      clear HI
      go_wp2_with fail
      go_ret
      exact ⟨_, rfl, HX.out⟩
    · obtain ⟨k, rfl⟩ : ∃ k, i = k + 1 := ⟨i - 1, by omega⟩
      have ek : ((k + 1 : Nat) : Int) - 1 = (k : Int) := by omega
      rw [ek]
      have d1 : decide ((k : Int) ≥ 0) = true := decide_eq_true (by omega)
      have d2 : decide ((0 : Int) ≤ (k : Int)) = true := decide_eq_true (by omega)
      have hk : k < n := by omega
      obtain ⟨d, hd⟩ : ∃ d, ds[k]? = some d := ⟨_, List.getElem?_eq_getElem (by rw [HS.out.2]; exact hk)⟩
      obtain ⟨g, o, x, y, rfl, _, c0, c1, c2, hx, hy⟩ := HS.out.1.at_ hd
      have hgw : g < w.heap.size := World.block_lt_of_cell? _ _ c0
      replace c0 := kp_cell HI.out.2 c0
      replace c1 := kp_cell HI.out.2 c1
      replace c2 := kp_cell HI.out.2 c2
      replace hx := ok.kp hx HI.out.2
      replace hy := ok.kp hy HI.out.2
      obtain ⟨xa, xc, rfl, _⟩ := (ok.sl hx).form
      obtain ⟨ya, yc, rfl, _⟩ := (ok.sl hy).form
      have HX : Hid (X (.slice xa d.old.length xc) d.old wr ∧ X (.slice ya d.nw.length yc) d.nw wr) := ⟨hx, hy⟩
      have HD : Hid (turnD (ds.drop k) = turnD (ds.drop (k + 1)) ++ [tn d] ∧ (turnD (ds.drop (k + 1))).length + [tn d].length = m + 1) := ⟨turn_take ds hd, by rw [turnD_len, List.length_drop, HS.out.2]; simp; omega⟩
      clear hx hy hd
      have H4 : Hid (∀ W, Kp wr W → Dx X w.heap.size (.slice a' m c') (turnD (ds.drop (k + 1))) (W.alloc (.cells #[.int .i64 d.at_, .slice ya d.nw.length yc, .slice xa d.old.length xc] 89)) ∧ Dr (fun _ => True) X (.slice (some ⟨W.heap.size, 0, none⟩) 1 1) [tn d] (W.alloc (.cells #[.int .i64 d.at_, .slice ya d.nw.length yc, .slice xa d.old.length xc] 89)) ∧ w.heap.size ≤ (W.alloc (.cells #[.int .i64 d.at_, .slice ya d.nw.length yc, .slice xa d.old.length xc] 89)).heap.size ∧ True ∧ Below w.heap.size wr (W.alloc (.cells #[.int .i64 d.at_, .slice ya d.nw.length yc, .slice xa d.old.length xc] 89))) := fun W k => by
        have k2 : Kp wr (W.alloc (.cells #[.int .i64 d.at_, .slice ya d.nw.length yc, .slice xa d.old.length xc] 89)) := kp_more k _
        refine ⟨HI.out.1.kp ok k2, Dr.one (d := tn d) (ok.kp HX.out.2 k2) (ok.kp HX.out.1 k2) (Lc.new W _ _), by have := HI.out.2.size; have := k2.size; omega, trivial, k2.mono HI.out.2.size⟩
      have HKW : Hid (Kp w wr) := HI.out.2
      have HNE : Hid (some g ≠ (Value.slice a' m c').ownBlock) := fun e => by obtain ⟨cs, hr, _⟩ := HI.out.1; have := (hr.lt g e.symm).1; omega
      generalize d.old.length = n1 at *
      generalize d.nw.length = n2 at *
      clear HI HX
      go_upto_region 5 with fail
      have HF : Hid (∀ w5, Below w.heap.size wr w5 → ∀ a3 e3, Dx X w.heap.size (.slice a3 (m + 1) e3) (turnD (ds.drop (k + 1)) ++ [tn d]) w5 → Dx X w.heap.size (.slice a3 (m + 1) e3) (turnD (ds.drop k)) w5 ∧ Kp w w5) := fun w5 k5 a3 e3 q => ⟨by rw [HD.out.1]; exact q, HKW.out.trans k5⟩
      refine wp_region_noPanic ?_
      refine wp_region_held_drew (S := fun z => z.cell? ⟨g, o + k * 3, none⟩ = some (.int .i64 d.at_) ∧ z.cell? ⟨g, o + k * 3 + 1, none⟩ = some (.slice xa n1 xc) ∧ z.cell? ⟨g, o + k * 3 + 2, none⟩ = some (.slice ya n2 yc)) (by kernel_rfl) (⟨c0, c1, c2⟩) (fun hHeld => ?_)
      refine takeAt 0 (some 12) ?_ rfl rfl (by kernel_rfl) (by kernel_rfl) (by kernel_rfl) (fun _ _ _ h => h) (Or.inl ⟨by rfl, ?_⟩) hHeld ?_
      rotate_left
      · intro w hSw
        go_simp <;> with_reducible rfl
      try simp only [Act.put, List.setIfInBounds_toArray, List.set_cons_zero, List.set_cons_succ]
      refine takeAt 1 (some 13) ?_ rfl rfl (by kernel_rfl) (by kernel_rfl) (by kernel_rfl) (fun _ _ _ h => h) (Or.inl ⟨by rfl, ?_⟩) hHeld ?_
      rotate_left
      · intro w hSw
        go_simp <;> with_reducible rfl
      try simp only [Act.put, List.setIfInBounds_toArray, List.set_cons_zero, List.set_cons_succ]
      refine takeAt 2 (some 14) ?_ rfl rfl (by kernel_rfl) (by kernel_rfl) (by kernel_rfl) (fun _ _ _ h => h) (Or.inl ⟨by rfl, ?_⟩) hHeld ?_
      rotate_left
      · intro w hSw
        go_simp <;> with_reducible rfl
      try simp only [Act.put, List.setIfInBounds_toArray, List.set_cons_zero, List.set_cons_succ]
      refine takeAt 3 (some 15) ?_ rfl rfl (by kernel_rfl) (by kernel_rfl) (by kernel_rfl) (fun _ _ _ h => h) (Or.inl ⟨by rfl, ?_⟩) hHeld ?_
      rotate_left
      · intro w hSw
        go_simp <;> with_reducible rfl
      try simp only [Act.put, List.setIfInBounds_toArray, List.set_cons_zero, List.set_cons_succ]
      refine takeAt 4 (some 16) ?_ rfl rfl (by kernel_rfl) (by kernel_rfl) (by kernel_rfl) (fun _ _ _ h => h) (Or.inl ⟨by rfl, ?_⟩) hHeld ?_
      rotate_left
      · intro w hSw
        go_simp <;> with_reducible rfl
      try simp only [Act.put, List.setIfInBounds_toArray, List.set_cons_zero, List.set_cons_succ]
      refine takeAt 5 (some 17) ?_ rfl rfl (by kernel_rfl) (by kernel_rfl) (by kernel_rfl) (fun _ _ _ h => h) (Or.inl ⟨by rfl, ?_⟩) hHeld ?_
      rotate_left
      · intro w hSw
        go_simp <;> with_reducible rfl
      try simp only [Act.put, List.setIfInBounds_toArray, List.set_cons_zero, List.set_cons_succ]
      refine takeAt 6 (some 18) ?_ rfl rfl (by kernel_rfl) (by kernel_rfl) (by kernel_rfl) (fun _ _ _ h => h) (Or.inl ⟨by rfl, ?_⟩) hHeld ?_
      rotate_left
      · intro w hSw
        go_simp <;> with_reducible rfl
      try simp only [Act.put, List.setIfInBounds_toArray, List.set_cons_zero, List.set_cons_succ]
      refine takeAt 7 (some 19) ?_ rfl rfl (by kernel_rfl) (by kernel_rfl) (by kernel_rfl) (fun _ _ _ h => h) (Or.inl ⟨by rfl, ?_⟩) hHeld ?_
      rotate_left
      · intro w hSw
        go_simp <;> with_reducible rfl
      try simp only [Act.put, List.setIfInBounds_toArray, List.set_cons_zero, List.set_cons_succ]
      refine takeAt 8 (some 20) ?_ rfl rfl (by kernel_rfl) (by kernel_rfl) (by kernel_rfl) (fun _ _ _ h => h) (Or.inl ⟨by rfl, ?_⟩) hHeld ?_
      rotate_left
      · intro w hSw
        go_simp <;> with_reducible rfl
      try simp only [Act.put, List.setIfInBounds_toArray, List.set_cons_zero, List.set_cons_succ]
      refine takeAt 9 (some 21) ?_ rfl rfl (by kernel_rfl) (by kernel_rfl) (by kernel_rfl) (fun _ _ _ h => h) (Or.inl ⟨by rfl, ?_⟩) hHeld ?_
      rotate_left
      · intro w hSw
        go_simp <;> with_reducible rfl
      try simp only [Act.put, List.setIfInBounds_toArray, List.set_cons_zero, List.set_cons_succ]
      refine takeAt 10 (some 22) ?_ rfl rfl (by kernel_rfl) (by kernel_rfl) (by kernel_rfl) (fun _ _ _ h => h) (Or.inl ⟨by rfl, ?_⟩) hHeld ?_
      rotate_left
      · intro w hSw
        go_simp <;> with_reducible rfl
      try simp only [Act.put, List.setIfInBounds_toArray, List.set_cons_zero, List.set_cons_succ]
      refine takeAt 11 (some 23) ?_ rfl rfl (by kernel_rfl) (by kernel_rfl) (by kernel_rfl) (fun _ _ _ h => h) (Or.inl ⟨by rfl, ?_⟩) hHeld ?_
      rotate_left
      · intro w hSw
        go_simp <;> with_reducible rfl
      try simp only [Act.put, List.setIfInBounds_toArray, List.set_cons_zero, List.set_cons_succ]
      refine takeAt 12 (some 24) ?_ rfl rfl (by kernel_rfl) (by kernel_rfl) (by kernel_rfl) (fun _ _ _ h => h) (Or.inl ⟨by rfl, ?_⟩) hHeld ?_
      rotate_left
      · intro w hSw
        go_simp <;> with_reducible rfl
      try simp only [Act.put, List.setIfInBounds_toArray, List.set_cons_zero, List.set_cons_succ]
      refine takeAt 13 (some 25) ?_ rfl rfl (by kernel_rfl) (by kernel_rfl) (by kernel_rfl) (fun _ _ _ h => h) (Or.inl ⟨by rfl, ?_⟩) hHeld ?_
      rotate_left
      · intro w hSw
        go_simp <;> with_reducible rfl
      try simp only [Act.put, List.setIfInBounds_toArray, List.set_cons_zero, List.set_cons_succ]
      refine takeAt 14 (some 26) ?_ rfl rfl (by kernel_rfl) (by kernel_rfl) (by kernel_rfl) (fun _ _ _ h => h) (Or.inl ⟨by rfl, ?_⟩) hHeld ?_
      rotate_left
      · intro w hSw
        go_simp <;> with_reducible rfl
      try simp only [Act.put, List.setIfInBounds_toArray, List.set_cons_zero, List.set_cons_succ]
      refine takeAt 15 (some 27) ?_ rfl rfl (by kernel_rfl) (by kernel_rfl) (by kernel_rfl) (fun _ _ _ h => h) (Or.inl ⟨by rfl, ?_⟩) hHeld ?_
      rotate_left
      · intro w hSw
        go_simp <;> with_reducible rfl
      try simp only [Act.put, List.setIfInBounds_toArray, List.set_cons_zero, List.set_cons_succ]
      refine takeAt 16 (some 28) ?_ rfl rfl (by kernel_rfl) (by kernel_rfl) (by kernel_rfl) (fun _ _ _ h => h) (Or.inl ⟨by rfl, ?_⟩) hHeld ?_
      rotate_left
      · intro w hSw
        go_simp <;> with_reducible rfl
      try simp only [Act.put, List.setIfInBounds_toArray, List.set_cons_zero, List.set_cons_succ]
      have hb0 : g < wr.heap.size := World.block_lt_of_cell? _ _ c0
      refine wpAnyH_ready (rs := [17]) (by kernel_rfl) (by simp) ?_
      refine AllReadyH.cons rfl (fun K hK => ?_) AllReadyH.nil
      go_simp
      refine hK.out _ _ (⟨kp_cell (kp_alloc _ _) hHeld.1, kp_cell (kp_alloc _ _) hHeld.2.1, kp_cell (kp_alloc _ _) hHeld.2.2⟩) (fun hHeld => ?_)
      clear hK K
      try simp only [Act.put, List.setIfInBounds_toArray, List.set_cons_zero, List.set_cons_succ]
      have HZ : Hid _ := H4.out _ (kp_drew wr)
      refine wpAnyH_ready (rs := [18]) (by kernel_rfl) (by simp) ?_
      refine AllReadyH.cons rfl (fun K1 hK => ?_) AllReadyH.nil
      refine step_del (M := m + 1) rfl (.tmp 12) (.tmp 29) rfl ok rfl HZ.out.1 rfl HZ.out.2.1 HD.out.2 (by omega) HZ.out.2.2.1 ?_
      intro a3 e3 w5 q1 q2 q3
      have HQ : Hid _ := HF.out w5 (Below.trans HZ.out.2.2.2.2 q3) a3 e3 q1
      have hS5 : w5.cell? ⟨g, o + k * 3, none⟩ = some (.int .i64 d.at_) ∧ w5.cell? ⟨g, o + k * 3 + 1, none⟩ = some (.slice xa n1 xc) ∧ w5.cell? ⟨g, o + k * 3 + 2, none⟩ = some (.slice ya n2 yc) := by
        have hlt4 : g < (wr.drew.alloc (.cells #[.int .i64 d.at_, .slice ya n2 yc, .slice xa n1 xc] 89)).heap.size := by rw [alloc_size]; show g < wr.heap.size + 1; omega
        have hne : some g ≠ (Value.slice a' m c').ownBlock := fun e => HNE.out e
        refine ⟨?_, ?_, ?_⟩ <;> (rw [q2.cell_far _ hlt4 hne]; first | exact hHeld.1 | exact hHeld.2.1 | exact hHeld.2.2)
      clear q1 q2 q3
      change K1 (Act.put _ (some 30) (.slice a3 (m + 1) e3)) w5
      refine hK.out _ _ hS5 (fun hHeld => ?_)
      clear hK K1
      try simp only [Act.put, List.setIfInBounds_toArray, List.set_cons_zero, List.set_cons_succ]
      refine wpAnyH_ready (rs := [19]) (by kernel_rfl) (by simp) ?_
      refine AllReadyH.cons rfl (fun K hK => ?_) AllReadyH.nil
      go_simp
      refine hK.out _ _ (hHeld) (fun hHeld => ?_)
      clear hK K
      try simp only [Act.put, List.setIfInBounds_toArray, List.set_cons_zero, List.set_cons_succ]
      refine wpAnyH_done (by kernel_rfl) ?_ _
      refine NoPanic.normal ?_
      go_wp2_with fail
      go_roundw
      case rel => exact ⟨k, a3, e3, m + 1, by omega, by go_num, rfl, HQ.out⟩
      case measure => simp only [intOf]; omega
end Go.Proofs.YtaefeakmlgjonaaGreat
/- The document's tree in memory; find, lent, New. -/
namespace Go.Proofs.YtaefeakmlgjonaaGreat
open Go.ChangeShapes Go.WideShapes Go.ChangeAt Go.RowKit Go.Maps Go.MapKept
set_option linter.unusedVariables false
set_option linter.unusedSimpArgs false
set_option maxRecDepth 100000
/-- What the document's tree turns. -/
def TQ : Obj → Prop
  | .cells _ e _ => e = 153 ∨ e = 150
  | _ => False
theorem tq_of {e : TypeId} (h1 : e ≠ 153) (h2 : e ≠ 150) (cur : Array Value) (fr : Nat × Nat) : ¬ TQ (.cells cur e fr) := fun q => by rcases q with q | q; exact h1 q; exact h2 q
/-- States as they lie there. -/
def flatR : List St → List Value → List Value
  | s :: r, v :: vs => .int .i64 s.seq :: .int .i64 s.fr :: v :: .int .i64 s.on :: flatR r vs
  | _, _ => []
theorem flatR_len : ∀ (L : List St) (vs : List Value), vs.length = L.length → (flatR L vs).length = L.length * 4
  | [], [], _ => rfl
  | s :: r, v :: vs, h => by simp only [flatR, List.length_cons, flatR_len r vs (by simpa using h)]; omega
  | [], _ :: _, h => by simp at h
  | _ :: _, [], h => by simp at h
theorem flatR_at : ∀ {L : List St} {vs : List Value} {i : Nat} {s : St} {v : Value}, L[i]? = some s → vs[i]? = some v → (flatR L vs)[i * 4]? = some (.int .i64 s.seq) ∧ (flatR L vs)[i * 4 + 1]? = some (.int .i64 s.fr) ∧ (flatR L vs)[i * 4 + 2]? = some v ∧ (flatR L vs)[i * 4 + 3]? = some (.int .i64 s.on)
  | [], _, i, s, v, h, _ => by cases h
  | _ :: _, [], i, s, v, _, h => by cases h
  | d :: r, u :: vs, 0, s, v, h1, h2 => by cases h1; cases h2; exact ⟨rfl, rfl, rfl, rfl⟩
  | d :: r, u :: vs, i + 1, s, v, h1, h2 => by
    have q := flatR_at (L := r) (vs := vs) (i := i) h1 h2
    rw [show (i + 1) * 4 = i * 4 + 1 + 1 + 1 + 1 by omega]
    exact q
theorem flatR_snoc : ∀ (L : List St) (vs : List Value) (s : St) (v : Value), vs.length = L.length → flatR (L ++ [s]) (vs ++ [v]) = flatR L vs ++ [.int .i64 s.seq, .int .i64 s.fr, v, .int .i64 s.on]
  | [], [], s, v, _ => rfl
  | d :: r, u :: vs, s, v, h => by simp only [List.cons_append, flatR, flatR_snoc r vs s v (by simpa using h)]
  | [], _ :: _, _, _, h => by simp at h
  | _ :: _, [], _, _, h => by simp at h
/-- Of each state the changes. -/
def Bys (C : Nat) (L : List St) (vs : List Value) (w : World) : Prop := vs.length = L.length ∧ ∀ (i : Nat) (s : St) (u : Value), L[i]? = some s → vs[i]? = some u → Dw 0 u s.by_ w ∧ ∀ j, u.ownBlock = some j → j < C
/-- The document's tree, in memory. -/
structure Rb (B C r : Nat) (v : Value) (vs : List Value) (m : Tr) (w : World) : Prop where
  lr : B ≤ r
  box : Lc 153 r [.int .i64 m.most, v, .int .i64 m.now, .int .i64 m.next] w
  row : w.ownsRow B 150 4 v m.L.length (flatR m.L vs)
  bys : Bys C m.L vs w
def Rw (B C r : Nat) (m : Tr) (w : World) : Prop := ∃ v vs, Rb B C r v vs m w
section
variable {Q : Nat → Prop} {B C r : Nat} {v : Value} {vs : List Value} {m : Tr} {w w1 : World} {T : Obj → Prop} {D : Nat}
theorem Bys.kp {L : List St} (h : Bys C L vs w) (k : Kp w w1) : Bys C L vs w1 := ⟨h.1, fun i s u h1 h2 => ⟨(h.2 i s u h1 h2).1.kp (okRow _ _) k, (h.2 i s u h1 h2).2⟩⟩
theorem Bys.ff {L : List St} (h : Bys C L vs w) (k : Ff T D w w1) (h1 : ∀ cur fr, ¬ T (.cells cur 89 fr)) (h2 : ∀ cur fr, ¬ T (.cells cur 9 fr)) : Bys C L vs w1 := ⟨h.1, fun i s u q1 q2 => ⟨(h.2 i s u q1 q2).1.ff k h1 h2, (h.2 i s u q1 q2).2⟩⟩
theorem Rb.kp (h : Rb B C r v vs m w) (k : Kp w w1) : Rb B C r v vs m w1 := ⟨h.lr, h.box.kp k, row_kp h.row k, h.bys.kp k⟩
theorem Rw.kp (h : Rw B C r m w) (k : Kp w w1) : Rw B C r m w1 := by obtain ⟨v, vs, h⟩ := h; exact ⟨v, vs, h.kp k⟩
/-- What package undo does leaves it. -/
theorem Rw.ff (h : Rw B C r m w) (k : Ff TP D w w1) : Rw B C r m w1 := by
  obtain ⟨v, vs, h⟩ := h
  have tp : ∀ e : TypeId, e ≠ 119 → e ≠ 123 → ∀ cur fr, ¬ TP (.cells cur e fr) := fun e h1 h2 cur fr q => by rcases q with q | q; exact h1 q; exact h2 q
  exact ⟨v, vs, h.lr, h.box.ff k (tp _ (by decide) (by decide)), row_ff h.row k (tp _ (by decide) (by decide)), h.bys.ff k tp_delta tp_str⟩
theorem Rw.up {C' : Nat} (h : Rw B C r m w) (hC : C ≤ C') : Rw B C' r m w := by
  obtain ⟨v, vs, h⟩ := h
  exact ⟨v, vs, h.lr, h.box, h.row, h.bys.1, fun i s u h1 h2 => ⟨(h.bys.2 i s u h1 h2).1, fun j hj => Nat.lt_of_lt_of_le ((h.bys.2 i s u h1 h2).2 j hj) hC⟩⟩
theorem Rw.sized (h : Rw B C r m w) : Rw B w.heap.size r m w := by
  obtain ⟨v, vs, h⟩ := h
  refine ⟨v, vs, h.lr, h.box, h.row, h.bys.1, fun i s u h1 h2 => ⟨(h.bys.2 i s u h1 h2).1, fun j hj => ?_⟩⟩
  obtain ⟨cs, q, _⟩ := (h.bys.2 i s u h1 h2).1
  exact (q.lt j hj).2
/-- What the document's tree does leaves package undo's. -/
theorem Tw.ffq {t : Nat} (h : Tw Q B C t m w) (k : Ff TQ D w w1) : Tw Q B C t m w1 := by
  obtain ⟨b, q, h⟩ := h
  obtain ⟨es, c, hb, hrest⟩ := h.map
  refine ⟨b, q, h.lt, h.lb, h.box.ff k (tq_of (by decide) (by decide)), ⟨es, c, k.keep hb (fun q => q), hrest⟩, fun x s hx => ?_, h.inj⟩
  obtain ⟨h1, v, h2, h3, h4⟩ := h.st x s hx
  exact ⟨h1, v, h2.ff k (tq_of (by decide) (by decide)), h3.ffQ k (tq_of (by decide) (by decide)) (tq_of (by decide) (by decide)), h4⟩
theorem Rb.cell (h : Rb B C r v vs m w) {i : Nat} {s : St} (hi : m.L[i]? = some s) : ∃ g c u, v = .slice (some ⟨g, 0, none⟩) m.L.length c ∧ B ≤ g ∧ m.L.length ≤ c ∧ c ≤ maxLen ∧ vs[i]? = some u ∧ w.cell? ⟨g, i * 4, none⟩ = some (.int .i64 s.seq) ∧ w.cell? ⟨g, i * 4 + 1, none⟩ = some (.int .i64 s.fr) ∧ w.cell? ⟨g, i * 4 + 2, none⟩ = some u ∧ w.cell? ⟨g, i * 4 + 3, none⟩ = some (.int .i64 s.on) ∧ (∀ j, w.frozen? ⟨g, j, none⟩ = false) := by
  have hl := (List.getElem?_eq_some_iff.1 hi).1
  obtain ⟨u, hu⟩ : ∃ u, vs[i]? = some u := ⟨_, List.getElem?_eq_getElem (by rw [h.bys.1]; exact hl)⟩
  obtain ⟨q0, q1, q2, q3⟩ := flatR_at hi hu
  rcases h.row.2 with ⟨_, e0⟩ | ⟨g, c, cur, e, hb, hg, p1, p2, p3, p4⟩
  · omega
  have cl : ∀ {j : Nat} {x : Value}, (flatR m.L vs)[j]? = some x → w.cell? ⟨g, j, none⟩ = some x := fun {j x} hj => by
    have hjl := (List.getElem?_eq_some_iff.1 hj).1
    rw [flatR_len _ _ h.bys.1] at hjl
    rw [cell_at hg, ← Array.getElem?_toList]
    rw [← p4, List.getElem?_take, if_pos (by omega)] at hj
    exact hj
  exact ⟨g, c, u, e, hb, p1, p2, hu, cl q0, cl q1, cl q2, cl q3, fun j => by simp [World.frozen?, hg]⟩
set_option maxHeartbeats 4000000 in
theorem find_some (h : Rw B C r m w) (hl : m.L.length ≤ 250) (hnd : (m.L.map St.seq).Nodup) {k : Nat} {x : Int} (hk : (m.L.map St.seq)[k]? = some x) :
    Calls Tryz.prog 112 #[.pointer (some ⟨r, 0, none⟩), .int .i64 x] w fun e w' => e = .returned (.int .i64 k) ∧ w' = w := by
  obtain ⟨v, vs, h⟩ := h
  have c1 := h.box.at (j := 1) rfl
  obtain ⟨N, hN⟩ : ∃ N, m.L.length = N := ⟨_, rfl⟩
  have hkN : k < N := by have := (List.getElem?_eq_some_iff.1 hk).1; rw [List.length_map] at this; omega
  obtain ⟨a, c, hv, hc1, hc2⟩ := owns_form h.row
  unfold maxLen at hc2
  have HC : Hid (∀ i, i < N → ∃ g s, a = some ⟨g, 0, none⟩ ∧ w.cell? ⟨g, i * 4, none⟩ = some (.int .i64 s) ∧ (i = k → s = x) ∧ (i < k → s ≠ x)) := fun i hi => by
    obtain ⟨s, hs⟩ : ∃ s, m.L[i]? = some s := ⟨_, List.getElem?_eq_getElem (by omega)⟩
    obtain ⟨g, c', u, e, _, _, _, _, q0, _⟩ := h.cell hs
    rw [hv] at e; cases e
    refine ⟨g, s.seq, rfl, q0, fun e => ?_, fun hik e => ?_⟩
    · subst e; rw [List.getElem?_map, hs] at hk; cases hk; rfl
    · have hnp := List.pairwise_iff_getElem.1 hnd
      obtain ⟨l1, e1⟩ := List.getElem?_eq_some_iff.1 hk
      have := hnp i k (by simp; omega) l1 hik
      rw [e1] at this
      simp only [List.getElem_map] at this
      obtain ⟨l2, e2⟩ := List.getElem?_eq_some_iff.1 hs
      rw [e2] at this
      exact this e
  rw [hv, hN] at c1
  rw [hN] at hl hc1
  clear h hnd hk hN hv
  go_enter Tryz.func112, Tryz.ntmps112
  go_wp2_with fail
  go_loopw [5] (fun v5 wr => ∃ i : Nat, i ≤ k ∧ v5 = .int .i64 i ∧ wr = w) (fun v5 _ => k - (intOf v5).toNat)
  case atStart => exact ⟨0, Nat.zero_le _, rfl, rfl⟩
  case round =>
    obtain ⟨i, hi, rfl, rfl⟩ := hrel
    have d1 : decide ((i : Int) < (N : Int)) = true := decide_eq_true (by omega)
    have d2 : decide (i < N) = true := decide_eq_true (by omega)
    obtain ⟨g, s, rfl, q0, q1, q2⟩ := HC.out i (by omega)
    have hiN : i < N := by omega
    by_cases e : i = k
    · subst e
      have e2 := q1 rfl
      subst e2
      have d3 : (s == s) = true := by simp
      clear q1 q2
      go_wp2_with fail
      go_ret
      exact ⟨rfl, rfl⟩
    · have d3 : (s == x) = false := by simpa using q2 (by omega)
      clear q1 q2
      go_wp2_with fail
      go_roundw
      case rel => exact ⟨i + 1, by omega, by go_num, trivial⟩
      case measure => simp only [intOf]; omega
set_option maxHeartbeats 4000000 in
theorem find_none (h : Rw B C r m w) (hl : m.L.length ≤ 250) {x : Int} (hk : look m.L x = none) :
    Calls Tryz.prog 112 #[.pointer (some ⟨r, 0, none⟩), .int .i64 x] w fun e w' => e = .returned (.int .i64 (-1)) ∧ w' = w := by
  obtain ⟨v, vs, h⟩ := h
  have c1 := h.box.at (j := 1) rfl
  obtain ⟨N, hN⟩ : ∃ N, m.L.length = N := ⟨_, rfl⟩
  obtain ⟨a, c, hv, hc1, hc2⟩ := owns_form h.row
  unfold maxLen at hc2
  have HC : Hid (∀ i, i < N → ∃ g s, a = some ⟨g, 0, none⟩ ∧ w.cell? ⟨g, i * 4, none⟩ = some (.int .i64 s) ∧ s ≠ x) := fun i hi => by
    obtain ⟨s, hs⟩ : ∃ s, m.L[i]? = some s := ⟨_, List.getElem?_eq_getElem (by omega)⟩
    obtain ⟨g, c', u, e, _, _, _, _, q0, _⟩ := h.cell hs
    rw [hv] at e; cases e
    refine ⟨g, s.seq, rfl, q0, fun e => ?_⟩
    have := List.find?_eq_none.1 hk s (List.mem_of_getElem? hs)
    simp [e] at this
  rw [hv, hN] at c1
  rw [hN] at hl hc1
  clear h hk hN hv
  go_enter Tryz.func112, Tryz.ntmps112
  go_wp2_with fail
  go_loopw [5] (fun v5 wr => ∃ i : Nat, i ≤ N ∧ v5 = .int .i64 i ∧ wr = w) (fun v5 _ => N - (intOf v5).toNat)
  case atStart => exact ⟨0, Nat.zero_le _, rfl, rfl⟩
  case round =>
    obtain ⟨i, hi, rfl, rfl⟩ := hrel
    by_cases p : i < N
    · have d1 : decide ((i : Int) < (N : Int)) = true := decide_eq_true (by omega)
      have d2 : decide (i < N) = true := decide_eq_true (by omega)
      obtain ⟨g, s, rfl, q0, q1⟩ := HC.out i (by omega)
      have d3 : (s == x) = false := by simpa using q1
      clear q1
      go_wp2_with fail
      go_roundw
      case rel => exact ⟨i + 1, by omega, by go_num, trivial⟩
      case measure => simp only [intOf]; omega
    · obtain rfl : i = N := by omega
      have d1 : decide ((i : Int) < (i : Int)) = false := by simp
      go_wp2_with fail
      go_ret
      exact ⟨rfl, rfl⟩
set_option maxHeartbeats 4000000 in
theorem rnew_any {most : Int} (h1 : 1 ≤ most) (h2 : most ≤ 200) (w : World) : Calls Tryz.prog 57 #[.int .i64 most] w fun e w' => ∃ r, e = .returned (.pointer (some ⟨r, 0, none⟩)) ∧ Rw w.heap.size w.heap.size r (first most) w' ∧ Kp w w' := by
  have d1 : decide (most < 1) = false := decide_eq_false (by omega)
  have d2 : decide (most > 200) = false := decide_eq_false (by omega)
  have d3 : decide (200 < most) = false := decide_eq_false (by omega)
  have HP : Hid (∀ l l', l = [.int .i64 0, .int .i64 (-1), .slice none 0 0, .int .i64 (-1)] → l' = [.int .i64 most, .slice (some ⟨w.heap.size, 0, none⟩) 1 1, .int .i64 0, .int .i64 1] → Rw w.heap.size w.heap.size (w.heap.size + 1) (first most) ((w.alloc (.cells l.toArray 150)).alloc (.cells l'.toArray 153)) ∧ Kp w ((w.alloc (.cells l.toArray 150)).alloc (.cells l'.toArray 153))) := by
    rintro l l' rfl rfl
    refine ⟨⟨.slice (some ⟨w.heap.size, 0, none⟩) 1 1, [.slice none 0 0], by omega, ?_, ?_, rfl, fun i s u h1 h2 => ?_⟩, kp_more (kp_alloc _ _) _⟩
    · have := Lc.new (w.alloc (.cells [Value.int .i64 0, .int .i64 (-1), .slice none 0 0, .int .i64 (-1)].toArray 150)) [.int .i64 most, .slice (some ⟨w.heap.size, 0, none⟩) 1 1, .int .i64 0, .int .i64 1] 153
      rw [alloc_size] at this; exact this
    · refine row_kp ?_ (kp_alloc _ _)
      exact ⟨rfl, .inr ⟨w.heap.size, 1, _, rfl, Nat.le_refl _, alloc_new _ _, Nat.le_refl _, by simp [maxLen], rfl, rfl⟩⟩
    · have q := (List.getElem?_eq_some_iff.1 h1).1
      obtain rfl : i = 0 := by simp [first] at q; exact q
      cases h1; cases h2
      exact ⟨Dx.nil _ _ _, fun j hj => by cases hj⟩
  go_enter Tryz.func57, Tryz.ntmps57
  go_wp2_with fail
  go_ret
  exact ⟨_, rfl, HP.out _ _ rfl rfl⟩
end
theorem kp_nil {w w1 : World} (h : w.grownBy w1 (Value.slice none 0 0).ownBlock) : Kp w w1 := ⟨h.os, h.tape, h.output, h.size, fun k hk => h.block k hk (by intro e; cases e)⟩
set_option maxHeartbeats 8000000 in
theorem lent_any {P : Nat → Prop} {X : Xl} {B N : Nat} (ok : Okx B X) {v : Value} {ds : List Dl} {w : World} (h : Dr P X v ds w) (hf : Few N ds) (hN : N ≤ 2513169434916) :
    Calls Tryz.prog 111 #[v] w fun e w' => ∃ v', e = .returned v' ∧ Dw w.heap.size v' ds w' ∧ Kp w w' := by
  obtain ⟨a, cap, rfl, h1, h2, h3⟩ := h.form
  obtain ⟨n, hn⟩ : ∃ n, ds.length = n := ⟨_, rfl⟩
  have HS : Hid (Dr P X (.slice a n cap) ds w ∧ ds.length = n ∧ Few N ds) := ⟨by rw [← hn]; exact h, hn, hf⟩
  have HE : Hid (ds.take n = ds) := by exact List.take_of_length_le (by omega)
  have hn9 : n ≤ 2513169434916 := by have := hf.1; omega
  rw [hn]
  clear h h1 h2 h3 hn hf
  go_enter Tryz.func111, Tryz.ntmps111
  go_wp2_with fail
  go_loopw [3, 4] (fun v3 v4 wr => ∃ (i : Nat) (a' : Option Addr) (c' : Nat), i ≤ n ∧ v4 = .int .i64 i ∧ v3 = .slice a' i c' ∧ Hid (Dw w.heap.size (.slice a' i c') (ds.take i) wr ∧ Kp w wr)) (fun _ v4 _ => n - (intOf v4).toNat)
  case atStart => exact ⟨0, none, 0, Nat.zero_le _, rfl, rfl, Dx.nil _ _ _, Below.refl _ _⟩
  case round =>
    obtain ⟨i, a', c', hi, rfl, rfl, HI⟩ := hrel
    by_cases q : i < n
    · have d1 : decide ((i : Int) < (n : Int)) = true := decide_eq_true (by omega)
      have d2 : decide (i < n) = true := decide_eq_true (by omega)
      obtain ⟨d, hd⟩ : ∃ d, ds[i]? = some d := ⟨_, List.getElem?_eq_getElem (by rw [HS.out.2.1]; exact q)⟩
      obtain ⟨g, o, x, y, rfl, _, c0, c1, c2, hx, hy⟩ := (HS.out.1.kp ok HI.out.2).at_ hd
      obtain ⟨xa, xc, rfl, _⟩ := (ok.sl hx).form
      obtain ⟨ya, yc, rfl, _⟩ := (ok.sl hy).form
      obtain ⟨xn, hxn⟩ : ∃ k, d.old.length = k := ⟨_, rfl⟩
      obtain ⟨yn, hyn⟩ : ∃ k, d.nw.length = k := ⟨_, rfl⟩
      have HL : Hid (d.old.length ≤ 8796093022208 ∧ d.nw.length ≤ 8796093022208) := HS.out.2.2.2 d (List.mem_of_getElem? hd)
      have HD : Hid (ds.take (i + 1) = ds.take i ++ [d] ∧ (ds.take i).length + [d].length = i + 1) := ⟨take_snoc ds hd, by simp only [List.length_take, List.length_singleton]; have := HS.out.2.1; omega⟩
      rw [hxn] at c1 hx
      rw [hyn] at c2 hy
      have HX : Hid (Sl (fun _ => True) (.slice xa xn xc) d.old wr) := ok.sl hx
      have HY : Hid (Sl (fun _ => True) (.slice ya yn yc) d.nw wr) := ok.sl hy
      have HXN : Hid (d.old.length = xn ∧ d.nw.length = yn) := ⟨hxn, hyn⟩
      have HR0 : Hid (Row w.heap.size (.slice none 0 0) [] wr) := ⟨rfl, .inl ⟨rfl, rfl⟩⟩
      have HB : Hid (w.heap.size ≤ wr.heap.size) := HI.out.2.size
      have hgw : g < wr.heap.size := World.block_lt_of_cell? _ _ c0
      clear hx hy hxn hyn hd
      go_upto_region 6 with fail
      go_upto_region 7 with (at_builtin; refine wpl_str (K := xn) rfl (.tmp 13) (.tmp 18) rfl rfl HR0.out rfl HX.out (by rw [← HXN.out.1]; simp) (by rw [← HXN.out.1]; exact HL.out.1) HB.out ?_; intro a1 e1 w1 _ _ q1 q2; have H1 : Hid (Row w.heap.size (.slice a1 xn e1) d.old w1 ∧ Kp wr w1) := ⟨by simpa using q1, kp_nil (show wr.grownBy w1 (Value.slice none 0 0).ownBlock from q2)⟩; clear q1 q2)
      replace c0 := kp_cell H1.out.2 c0
      replace c2 := kp_cell H1.out.2 c2
      clear c1 HX
      have HY1 : Hid (Sl (fun _ => True) (.slice ya yn yc) d.nw w1) := HY.out.kp H1.out.2
      have HR1 : Hid (Row w.heap.size (.slice none 0 0) [] w1) := ⟨rfl, .inl ⟨rfl, rfl⟩⟩
      have HB1 : Hid (w.heap.size ≤ w1.heap.size) := Nat.le_trans HB.out H1.out.2.size
      clear HY HR0
      go_upto_region 8 with (at_builtin; refine wpl_str (K := yn) rfl (.tmp 20) (.tmp 25) rfl rfl HR1.out rfl HY1.out (by rw [← HXN.out.2]; simp) (by rw [← HXN.out.2]; exact HL.out.2) HB1.out ?_; intro a2 e2 w2 _ _ q1 q2; have H2 : Hid (Row w.heap.size (.slice a2 yn e2) d.nw w2 ∧ Kp w1 w2) := ⟨by simpa using q1, kp_nil (show w1.grownBy w2 (Value.slice none 0 0).ownBlock from q2)⟩; clear q1 q2)
      replace c0 := kp_cell H2.out.2 c0
      clear c2 HY1 HR1
      have H4 : Hid (Dw w.heap.size (.slice a' i c') (ds.take i) (w2.alloc (.cells #[.int .i64 d.at_, .slice a1 xn e1, .slice a2 yn e2] 89)) ∧ Dr (fun _ => True) (Row w.heap.size) (.slice (some ⟨w2.heap.size, 0, none⟩) 1 1) [d] (w2.alloc (.cells #[.int .i64 d.at_, .slice a1 xn e1, .slice a2 yn e2] 89)) ∧ w.heap.size ≤ (w2.alloc (.cells #[.int .i64 d.at_, .slice a1 xn e1, .slice a2 yn e2] 89)).heap.size ∧ Below w.heap.size w (w2.alloc (.cells #[.int .i64 d.at_, .slice a1 xn e1, .slice a2 yn e2] 89))) := by
        have k : Kp wr (w2.alloc (.cells #[.int .i64 d.at_, .slice a1 xn e1, .slice a2 yn e2] 89)) := kp_more (kp_trans H1.out.2 H2.out.2) _
        exact ⟨HI.out.1.kp (okRow _ _) k, Dr.one (row_kp H1.out.1 (kp_trans H2.out.2 (kp_alloc _ _))) (row_kp H2.out.1 (kp_alloc _ _)) (Lc.new w2 _ _), by have := HI.out.2.size; have := k.size; omega, kp_trans HI.out.2 k⟩
      have HQ : Hid (∀ a3 e3 w5, Dw w.heap.size (.slice a3 (i + 1) e3) (ds.take i ++ [d]) w5 → Below w.heap.size (w2.alloc (.cells #[.int .i64 d.at_, .slice a1 xn e1, .slice a2 yn e2] 89)) w5 → Dw w.heap.size (.slice a3 (i + 1) e3) (ds.take (i + 1)) w5 ∧ Kp w w5) := fun a3 e3 w5 z1 z2 => ⟨by rw [HD.out.1]; exact z1, Below.trans H4.out.2.2.2 z2⟩
      clear H1 H2 HI HL HXN HB HB1
      go_wp2_with (at_builtin; refine wpl_del (K := i + 1) rfl (.tmp 27) (.tmp 36) rfl (okRow _ _) rfl H4.out.1 rfl H4.out.2.1 HD.out.2 (by omega) H4.out.2.2.1 ?_; intro a3 e3 w5 _ _ z1 _ z3; have H5 : Hid _ := HQ.out a3 e3 w5 z1 z3; clear z1 z3)
      go_roundw
      case rel => exact ⟨i + 1, a3, e3, by omega, by go_num, rfl, H5.out⟩
      case measure => simp only [intOf]; omega
    · obtain rfl : i = n := by omega
      have d1 : decide ((i : Int) < (i : Int)) = false := by simp
      have HX : Hid (Dw w.heap.size (.slice a' i c') ds wr ∧ Kp w wr) := by
        have h1 := HI.out
        rw [HE.out] at h1
        exact h1
      clear HI
      go_wp2_with fail
      go_ret
      exact ⟨_, rfl, HX.out⟩
end Go.Proofs.YtaefeakmlgjonaaGreat
/- The document's Undo and Redo. -/
namespace Go.Proofs.YtaefeakmlgjonaaGreat
open Go.ChangeShapes Go.WideShapes Go.ChangeAt Go.RowKit Go.Maps Go.MapKept
set_option linter.unusedVariables false
set_option linter.unusedSimpArgs false
set_option maxRecDepth 100000
theorem step_call {P : Program} {ops : Array Oper} {o : Oper} {a : Act} {w : World} {K : Act → World → Prop} {Q : Exit → Act → World → Prop} {E : Prop} (f : FuncId) {fn : Func} {xs : Array Operand} {ats : Array TypeId} {vals : Array Value}
    (hg : o.guard = none) (hop : o.op = .call { callee := .value (.func f), args := xs, argTypes := ats }) (hv : xs.map a.eval = vals)
    (hf : P.funcs[f]? = some fn) (hn : (fn.name == "runtime.NumGoroutine") = false) (hb : fn.body.isNone = false)
    (h : Calls P f vals w fun e w' => ∃ v, e = .returned v ∧ K (a.put o.dst v) w') : if Region.wanted o (yielded ops a.tmps) = true then Oper.wp P o a w K Q else E := by
  have hw : Region.wanted o (yielded ops a.tmps) = true := by simp [Region.wanted, hg]
  rw [if_pos hw]
  obtain ⟨dst, op, type, pos, after, guard⟩ := o
  simp only at hop hg
  subst hop; subst hg
  unfold Oper.wp
  rw [execOp_call_go, show (#[] ++ xs.map a.eval ++ #[]) = vals by simp [hv], run_callGo vals w hf hn hb]
  simp only [Oper.upon]
  refine Calls.mono h ?_
  rintro e w' ⟨v, rfl, hK⟩
  exact hK

theorem row_set {B n size g c j : Nat} {e : TypeId} {xs : List Value} {w : World} {u : Value} (h : w.ownsRow B e size (.slice (some ⟨g, 0, none⟩) n c) n xs) (hj : j < n * size) : (w.setCell ⟨g, j, none⟩ u).ownsRow B e size (.slice (some ⟨g, 0, none⟩) n c) n (xs.set j u) := by
  refine ⟨by rw [List.length_set]; exact h.1, ?_⟩
  rcases h.2 with ⟨e0, _⟩ | ⟨g', c', cur, e0, hb, hg, p1, p2, p3, p4⟩
  · cases e0
  cases e0
  refine .inr ⟨g, c, _, rfl, hb, heap_setCell hg, p1, p2, by simpa using p3, ?_⟩
  rw [Array.toList_setIfInBounds, List.take_set, p4]
theorem flatR_on : ∀ {L : List St} {vs : List Value} {i : Nat} {x y : Int}, vs.length = L.length → (L.map St.seq).Nodup → (L.map St.seq)[i]? = some x → flatR (setOn L x y) vs = (flatR L vs).set (i * 4 + 3) (.int .i64 y)
  | [], _, i, x, y, _, _, h => by simp at h
  | _ :: _, [], i, x, y, h, _, _ => by simp at h
  | s :: r, v :: vs, 0, x, y, hl, hn, h => by
    simp only [List.map_cons, List.getElem?_cons_zero, Option.some.injEq] at h
    subst h
    have hr : setOn r s.seq y = r := by
      simp only [List.map_cons, List.nodup_cons] at hn
      unfold setOn
      conv => rhs; rw [← List.map_id r]
      refine List.map_congr_left fun t ht => ?_
      rw [if_neg (fun e => hn.1 (List.mem_map.2 ⟨t, ht, e⟩))]; rfl
    show flatR ((if s.seq = s.seq then { s with on := y } else s) :: setOn r s.seq y) (v :: vs) = _
    rw [if_pos rfl, hr]
    rfl
  | s :: r, v :: vs, i + 1, x, y, hl, hn, h => by
    simp only [List.map_cons, List.getElem?_cons_succ] at h
    simp only [List.map_cons, List.nodup_cons] at hn
    have hne : s.seq ≠ x := fun e => hn.1 (by rw [e]; exact List.mem_of_getElem? h)
    show flatR ((if s.seq = x then { s with on := y } else s) :: setOn r x y) (v :: vs) = _
    rw [if_neg hne]
    have q := flatR_on (L := r) (vs := vs) (i := i) (x := x) (y := y) (by simpa using hl) hn.2 h
    rw [show (i + 1) * 4 + 3 = (i * 4 + 3) + 1 + 1 + 1 + 1 by omega]
    simp only [flatR, List.set_cons_succ, q]
section
variable {B C r : Nat} {v : Value} {vs : List Value} {m : Tr} {w w1 : World}
theorem Rb.now (h : Rb B C r v vs m w) (x : Int) : Rb B C r v vs { m with now := x } (w.setCell ⟨r, 2, none⟩ (.int .i64 x)) ∧ Ff TQ B w (w.setCell ⟨r, 2, none⟩ (.int .i64 x)) := by
  have f := fr_set r 2 (.int .i64 x) w
  have ff : Ff TQ B w (w.setCell ⟨r, 2, none⟩ (.int .i64 x)) := Ff.on f h.lr h.box (.inl rfl)
  exact ⟨⟨h.lr, h.box.set 2 _, row_fr h.row f fun j hj e => row_ne h.row h.box (by decide) (by rw [hj, e]), h.bys.ff ff (tq_of (by decide) (by decide)) (tq_of (by decide) (by decide))⟩, ff⟩
theorem Rb.on {g c i : Nat} (h : Rb B C r (.slice (some ⟨g, 0, none⟩) m.L.length c) vs m w) (hnd : (m.L.map St.seq).Nodup) {x : Int} (hi : (m.L.map St.seq)[i]? = some x) (y : Int) : Rb B C r (.slice (some ⟨g, 0, none⟩) m.L.length c) vs { m with L := setOn m.L x y } (w.setCell ⟨g, i * 4 + 3, none⟩ (.int .i64 y)) ∧ Ff TQ B w (w.setCell ⟨g, i * 4 + 3, none⟩ (.int .i64 y)) := by
  have f := fr_set g (i * 4 + 3) (.int .i64 y) w
  have hil := (List.getElem?_eq_some_iff.1 hi).1
  rw [List.length_map] at hil
  rcases h.row.2 with ⟨e0, _⟩ | ⟨g', c', cur, e0, hb, hg, p1, p2, p3, p4⟩
  · cases e0
  cases e0
  have ff : Ff TQ B w (w.setCell ⟨g, i * 4 + 3, none⟩ (.int .i64 y)) := Ff.on f hb hg (.inr rfl)
  refine ⟨⟨h.lr, h.box.fr f fun e => ?_, ?_, ?_, fun j s u h1 h2 => ?_⟩, ff⟩
  · unfold On at e; subst e
    have := h.box; unfold Lc at this; rw [hg] at this; cases this
  · show World.ownsRow _ B _ 4 _ (setOn m.L x y).length (flatR (setOn m.L x y) vs)
    rw [setOn_len, flatR_on h.bys.1 hnd hi]
    exact row_set h.row (by omega)
  · show vs.length = (setOn m.L x y).length
    rw [setOn_len]; exact h.bys.1
  · have h1' : (setOn m.L x y)[j]? = some s := h1
    unfold setOn at h1'
    rw [List.getElem?_map] at h1'
    obtain ⟨s0, q1, rfl⟩ := Option.map_eq_some_iff.1 h1'
    have q := h.bys.2 j s0 u q1 h2
    refine ⟨?_, q.2⟩
    have e : (if s0.seq = x then { s0 with on := y } else s0).by_ = s0.by_ := by split <;> rfl
    rw [e]
    exact q.1.ff ff (tq_of (by decide) (by decide)) (tq_of (by decide) (by decide))
/-- What a call of the document's leaves. -/
def GoneR (B C r : Nat) (w : World) (v : Value) (ds : List Dl) (m : Tr) (w' : World) : Prop := Dw w.heap.size v ds w' ∧ Rw B C r m w' ∧ Ff TQ B w w'
theorem idx_of {L : List St} {x : Int} (h : look L x ≠ none) : ∃ k : Nat, (L.map St.seq)[k]? = some x := List.getElem?_of_mem (look_ne.1 h)
theorem at_of {L : List St} (hs : (L.map St.seq).Pairwise (· < ·)) {k : Nat} {x : Int} {s : St} (hk : (L.map St.seq)[k]? = some x) (hl : look L x = some s) : L[k]? = some s := by
  rw [List.getElem?_map] at hk
  obtain ⟨s', q1, q2⟩ := Option.map_eq_some_iff.1 hk
  have := look_at hs q1
  rw [q2, hl] at this; cases this
  exact q1
set_option maxHeartbeats 8000000 in
theorem rundo_end (h : Rw B C r m w) (I : Inv m) (hl : m.L.length ≤ 250) {s : St} (hs : look m.L m.now = some s) (hf : s.fr = -1) :
    Calls Tryz.prog 102 #[.pointer (some ⟨r, 0, none⟩)] w fun e w' => e = .returned (.tuple #[.slice none 0 0, .int .i64 121]) ∧ Kp w w' := by
  obtain ⟨k, hk⟩ := idx_of (L := m.L) (x := m.now) (by rw [hs]; simp)
  have hks := at_of I.sq hk hs
  have HF : Hid (∀ z, Kp w z → Calls Tryz.prog 112 #[.pointer (some ⟨r, 0, none⟩), .int .i64 m.now] z fun e w' => e = .returned (.int .i64 k) ∧ w' = z) := fun z kz => find_some (h.kp kz) hl I.nodup hk
  obtain ⟨v, vs, h⟩ := h
  have c1 := h.box.at (j := 1) rfl
  have c2 := h.box.at (j := 2) rfl
  obtain ⟨g, c, u, rfl, _, hc1, hc2, hu, q0, q1, q2, q3, _⟩ := h.cell hks
  obtain ⟨ua, ul, uc, rfl⟩ : ∃ a n c, u = .slice a n c := by obtain ⟨a, c, rfl, _⟩ := (h.bys.2 k s u hks hu).1.form; exact ⟨a, _, c, rfl⟩
  have hkN := (List.getElem?_eq_some_iff.1 hks).1
  unfold maxLen at hc2
  generalize m.L.length = N at c1 hkN hc1 hl
  rw [hf] at q1
  clear h hks hk hs hu
  go_enter Tryz.func102, Tryz.ntmps102
  go_upto_region 1 with fail
  refine wp_region_noPanic ?_
  refine wp_region_held_drew (S := fun z => z.cell? ⟨r, 1, none⟩ = some (.slice (some ⟨g, 0, none⟩) N c) ∧ z.cell? ⟨r, 2, none⟩ = some (.int .i64 m.now) ∧ z.cell? ⟨g, k * 4, none⟩ = some (.int .i64 s.seq) ∧ z.cell? ⟨g, k * 4 + 1, none⟩ = some (.int .i64 (-1)) ∧ z.cell? ⟨g, k * 4 + 2, none⟩ = some (.slice ua ul uc) ∧ z.cell? ⟨g, k * 4 + 3, none⟩ = some (.int .i64 s.on)) (by kernel_rfl) (⟨c1, c2, q0, q1, q2, q3⟩) (fun hHeld => ?_)
  refine takeAt 0 (some 5) ?_ rfl rfl (by kernel_rfl) (by kernel_rfl) (by kernel_rfl) (fun _ _ _ h => h) (Or.inl ⟨by rfl, ?_⟩) hHeld ?_
  rotate_left
  · intro w hSw
    go_simp <;> with_reducible rfl
  try simp only [Act.put, List.setIfInBounds_toArray, List.set_cons_zero, List.set_cons_succ]
  refine takeAt 1 (some 6) ?_ rfl rfl (by kernel_rfl) (by kernel_rfl) (by kernel_rfl) (fun _ _ _ h => h) (Or.inl ⟨by rfl, ?_⟩) hHeld ?_
  rotate_left
  · intro w hSw
    go_simp <;> with_reducible rfl
  try simp only [Act.put, List.setIfInBounds_toArray, List.set_cons_zero, List.set_cons_succ]
  refine takeAt 2 (some 7) ?_ rfl rfl (by kernel_rfl) (by kernel_rfl) (by kernel_rfl) (fun _ _ _ h => h) (Or.inl ⟨by rfl, ?_⟩) hHeld ?_
  rotate_left
  · intro w hSw
    go_simp <;> with_reducible rfl
  try simp only [Act.put, List.setIfInBounds_toArray, List.set_cons_zero, List.set_cons_succ]
  refine takeAt 3 (some 8) ?_ rfl rfl (by kernel_rfl) (by kernel_rfl) (by kernel_rfl) (fun _ _ _ h => h) (Or.inl ⟨by rfl, ?_⟩) hHeld ?_
  rotate_left
  · intro w hSw
    go_simp <;> with_reducible rfl
  try simp only [Act.put, List.setIfInBounds_toArray, List.set_cons_zero, List.set_cons_succ]
  refine takeAt 4 (some 9) ?_ rfl rfl (by kernel_rfl) (by kernel_rfl) (by kernel_rfl) (fun _ _ _ h => h) (Or.inl ⟨by rfl, ?_⟩) hHeld ?_
  rotate_left
  · intro w hSw
    go_simp <;> with_reducible rfl
  try simp only [Act.put, List.setIfInBounds_toArray, List.set_cons_zero, List.set_cons_succ]
  refine takeAt 5 (some 10) ?_ rfl rfl (by kernel_rfl) (by kernel_rfl) (by kernel_rfl) (fun _ _ _ h => h) (Or.inl ⟨by rfl, ?_⟩) hHeld ?_
  rotate_left
  · intro w hSw
    go_simp <;> with_reducible rfl
  try simp only [Act.put, List.setIfInBounds_toArray, List.set_cons_zero, List.set_cons_succ]
  refine takeAt 6 (some 11) ?_ rfl rfl (by kernel_rfl) (by kernel_rfl) (by kernel_rfl) (fun _ _ _ h => h) (Or.inl ⟨by rfl, ?_⟩) hHeld ?_
  rotate_left
  · intro w hSw
    go_simp <;> with_reducible rfl
  try simp only [Act.put, List.setIfInBounds_toArray, List.set_cons_zero, List.set_cons_succ]
  refine takeAt 7 (some 12) ?_ rfl rfl (by kernel_rfl) (by kernel_rfl) (by kernel_rfl) (fun _ _ _ h => h) (Or.inl ⟨by rfl, ?_⟩) hHeld ?_
  rotate_left
  · intro w hSw
    go_simp <;> with_reducible rfl
  try simp only [Act.put, List.setIfInBounds_toArray, List.set_cons_zero, List.set_cons_succ]
  refine takeAt 8 (some 13) ?_ rfl rfl (by kernel_rfl) (by kernel_rfl) (by kernel_rfl) (fun _ _ _ h => h) (Or.inl ⟨by rfl, ?_⟩) hHeld ?_
  rotate_left
  · intro w hSw
    go_simp <;> with_reducible rfl
  try simp only [Act.put, List.setIfInBounds_toArray, List.set_cons_zero, List.set_cons_succ]
  refine wpAnyH_ready (rs := [9, 12]) (by kernel_rfl) (by simp) ?_
  refine AllReadyH.cons rfl (fun K hK => ?ca) (AllReadyH.cons rfl (fun K hK => ?cb) AllReadyH.nil)
  case' ca =>
    refine step_call 112 (vals := #[.pointer (some ⟨r, 0, none⟩), .int .i64 m.now]) rfl rfl (by simp [Act.eval]) Tryz.func112 (by kernel_rfl) (by kernel_rfl) ?_
    refine Calls.mono (HF.out _ (by first | exact Below.refl _ _ | exact kp_drew _)) ?_
    rintro e w3 ⟨rfl, rfl⟩
    refine ⟨_, rfl, ?_⟩
    refine hK.out _ _ hHeld (fun hHeld => ?_)
    clear hK K
    try simp only [Act.put, List.setIfInBounds_toArray, List.set_cons_zero, List.set_cons_succ]
    refine takeAt 10 (some 15) ?_ rfl rfl (by kernel_rfl) (by kernel_rfl) (by kernel_rfl) (fun _ _ _ h => h) (Or.inl ⟨by rfl, ?_⟩) hHeld ?_
    rotate_left
    · intro w hSw
      go_simp <;> with_reducible rfl
    try simp only [Act.put, List.setIfInBounds_toArray, List.set_cons_zero, List.set_cons_succ]
    refine takeAt 11 (some 16) ?_ rfl rfl (by kernel_rfl) (by kernel_rfl) (by kernel_rfl) (fun _ _ _ h => h) (Or.inl ⟨by rfl, ?_⟩) hHeld ?_
    rotate_left
    · intro w hSw
      go_simp <;> with_reducible rfl
    try simp only [Act.put, List.setIfInBounds_toArray, List.set_cons_zero, List.set_cons_succ]
    refine wpAnyH_ready (rs := [12]) (by kernel_rfl) (by simp) ?_
    refine AllReadyH.cons rfl (fun K hK => ?_) AllReadyH.nil
    go_simp
    refine hK.out _ _ (⟨kp_cell (kp_trans (kp_alloc _ _) (kp_drew _)) c1, kp_cell (kp_trans (kp_alloc _ _) (kp_drew _)) c2, kp_cell (kp_trans (kp_alloc _ _) (kp_drew _)) q0, kp_cell (kp_trans (kp_alloc _ _) (kp_drew _)) q1, kp_cell (kp_trans (kp_alloc _ _) (kp_drew _)) q2, kp_cell (kp_trans (kp_alloc _ _) (kp_drew _)) q3⟩) (fun hHeld => ?_)
    clear hK K
    try simp only [Act.put, List.setIfInBounds_toArray, List.set_cons_zero, List.set_cons_succ]
    refine wpAnyH_ready (rs := [13]) (by kernel_rfl) (by simp) ?_
    refine AllReadyH.cons rfl (fun K hK => ?_) AllReadyH.nil
    go_simp
    refine hK.out _ _ (⟨kp_cell (kp_trans (kp_alloc _ _) (kp_drew _)) c1, kp_cell (kp_trans (kp_alloc _ _) (kp_drew _)) c2, kp_cell (kp_trans (kp_alloc _ _) (kp_drew _)) q0, kp_cell (kp_trans (kp_alloc _ _) (kp_drew _)) q1, kp_cell (kp_trans (kp_alloc _ _) (kp_drew _)) q2, kp_cell (kp_trans (kp_alloc _ _) (kp_drew _)) q3⟩) (fun hHeld => ?_)
    clear hK K
    try simp only [Act.put, List.setIfInBounds_toArray, List.set_cons_zero, List.set_cons_succ]
    refine wpAnyH_done (by kernel_rfl) ?_ _
    refine NoPanic.normal ?_
  case' cb =>
    go_simp
    refine hK.out _ _ (⟨kp_cell (kp_trans (kp_alloc _ _) (kp_drew _)) c1, kp_cell (kp_trans (kp_alloc _ _) (kp_drew _)) c2, kp_cell (kp_trans (kp_alloc _ _) (kp_drew _)) q0, kp_cell (kp_trans (kp_alloc _ _) (kp_drew _)) q1, kp_cell (kp_trans (kp_alloc _ _) (kp_drew _)) q2, kp_cell (kp_trans (kp_alloc _ _) (kp_drew _)) q3⟩) (fun hHeld => ?_)
    clear hK K
    try simp only [Act.put, List.setIfInBounds_toArray, List.set_cons_zero, List.set_cons_succ]
    refine callAt 9 14 112 (vals := #[.pointer (some ⟨r, 0, none⟩), .int .i64 m.now]) (by kernel_rfl) rfl rfl rfl rfl (by simp [Act.eval]) Tryz.func112 (by kernel_rfl) (by kernel_rfl) ?_
    refine Calls.mono (HF.out _ (kp_trans (kp_alloc _ _) (kp_drew _))) ?_
    rintro e w3 ⟨rfl, rfl⟩
    refine ⟨_, rfl, hHeld, fun hHeld => ?_⟩
    try simp only [Act.put, List.setIfInBounds_toArray, List.set_cons_zero, List.set_cons_succ]
    refine takeAt 10 (some 15) ?_ rfl rfl (by kernel_rfl) (by kernel_rfl) (by kernel_rfl) (fun _ _ _ h => h) (Or.inl ⟨by rfl, ?_⟩) hHeld ?_
    rotate_left
    · intro w hSw
      go_simp <;> with_reducible rfl
    try simp only [Act.put, List.setIfInBounds_toArray, List.set_cons_zero, List.set_cons_succ]
    refine takeAt 11 (some 16) ?_ rfl rfl (by kernel_rfl) (by kernel_rfl) (by kernel_rfl) (fun _ _ _ h => h) (Or.inl ⟨by rfl, ?_⟩) hHeld ?_
    rotate_left
    · intro w hSw
      go_simp <;> with_reducible rfl
    try simp only [Act.put, List.setIfInBounds_toArray, List.set_cons_zero, List.set_cons_succ]
    refine wpAnyH_ready (rs := [13]) (by kernel_rfl) (by simp) ?_
    refine AllReadyH.cons rfl (fun K hK => ?_) AllReadyH.nil
    go_simp
    refine hK.out _ _ (⟨kp_cell (kp_trans (kp_alloc _ _) (kp_drew _)) c1, kp_cell (kp_trans (kp_alloc _ _) (kp_drew _)) c2, kp_cell (kp_trans (kp_alloc _ _) (kp_drew _)) q0, kp_cell (kp_trans (kp_alloc _ _) (kp_drew _)) q1, kp_cell (kp_trans (kp_alloc _ _) (kp_drew _)) q2, kp_cell (kp_trans (kp_alloc _ _) (kp_drew _)) q3⟩) (fun hHeld => ?_)
    clear hK K
    try simp only [Act.put, List.setIfInBounds_toArray, List.set_cons_zero, List.set_cons_succ]
    refine wpAnyH_done (by kernel_rfl) ?_ _
    refine NoPanic.normal ?_
  all_goals
    go_wp2_with fail
    go_ret2
    exact ⟨rfl, kp_trans (kp_alloc _ _) (kp_drew _)⟩
set_option maxHeartbeats 16000000 in
theorem rundo_any (h : Rw B C r m w) (I : Inv m) (hl : m.L.length ≤ 250) (hB : B ≤ w.heap.size) {s : St} (hs : look m.L m.now = some s) (hf : s.fr ≠ -1) :
    Calls Tryz.prog 102 #[.pointer (some ⟨r, 0, none⟩)] w fun e w' => ∃ v, e = .returned (.tuple #[v, .int .i64 0]) ∧ GoneR B C r w v (turnD s.by_) { m with L := setOn m.L s.fr m.now, now := s.fr } w' := by
  have hsq : s.seq = m.now := look_seq hs
  have hfr := I.fam.fr _ _ hs
  obtain ⟨k, hk⟩ := idx_of (L := m.L) (x := m.now) (by rw [hs]; simp)
  obtain ⟨k2, hk2⟩ := idx_of (L := m.L) (x := s.fr) (I.fam.from_there hs hf)
  have hks := at_of I.sq hk hs
  obtain ⟨s2, hs2⟩ := Option.ne_none_iff_exists'.1 (I.fam.from_there hs hf)
  have hks2 := at_of I.sq hk2 hs2
  have HF : Hid (∀ z, Kp w z → Calls Tryz.prog 112 #[.pointer (some ⟨r, 0, none⟩), .int .i64 m.now] z fun e w' => e = .returned (.int .i64 k) ∧ w' = z) := fun z kz => find_some (h.kp kz) hl I.nodup hk
  have HF2 : Hid (∀ z, Kp w z → Calls Tryz.prog 112 #[.pointer (some ⟨r, 0, none⟩), .int .i64 s.fr] z fun e w' => e = .returned (.int .i64 k2) ∧ w' = z) := fun z kz => find_some (h.kp kz) hl I.nodup hk2
  obtain ⟨v, vs, h⟩ := h
  have c1 := h.box.at (j := 1) rfl
  have c2 := h.box.at (j := 2) rfl
  obtain ⟨g, c, u, rfl, hBg, hc1, hc2, hu, q0, q1, q2, q3, _⟩ := h.cell hks
  obtain ⟨g2, c', u2, e2, _, _, _, _, _, _, _, q7, fz⟩ := h.cell hks2
  cases e2
  have hby := (h.bys.2 k s u hks hu).1
  obtain ⟨ua, ul, uc, rfl⟩ : ∃ a n c, u = .slice a n c := by obtain ⟨a, c, rfl, _⟩ := hby.form; exact ⟨a, _, c, rfl⟩
  have hkN := (List.getElem?_eq_some_iff.1 hks).1
  have hkN2 := (List.getElem?_eq_some_iff.1 hks2).1
  unfold maxLen at hc2
  obtain ⟨W1, hW1⟩ : ∃ W1, (w.alloc (.cells #[.int .i64 s.seq, .int .i64 s.fr, .slice ua ul uc, .int .i64 s.on] 150)).drew = W1 := ⟨_, rfl⟩
  have HW1 : Hid (_ = W1) := hW1
  have k1 : Kp w W1 := by rw [← hW1]; exact kp_trans (kp_alloc _ _) (kp_drew _)
  have b1 : Lc 150 w.heap.size [.int .i64 s.seq, .int .i64 s.fr, .slice ua ul uc, .int .i64 s.on] W1 := by rw [← hW1]; exact (Lc.new w _ _).kp (kp_drew _)
  obtain ⟨W2, hW2⟩ : ∃ W2, (W1.setCell ⟨g, k2 * 4 + 3, none⟩ (.int .i64 s.seq)).drew = W2 := ⟨_, rfl⟩
  have HW2 : Hid (_ = W2) := hW2
  have hgb : g < w.heap.size := World.block_lt_of_cell? _ _ q0
  have hrb : r < w.heap.size := h.box.lt
  have hgr : r ≠ g := fun e => by
    subst e
    rcases h.row.2 with ⟨e0, _⟩ | ⟨g', c', cur, e0, _, hg, _⟩
    · cases e0
    · cases e0; have := h.box; unfold Lc at this; rw [hg] at this; cases this
  obtain ⟨r1, r2⟩ := (h.kp k1).on I.nodup hk2 s.seq
  have r3 : Rb B C r (.slice (some ⟨g, 0, none⟩) m.L.length c) vs { m with L := setOn m.L s.fr s.seq } W2 := by rw [← hW2]; exact r1.kp (kp_drew _)
  have f2 : Ff TQ B w W2 := by rw [← hW2]; exact ((Ff.kp k1).trans r2).trans (Ff.kp (kp_drew _))
  have b2 : Lc 150 w.heap.size [.int .i64 s.seq, .int .i64 s.fr, .slice ua ul uc, .int .i64 s.on] W2 := by rw [← hW2]; exact (b1.other (by omega)).kp (kp_drew _)
  obtain ⟨r4, r5⟩ := r3.now s.fr
  obtain ⟨W3, hW3⟩ : ∃ W3, W2.setCell ⟨r, 2, none⟩ (.int .i64 s.fr) = W3 := ⟨_, rfl⟩
  have HW3 : Hid (_ = W3) := hW3
  rw [hW3] at r4 r5
  have f3 : Ff TQ B w W3 := f2.trans r5
  have b3 : Lc 150 w.heap.size [.int .i64 s.seq, .int .i64 s.fr, .slice ua ul uc, .int .i64 s.on] W3 := by rw [← hW3]; exact b2.other (by omega)
  have hfew := I.fam.few _ _ hs
  have HT : Hid (Calls Tryz.prog 137 #[.slice ua ul uc] W3 fun e w' => ∃ v', e = .returned v' ∧ Dx (Row 0) W3.heap.size v' (turnD s.by_) w' ∧ Kp W3 w') := rturn_any (okRow _ 0) (hby.ff f3 (tq_of (by decide) (by decide)) (tq_of (by decide) (by decide))).dr (by have := hfew.1; omega)
  have HL : Hid (∀ v4 w4, Dx (Row 0) W3.heap.size v4 (turnD s.by_) w4 → Kp W3 w4 → Calls Tryz.prog 111 #[v4] w4 fun e w' => ∃ v', e = .returned v' ∧ GoneR B C r w v' (turnD s.by_) { m with L := setOn m.L s.fr m.now, now := s.fr } w') := fun v4 w4 d4 k4 => by
    refine (lent_any (okRow 0 0) d4.dr (N := 2000) ⟨by rw [turnD_len]; exact hfew.1, fun d hd => ?_⟩ (by omega)).mono ?_
    · unfold turnD at hd
      obtain ⟨d', hd', rfl⟩ := List.mem_map.1 hd
      have := hfew.2 d' (by simpa using hd')
      exact ⟨this.2, this.1⟩
    · rintro e w' ⟨v', rfl, d5, k5⟩
      have k6 := kp_trans k4 k5
      refine ⟨v', rfl, d5.lower (Nat.le_trans f3.size k4.size) (Nat.le_trans f3.size k4.size), ⟨.slice (some ⟨g, 0, none⟩) m.L.length c, vs, ?_⟩, f3.trans (Ff.kp k6)⟩
      have := r4.kp k6
      rw [hsq] at this
      exact this
  have y0 := b1.at (j := 0) rfl
  have y1 := b1.at (j := 1) rfl
  have y2 := kp_cell k1 c1
  have y3 := kp_cell k1 q7
  have y4 : W1.frozen? ⟨g, k2 * 4 + 3, none⟩ = false := by rw [World.frozen?_of_block (k1.block g hgb)]; exact fz _
  have x1 := b2.at (j := 1) rfl
  have x2 := r3.box.at (j := 2) rfl
  have x3 := r3.box.fz 2
  have x5 := b3.at (j := 2) rfl
  have x6 : W2.cell? ⟨r, 1, none⟩ = some (.slice (some ⟨g, 0, none⟩) m.L.length c) := r3.box.at (j := 1) rfl
  have x7 := b2.at (j := 0) rfl
  have HK1 : Hid (Kp w W1) := k1
  have dlt : decide (s.fr < 0) = false := decide_eq_false (by omega)
  generalize m.L.length = N at c1 y2 x6 hkN hkN2 hc1 hl
  clear h hks hk hs hu hks2 hk2 hs2 r1 r2 r3 r4 r5 f2 f3 b1 b2 b3 hW1 hW2 hW3 hby k1 q7 fz hsq hfr I
  go_enter Tryz.func102, Tryz.ntmps102
  go_upto_region 1 with fail
  refine wp_region_noPanic ?_
  refine wp_region_held_drew (S := fun z => z.cell? ⟨r, 1, none⟩ = some (.slice (some ⟨g, 0, none⟩) N c) ∧ z.cell? ⟨r, 2, none⟩ = some (.int .i64 m.now) ∧ z.cell? ⟨g, k * 4, none⟩ = some (.int .i64 s.seq) ∧ z.cell? ⟨g, k * 4 + 1, none⟩ = some (.int .i64 s.fr) ∧ z.cell? ⟨g, k * 4 + 2, none⟩ = some (.slice ua ul uc) ∧ z.cell? ⟨g, k * 4 + 3, none⟩ = some (.int .i64 s.on)) (by kernel_rfl) (⟨c1, c2, q0, q1, q2, q3⟩) (fun hHeld => ?_)
  refine takeAt 0 (some 5) ?_ rfl rfl (by kernel_rfl) (by kernel_rfl) (by kernel_rfl) (fun _ _ _ h => h) (Or.inl ⟨by rfl, ?_⟩) hHeld ?_
  rotate_left
  · intro w hSw
    go_simp <;> with_reducible rfl
  try simp only [Act.put, List.setIfInBounds_toArray, List.set_cons_zero, List.set_cons_succ]
  refine takeAt 1 (some 6) ?_ rfl rfl (by kernel_rfl) (by kernel_rfl) (by kernel_rfl) (fun _ _ _ h => h) (Or.inl ⟨by rfl, ?_⟩) hHeld ?_
  rotate_left
  · intro w hSw
    go_simp <;> with_reducible rfl
  try simp only [Act.put, List.setIfInBounds_toArray, List.set_cons_zero, List.set_cons_succ]
  refine takeAt 2 (some 7) ?_ rfl rfl (by kernel_rfl) (by kernel_rfl) (by kernel_rfl) (fun _ _ _ h => h) (Or.inl ⟨by rfl, ?_⟩) hHeld ?_
  rotate_left
  · intro w hSw
    go_simp <;> with_reducible rfl
  try simp only [Act.put, List.setIfInBounds_toArray, List.set_cons_zero, List.set_cons_succ]
  refine takeAt 3 (some 8) ?_ rfl rfl (by kernel_rfl) (by kernel_rfl) (by kernel_rfl) (fun _ _ _ h => h) (Or.inl ⟨by rfl, ?_⟩) hHeld ?_
  rotate_left
  · intro w hSw
    go_simp <;> with_reducible rfl
  try simp only [Act.put, List.setIfInBounds_toArray, List.set_cons_zero, List.set_cons_succ]
  refine takeAt 4 (some 9) ?_ rfl rfl (by kernel_rfl) (by kernel_rfl) (by kernel_rfl) (fun _ _ _ h => h) (Or.inl ⟨by rfl, ?_⟩) hHeld ?_
  rotate_left
  · intro w hSw
    go_simp <;> with_reducible rfl
  try simp only [Act.put, List.setIfInBounds_toArray, List.set_cons_zero, List.set_cons_succ]
  refine takeAt 5 (some 10) ?_ rfl rfl (by kernel_rfl) (by kernel_rfl) (by kernel_rfl) (fun _ _ _ h => h) (Or.inl ⟨by rfl, ?_⟩) hHeld ?_
  rotate_left
  · intro w hSw
    go_simp <;> with_reducible rfl
  try simp only [Act.put, List.setIfInBounds_toArray, List.set_cons_zero, List.set_cons_succ]
  refine takeAt 6 (some 11) ?_ rfl rfl (by kernel_rfl) (by kernel_rfl) (by kernel_rfl) (fun _ _ _ h => h) (Or.inl ⟨by rfl, ?_⟩) hHeld ?_
  rotate_left
  · intro w hSw
    go_simp <;> with_reducible rfl
  try simp only [Act.put, List.setIfInBounds_toArray, List.set_cons_zero, List.set_cons_succ]
  refine takeAt 7 (some 12) ?_ rfl rfl (by kernel_rfl) (by kernel_rfl) (by kernel_rfl) (fun _ _ _ h => h) (Or.inl ⟨by rfl, ?_⟩) hHeld ?_
  rotate_left
  · intro w hSw
    go_simp <;> with_reducible rfl
  try simp only [Act.put, List.setIfInBounds_toArray, List.set_cons_zero, List.set_cons_succ]
  refine takeAt 8 (some 13) ?_ rfl rfl (by kernel_rfl) (by kernel_rfl) (by kernel_rfl) (fun _ _ _ h => h) (Or.inl ⟨by rfl, ?_⟩) hHeld ?_
  rotate_left
  · intro w hSw
    go_simp <;> with_reducible rfl
  try simp only [Act.put, List.setIfInBounds_toArray, List.set_cons_zero, List.set_cons_succ]
  refine wpAnyH_ready (rs := [9, 12]) (by kernel_rfl) (by simp) ?_
  refine AllReadyH.cons rfl (fun K hK => ?ca) (AllReadyH.cons rfl (fun K hK => ?cb) AllReadyH.nil)
  case' ca =>
    refine step_call 112 (vals := #[.pointer (some ⟨r, 0, none⟩), .int .i64 m.now]) rfl rfl (by simp [Act.eval]) Tryz.func112 (by kernel_rfl) (by kernel_rfl) ?_
    refine Calls.mono (HF.out _ (by first | exact Below.refl _ _ | exact kp_drew _)) ?_
    rintro e w3 ⟨rfl, rfl⟩
    refine ⟨_, rfl, ?_⟩
    refine hK.out _ _ hHeld (fun hHeld => ?_)
    clear hK K
    try simp only [Act.put, List.setIfInBounds_toArray, List.set_cons_zero, List.set_cons_succ]
    refine takeAt 10 (some 15) ?_ rfl rfl (by kernel_rfl) (by kernel_rfl) (by kernel_rfl) (fun _ _ _ h => h) (Or.inl ⟨by rfl, ?_⟩) hHeld ?_
    rotate_left
    · intro w hSw
      go_simp <;> with_reducible rfl
    try simp only [Act.put, List.setIfInBounds_toArray, List.set_cons_zero, List.set_cons_succ]
    refine takeAt 11 (some 16) ?_ rfl rfl (by kernel_rfl) (by kernel_rfl) (by kernel_rfl) (fun _ _ _ h => h) (Or.inl ⟨by rfl, ?_⟩) hHeld ?_
    rotate_left
    · intro w hSw
      go_simp <;> with_reducible rfl
    try simp only [Act.put, List.setIfInBounds_toArray, List.set_cons_zero, List.set_cons_succ]
    refine wpAnyH_ready (rs := [12]) (by kernel_rfl) (by simp) ?_
    refine AllReadyH.cons rfl (fun K hK => ?_) AllReadyH.nil
    go_simp
    refine hK.out _ _ (⟨kp_cell (kp_trans (kp_alloc _ _) (kp_drew _)) c1, kp_cell (kp_trans (kp_alloc _ _) (kp_drew _)) c2, kp_cell (kp_trans (kp_alloc _ _) (kp_drew _)) q0, kp_cell (kp_trans (kp_alloc _ _) (kp_drew _)) q1, kp_cell (kp_trans (kp_alloc _ _) (kp_drew _)) q2, kp_cell (kp_trans (kp_alloc _ _) (kp_drew _)) q3⟩) (fun hHeld => ?_)
    clear hK K
    try simp only [Act.put, List.setIfInBounds_toArray, List.set_cons_zero, List.set_cons_succ]
    refine wpAnyH_ready (rs := [13]) (by kernel_rfl) (by simp) ?_
    refine AllReadyH.cons rfl (fun K hK => ?_) AllReadyH.nil
    go_simp
    refine hK.out _ _ (⟨kp_cell (kp_trans (kp_alloc _ _) (kp_drew _)) c1, kp_cell (kp_trans (kp_alloc _ _) (kp_drew _)) c2, kp_cell (kp_trans (kp_alloc _ _) (kp_drew _)) q0, kp_cell (kp_trans (kp_alloc _ _) (kp_drew _)) q1, kp_cell (kp_trans (kp_alloc _ _) (kp_drew _)) q2, kp_cell (kp_trans (kp_alloc _ _) (kp_drew _)) q3⟩) (fun hHeld => ?_)
    clear hK K
    try simp only [Act.put, List.setIfInBounds_toArray, List.set_cons_zero, List.set_cons_succ]
    refine wpAnyH_done (by kernel_rfl) ?_ _
    refine NoPanic.normal ?_
  case' cb =>
    go_simp
    refine hK.out _ _ (⟨kp_cell (kp_trans (kp_alloc _ _) (kp_drew _)) c1, kp_cell (kp_trans (kp_alloc _ _) (kp_drew _)) c2, kp_cell (kp_trans (kp_alloc _ _) (kp_drew _)) q0, kp_cell (kp_trans (kp_alloc _ _) (kp_drew _)) q1, kp_cell (kp_trans (kp_alloc _ _) (kp_drew _)) q2, kp_cell (kp_trans (kp_alloc _ _) (kp_drew _)) q3⟩) (fun hHeld => ?_)
    clear hK K
    try simp only [Act.put, List.setIfInBounds_toArray, List.set_cons_zero, List.set_cons_succ]
    refine callAt 9 14 112 (vals := #[.pointer (some ⟨r, 0, none⟩), .int .i64 m.now]) (by kernel_rfl) rfl rfl rfl rfl (by simp [Act.eval]) Tryz.func112 (by kernel_rfl) (by kernel_rfl) ?_
    refine Calls.mono (HF.out _ (kp_trans (kp_alloc _ _) (kp_drew _))) ?_
    rintro e w3 ⟨rfl, rfl⟩
    refine ⟨_, rfl, hHeld, fun hHeld => ?_⟩
    try simp only [Act.put, List.setIfInBounds_toArray, List.set_cons_zero, List.set_cons_succ]
    refine takeAt 10 (some 15) ?_ rfl rfl (by kernel_rfl) (by kernel_rfl) (by kernel_rfl) (fun _ _ _ h => h) (Or.inl ⟨by rfl, ?_⟩) hHeld ?_
    rotate_left
    · intro w hSw
      go_simp <;> with_reducible rfl
    try simp only [Act.put, List.setIfInBounds_toArray, List.set_cons_zero, List.set_cons_succ]
    refine takeAt 11 (some 16) ?_ rfl rfl (by kernel_rfl) (by kernel_rfl) (by kernel_rfl) (fun _ _ _ h => h) (Or.inl ⟨by rfl, ?_⟩) hHeld ?_
    rotate_left
    · intro w hSw
      go_simp <;> with_reducible rfl
    try simp only [Act.put, List.setIfInBounds_toArray, List.set_cons_zero, List.set_cons_succ]
    refine wpAnyH_ready (rs := [13]) (by kernel_rfl) (by simp) ?_
    refine AllReadyH.cons rfl (fun K hK => ?_) AllReadyH.nil
    go_simp
    refine hK.out _ _ (⟨kp_cell (kp_trans (kp_alloc _ _) (kp_drew _)) c1, kp_cell (kp_trans (kp_alloc _ _) (kp_drew _)) c2, kp_cell (kp_trans (kp_alloc _ _) (kp_drew _)) q0, kp_cell (kp_trans (kp_alloc _ _) (kp_drew _)) q1, kp_cell (kp_trans (kp_alloc _ _) (kp_drew _)) q2, kp_cell (kp_trans (kp_alloc _ _) (kp_drew _)) q3⟩) (fun hHeld => ?_)
    clear hK K
    try simp only [Act.put, List.setIfInBounds_toArray, List.set_cons_zero, List.set_cons_succ]
    refine wpAnyH_done (by kernel_rfl) ?_ _
    refine NoPanic.normal ?_
  all_goals
    rw [HW1.out]
    go_upto_region 4 with fail
    refine wp_region_noPanic ?_
    refine wp_region_held_drew (S := fun z => z.cell? ⟨r, 1, none⟩ = some (.slice (some ⟨g, 0, none⟩) N c) ∧ z.cell? ⟨w.heap.size, 1, none⟩ = some (.int .i64 s.fr) ∧ z.cell? ⟨w.heap.size, 0, none⟩ = some (.int .i64 s.seq)) (by kernel_rfl) (⟨y2, y1, y0⟩) (fun hHeld => ?_)
    refine takeAt 0 (some 20) ?_ rfl rfl (by kernel_rfl) (by kernel_rfl) (by kernel_rfl) (fun _ _ _ h => h) (Or.inl ⟨by rfl, ?_⟩) hHeld ?_
    rotate_left
    · intro w hSw
      go_simp <;> with_reducible rfl
    try simp only [Act.put, List.setIfInBounds_toArray, List.set_cons_zero, List.set_cons_succ]
    refine takeAt 1 (some 21) ?_ rfl rfl (by kernel_rfl) (by kernel_rfl) (by kernel_rfl) (fun _ _ _ h => h) (Or.inl ⟨by rfl, ?_⟩) hHeld ?_
    rotate_left
    · intro w hSw
      go_simp <;> with_reducible rfl
    try simp only [Act.put, List.setIfInBounds_toArray, List.set_cons_zero, List.set_cons_succ]
    refine takeAt 2 (some 22) ?_ rfl rfl (by kernel_rfl) (by kernel_rfl) (by kernel_rfl) (fun _ _ _ h => h) (Or.inl ⟨by rfl, ?_⟩) hHeld ?_
    rotate_left
    · intro w hSw
      go_simp <;> with_reducible rfl
    try simp only [Act.put, List.setIfInBounds_toArray, List.set_cons_zero, List.set_cons_succ]
    refine takeAt 3 (some 23) ?_ rfl rfl (by kernel_rfl) (by kernel_rfl) (by kernel_rfl) (fun _ _ _ h => h) (Or.inl ⟨by rfl, ?_⟩) hHeld ?_
    rotate_left
    · intro w hSw
      go_simp <;> with_reducible rfl
    try simp only [Act.put, List.setIfInBounds_toArray, List.set_cons_zero, List.set_cons_succ]
    refine takeAt 4 (some 24) ?_ rfl rfl (by kernel_rfl) (by kernel_rfl) (by kernel_rfl) (fun _ _ _ h => h) (Or.inl ⟨by rfl, ?_⟩) hHeld ?_
    rotate_left
    · intro w hSw
      go_simp <;> with_reducible rfl
    try simp only [Act.put, List.setIfInBounds_toArray, List.set_cons_zero, List.set_cons_succ]
    refine takeAt 5 (some 25) ?_ rfl rfl (by kernel_rfl) (by kernel_rfl) (by kernel_rfl) (fun _ _ _ h => h) (Or.inl ⟨by rfl, ?_⟩) hHeld ?_
    rotate_left
    · intro w hSw
      go_simp <;> with_reducible rfl
    try simp only [Act.put, List.setIfInBounds_toArray, List.set_cons_zero, List.set_cons_succ]
    refine takeAt 6 (some 26) ?_ rfl rfl (by kernel_rfl) (by kernel_rfl) (by kernel_rfl) (fun _ _ _ h => h) (Or.inl ⟨by rfl, ?_⟩) hHeld ?_
    rotate_left
    · intro w hSw
      go_simp <;> with_reducible rfl
    try simp only [Act.put, List.setIfInBounds_toArray, List.set_cons_zero, List.set_cons_succ]
    refine takeAt 8 (some 28) ?_ rfl rfl (by kernel_rfl) (by kernel_rfl) (by kernel_rfl) (fun _ _ _ h => h) (Or.inl ⟨by rfl, ?_⟩) hHeld ?_
    rotate_left
    · intro w hSw
      go_simp <;> with_reducible rfl
    try simp only [Act.put, List.setIfInBounds_toArray, List.set_cons_zero, List.set_cons_succ]
    refine takeAt 9 (some 29) ?_ rfl rfl (by kernel_rfl) (by kernel_rfl) (by kernel_rfl) (fun _ _ _ h => h) (Or.inl ⟨by rfl, ?_⟩) hHeld ?_
    rotate_left
    · intro w hSw
      go_simp <;> with_reducible rfl
    try simp only [Act.put, List.setIfInBounds_toArray, List.set_cons_zero, List.set_cons_succ]
    refine callAt 7 27 112 (vals := #[.pointer (some ⟨r, 0, none⟩), .int .i64 s.fr]) (by kernel_rfl) rfl rfl rfl rfl (by simp [Act.eval]) Tryz.func112 (by kernel_rfl) (by kernel_rfl) ?_
    refine Calls.mono (HF2.out _ (kp_trans HK1.out (by first | exact Below.refl _ _ | exact kp_drew _))) ?_
    rintro e w4 ⟨rfl, rfl⟩
    refine ⟨_, rfl, hHeld, fun hHeld => ?_⟩
    try simp only [Act.put, List.setIfInBounds_toArray, List.set_cons_zero, List.set_cons_succ]
    refine takeAt 10 (some 30) ?_ rfl rfl (by kernel_rfl) (by kernel_rfl) (by kernel_rfl) (fun _ _ _ h => h) (Or.inl ⟨by rfl, ?_⟩) hHeld ?_
    rotate_left
    · intro w hSw
      go_simp <;> with_reducible rfl
    try simp only [Act.put, List.setIfInBounds_toArray, List.set_cons_zero, List.set_cons_succ]
    refine takeAt 11 (some 31) ?_ rfl rfl (by kernel_rfl) (by kernel_rfl) (by kernel_rfl) (fun _ _ _ h => h) (Or.inl ⟨by rfl, ?_⟩) hHeld ?_
    rotate_left
    · intro w hSw
      go_simp <;> with_reducible rfl
    try simp only [Act.put, List.setIfInBounds_toArray, List.set_cons_zero, List.set_cons_succ]
    refine wpAnyH_ready (rs := [12]) (by kernel_rfl) (by simp) ?_
    refine AllReadyH.cons rfl (fun K hK => ?_) AllReadyH.nil
    go_simp
    refine hK.out _ _ (by rw [HW2.out]; exact ⟨x6, x1, x7⟩) (fun hHeld => ?_)
    clear hK K
    try simp only [Act.put, List.setIfInBounds_toArray, List.set_cons_zero, List.set_cons_succ]
    refine wpAnyH_done (by kernel_rfl) ?_ _
    refine NoPanic.normal ?_
    rw [HW2.out]
    go_upto_region 6 with fail
    rw [HW3.out]
    go_wp2_with fail
    refine Calls.mono HT.out ?_
    rintro e w4 ⟨v4, rfl, d4, k4⟩
    have HLL : Hid _ := HL.out v4 w4 d4 k4
    clear HT HL d4 k4
    go_wp2_with fail
    refine Calls.mono HLL.out ?_
    rintro e w5 ⟨v5, rfl, q5⟩
    have H5 : Hid _ := q5
    clear HLL q5
    go_wp2_with fail
    go_ret2
    exact ⟨_, rfl, H5.out⟩
end
end Go.Proofs.YtaefeakmlgjonaaGreat
