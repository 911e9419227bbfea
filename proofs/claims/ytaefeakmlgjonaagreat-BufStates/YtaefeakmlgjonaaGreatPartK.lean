/- Texts that the proof of the law stands on: BK, BN, BO, BP, BS, BT, BW, BX. -/
import Derived.Test.YtaefeakmlgjonaaGreatPartJ
import Derived.Lib.MinMax
/- follow: the marks go where a change takes their lines. -/
namespace Go.Proofs.YtaefeakmlgjonaaGreat
open Go.ChangeShapes Go.WideShapes Go.ChangeAt Go.RowKit Go.Maps Go.MapKept
set_option linter.unusedVariables false
set_option linter.unusedSimpArgs false
set_option maxRecDepth 100000
section
variable {B b M M' : Nat} {o o' : Tz.Own} {a : At} {s : BS} {w w1 : World} {N : Int} {v : Value} {f' : Mz.Mf}
/-- The marks alone are turned. -/
theorem Bf.mark (h : Bf B b o M a s w) (f : Fr (On a.mb) w w1) (hm : Mz.Mp a.mb (Mz.vals f') w1) : Bf B b o M a { s with mf := f' } w1 ∧ FK B o o w w1 := by
  have hbo : ∀ j, On a.mb j → j = a.mb := fun j e => by unfold On at e; exact e
  obtain ⟨es, c, hq, _⟩ := h.mp
  have ty : ∀ j cur e fr, w.heap[j]? = some (.cells cur e fr) → ¬ On a.mb j := fun j cur e fr hj q => by rw [hbo j q, hq] at hj; cases hj
  have hs : ∀ j, o j ≠ .free → w1.heap[j]? = w.heap[j]? := fun j hj => f.block j (tz_lt h.tr hj) fun e => hj (by rw [hbo j e]; exact h.fre hq trivial)
  refine ⟨⟨h.lb, h.box.fr f (ty _ _ _ _ h.box), tz_same h.tr f.size hs, h.ty.same hs, h.ol, hm, h.ml, h.kp.fr f.mz fun e => h.ne (hbo _ e).symm, h.kl, h.ne, h.st.frQ f (fun j ob hj hT e => ?_) (fun j cur fr hj _ => ty j _ _ _ hj) (fun j cur fr hj _ => ty j _ _ _ hj), h.op.frO f (fun j cur fr hj => ty j _ _ _ hj) (fun j cur fr hj _ => ty j _ _ _ hj), h.oc⟩, ⟨f.mono fun j hj e => ?_, fun _ _ e => e⟩⟩
  · rw [hbo j e] at hj; exact mz_tp h.mp hj hT
  · rw [hbo j e]; exact ⟨h.ml, .inr ⟨_, hq, trivial⟩⟩
set_option maxHeartbeats 16000000 in
theorem follow_any (h : Bf B b o M a s w) (hd : ∀ x c, s.mf x = some c → 97 ≤ x ∧ x ≤ 122) (hB : Mz.Bd N s.mf) (hN : N ≤ 1099511627776) {i : Int} (hi : 0 ≤ i ∧ i ≤ 1000000000) {n k oc nc : Nat} {oa na : Option Addr} :
    Calls Tryz.prog 56 #[.pointer (some ⟨b, 0, none⟩), .agg #[.int .i64 i, .slice oa n oc, .slice na k nc]] w fun e w' => e = .returned (.tuple #[]) ∧ Bf B b o M a { s with mf := Mz.spF s.mf (i + 1) n k } w' ∧ FK B o o w w' ∧ ∀ j, j < w.heap.size → j ≠ a.mb → w'.heap[j]? = w.heap[j]? := by
  obtain ⟨p, hp⟩ : ∃ p, w.heap.size = p := ⟨_, rfl⟩
  obtain ⟨W1, hW1⟩ : ∃ z, w.alloc (.cells #[.int .i64 i, .slice oa n oc, .slice na k nc] 89) = z := ⟨_, rfl⟩
  have k1 : Kp w W1 := by rw [← hW1]; exact kp_alloc _ _
  have b1 : Lc 89 p [.int .i64 i, .slice oa n oc, .slice na k nc] W1 := by rw [← hW1, ← hp]; exact Lc.new w [.int .i64 i, .slice oa n oc, .slice na k nc] 89
  obtain ⟨tt, htt⟩ : ∃ t, a.t = t := ⟨_, rfl⟩
  have HSD : Hid (Sd p b i (.slice oa n oc) (.slice na k nc) (.pointer (some ⟨tt, 0, none⟩)) W1) := ⟨b1.at (j := 0) rfl, b1.at (j := 1) rfl, b1.at (j := 2) rfl, by rw [← htt]; exact (h.kp_ k1).box.at (j := 0) rfl⟩
  have s0 : ∀ y, Sd p b i (.slice oa n oc) (.slice na k nc) (.pointer (some ⟨tt, 0, none⟩)) y → y.cell? ⟨p, 0, none⟩ = some (.int .i64 i) := fun _ h => h.1
  have s1 : ∀ y, Sd p b i (.slice oa n oc) (.slice na k nc) (.pointer (some ⟨tt, 0, none⟩)) y → y.cell? ⟨p, 1, none⟩ = some (.slice oa n oc) := fun _ h => h.2.1
  have s2 : ∀ y, Sd p b i (.slice oa n oc) (.slice na k nc) (.pointer (some ⟨tt, 0, none⟩)) y → y.cell? ⟨p, 2, none⟩ = some (.slice na k nc) := fun _ h => h.2.2.1
  have s3 : ∀ y, Sd p b i (.slice oa n oc) (.slice na k nc) (.pointer (some ⟨tt, 0, none⟩)) y → y.cell? ⟨b, 0, none⟩ = some (.pointer (some ⟨tt, 0, none⟩)) := fun _ h => h.2.2.2
  have HS : Hid (Calls Tryz.prog 97 #[.pointer (some ⟨b, 1, none⟩), .int .i64 (i + 1), .int .i64 n, .int .i64 k] W1.drew fun e w' => e = .returned (.tuple #[]) ∧ (Bf B b o M a { s with mf := Mz.spF s.mf (i + 1) n k } w' ∧ FK B o o w w' ∧ ∀ j, j < w.heap.size → j ≠ a.mb → w'.heap[j]? = w.heap[j]?) ∧ (Sd p b i (.slice oa n oc) (.slice na k nc) (.pointer (some ⟨tt, 0, none⟩)) W1 → Sd p b i (.slice oa n oc) (.slice na k nc) (.pointer (some ⟨tt, 0, none⟩)) w')) := by
    have kz := kp_drew W1
    have hz := h.kp_ (kp_trans k1 kz)
    refine (Mz.splice_any (t := b) (o := 1) (b := a.mb) (f := s.mf) ⟨⟨_, _, hz.box, rfl⟩, hz.mp, hd⟩ hB hN (i + 1) n k).mono ?_
    rintro e w' ⟨rfl, hm, ff⟩
    obtain ⟨q1, q2⟩ := hz.mark (Fr.zm ff) hm.map
    refine ⟨rfl, ⟨q1, (FK.kp (kp_trans k1 kz) o).trans q2, fun j hj hn => (ff.block j (Nat.lt_of_lt_of_le hj (kp_trans k1 kz).size) hn).trans ((kp_trans k1 kz).block j hj)⟩, fun hs => hs.eq ?_ (by rw [← htt]; exact q1.box.at (j := 0) rfl)⟩
    have hpz : p < W1.drew.heap.size := (b1.kp kz).lt
    rw [ff.block p hpz fun e => hz.mp.ne (show Mz.Lc 89 p _ _ from b1.kp kz) e]
    exact kz.block p b1.lt
  clear h hd hB b1 k1 hN htt
  have hwi : IntKind.i64.wrap (i + 1) = i + 1 := by rw [IntKind.wrap_i64]; omega
  go_enter Tryz.func56, Tryz.ntmps56
  go_wp2_with fail
  refine wp_region_noPanic ?_
  refine wp_region_held_drew (S := Sd p b i (.slice oa n oc) (.slice na k nc) (.pointer (some ⟨tt, 0, none⟩))) (by kernel_rfl) (HSD.out) (fun hHeld => ?_)
  refine takeAt 0 (some 4) ?_ rfl rfl (by kernel_rfl) (by kernel_rfl) (by kernel_rfl) (fun _ _ _ h => h) (Or.inl ⟨by rfl, ?_⟩) hHeld ?_
  rotate_left
  · intro w hSw
    go_simp <;> with_reducible rfl
  try simp only [Act.put, List.setIfInBounds_toArray, List.set_cons_zero, List.set_cons_succ]
  refine takeAt 1 (some 5) ?_ rfl rfl (by kernel_rfl) (by kernel_rfl) (by kernel_rfl) (fun _ _ _ h => h) (Or.inl ⟨by rfl, ?_⟩) hHeld ?_
  rotate_left
  · intro w hSw
    go_simp <;> with_reducible rfl
  try simp only [Act.put, List.setIfInBounds_toArray, List.set_cons_zero, List.set_cons_succ]
  refine takeAt 2 (some 6) ?_ rfl rfl (by kernel_rfl) (by kernel_rfl) (by kernel_rfl) (fun _ _ _ h => h) (Or.inl ⟨by rfl, ?_⟩) hHeld ?_
  rotate_left
  · intro w hSw
    go_simp <;> with_reducible rfl
  try simp only [Act.put, List.setIfInBounds_toArray, List.set_cons_zero, List.set_cons_succ]
  refine takeAt 3 (some 7) ?_ rfl rfl (by kernel_rfl) (by kernel_rfl) (by kernel_rfl) (fun _ _ _ h => h) (Or.inl ⟨by rfl, ?_⟩) hHeld ?_
  rotate_left
  · intro w hSw
    go_simp <;> with_reducible rfl
  try simp only [Act.put, List.setIfInBounds_toArray, List.set_cons_zero, List.set_cons_succ]
  refine takeAt 4 (some 8) ?_ rfl rfl (by kernel_rfl) (by kernel_rfl) (by kernel_rfl) (fun _ _ _ h => h) (Or.inl ⟨by rfl, ?_⟩) hHeld ?_
  rotate_left
  · intro w hSw
    go_simp <;> with_reducible rfl
  try simp only [Act.put, List.setIfInBounds_toArray, List.set_cons_zero, List.set_cons_succ]
  refine takeAt 5 (some 9) ?_ rfl rfl (by kernel_rfl) (by kernel_rfl) (by kernel_rfl) (fun _ _ _ h => h) (Or.inl ⟨by rfl, ?_⟩) hHeld ?_
  rotate_left
  · intro w hSw
    go_simp <;> with_reducible rfl
  try simp only [Act.put, List.setIfInBounds_toArray, List.set_cons_zero, List.set_cons_succ]
  refine takeAt 6 (some 10) ?_ rfl rfl (by kernel_rfl) (by kernel_rfl) (by kernel_rfl) (fun _ _ _ h => h) (Or.inl ⟨by rfl, ?_⟩) hHeld ?_
  rotate_left
  · intro w hSw
    go_simp <;> with_reducible rfl
  try simp only [Act.put, List.setIfInBounds_toArray, List.set_cons_zero, List.set_cons_succ]
  refine takeAt 7 (some 11) ?_ rfl rfl (by kernel_rfl) (by kernel_rfl) (by kernel_rfl) (fun _ _ _ h => h) (Or.inl ⟨by rfl, ?_⟩) hHeld ?_
  rotate_left
  · intro w hSw
    go_simp <;> with_reducible rfl
  try simp only [Act.put, List.setIfInBounds_toArray, List.set_cons_zero, List.set_cons_succ]
  refine takeAt 8 (some 12) ?_ rfl rfl (by kernel_rfl) (by kernel_rfl) (by kernel_rfl) (fun _ _ _ h => h) (Or.inl ⟨by rfl, ?_⟩) hHeld ?_
  rotate_left
  · intro w hSw
    go_simp <;> with_reducible rfl
  try simp only [Act.put, List.setIfInBounds_toArray, List.set_cons_zero, List.set_cons_succ]
  refine takeAt 9 (some 13) ?_ rfl rfl (by kernel_rfl) (by kernel_rfl) (by kernel_rfl) (fun _ _ _ h => h) (Or.inl ⟨by rfl, ?_⟩) hHeld ?_
  rotate_left
  · intro w hSw
    go_simp <;> with_reducible rfl
  try simp only [Act.put, List.setIfInBounds_toArray, List.set_cons_zero, List.set_cons_succ]
  refine takeAt 10 (some 14) ?_ rfl rfl (by kernel_rfl) (by kernel_rfl) (by kernel_rfl) (fun _ _ _ h => h) (Or.inl ⟨by rfl, ?_⟩) hHeld ?_
  rotate_left
  · intro w hSw
    go_simp <;> with_reducible rfl
  try simp only [Act.put, List.setIfInBounds_toArray, List.set_cons_zero, List.set_cons_succ]
  refine takeAt 11 (some 15) ?_ rfl rfl (by kernel_rfl) (by kernel_rfl) (by kernel_rfl) (fun _ _ _ h => h) (Or.inl ⟨by rfl, ?_⟩) hHeld ?_
  rotate_left
  · intro w hSw
    go_simp <;> with_reducible rfl
  try simp only [Act.put, List.setIfInBounds_toArray, List.set_cons_zero, List.set_cons_succ]
  refine takeAt 12 (some 16) ?_ rfl rfl (by kernel_rfl) (by kernel_rfl) (by kernel_rfl) (fun _ _ _ h => h) (Or.inl ⟨by rfl, ?_⟩) hHeld ?_
  rotate_left
  · intro w hSw
    go_simp <;> with_reducible rfl
  try simp only [Act.put, List.setIfInBounds_toArray, List.set_cons_zero, List.set_cons_succ]
  refine callAt 13 17 97 (vals := #[.pointer (some ⟨b, 1, none⟩), .int .i64 (i + 1), .int .i64 n, .int .i64 k]) (by kernel_rfl) rfl rfl rfl rfl (by simp [Act.eval, hwi]) Tryz.func97 (by kernel_rfl) (by kernel_rfl) ?_
  refine Calls.mono (HS.out) ?_
  rintro e w5 ⟨rfl, q, q3⟩
  have HX : Hid _ := q
  have hs5 : Sd p b i (.slice oa n oc) (.slice na k nc) (.pointer (some ⟨tt, 0, none⟩)) w5 := q3 HSD.out
  clear q q3
  refine ⟨_, rfl, hs5, fun hHeld => ?_⟩
  try simp only [Act.put, List.setIfInBounds_toArray, List.set_cons_zero, List.set_cons_succ]
  refine wpAnyH_done (by kernel_rfl) ?_ _
  refine NoPanic.normal ?_
  clear HS s0 s1 s2 s3
  go_wp2_with fail
  go_end0
  exact ⟨rfl, HX.out⟩
end
end Go.Proofs.YtaefeakmlgjonaaGreat
/- beyond, atLeastOne. -/
namespace Go.Proofs.YtaefeakmlgjonaaGreat
open Go.ChangeShapes Go.WideShapes Go.ChangeAt Go.RowKit Go.Maps Go.MapKept
set_option linter.unusedVariables false
set_option linter.unusedSimpArgs false
set_option maxRecDepth 100000
section
variable {P : Nat → Prop} {w : World} {v : Value} {ls : List ByteArray}
set_option maxHeartbeats 4000000 in
theorem tooLong_any (x : ByteArray) (w : World) : Calls Tryz.prog 83 #[.string x] w fun e w' => e = .returned (.bool (decide (1000 < x.size))) ∧ w' = w := by
  by_cases h : 1000 < x.size
  · have d1 : decide ((x.size : Int) > 1000) = true := decide_eq_true (by omega)
    have d2 : decide (1000 < x.size) = true := decide_eq_true h
    have d3 : decide ((1000 : Int) < (x.size : Int)) = true := decide_eq_true (by omega)
    go_enter Tryz.func83, Tryz.ntmps83
    go_wp2_with fail
    go_ret
    exact ⟨by rw [d2]; rfl, rfl⟩
  · have d1 : decide ((x.size : Int) > 1000) = false := decide_eq_false (by omega)
    have d2 : decide (1000 < x.size) = false := decide_eq_false h
    have d3 : decide ((1000 : Int) < (x.size : Int)) = false := decide_eq_false (by omega)
    go_enter Tryz.func83, Tryz.ntmps83
    go_wp2_with fail
    go_ret
    exact ⟨by rw [d2]; rfl, rfl⟩
/-- Is one of the lines too long? -/
def anyLong (ls : List ByteArray) : Bool := ls.any fun x => decide (1000 < x.size)
set_option maxHeartbeats 8000000 in
theorem indexF_any (h : Sl P v ls w) : Calls Tryz.prog 125 #[v, .func (.func 83) #[] #[]] w fun e w' => (∃ x : Int, e = .returned (.int .i64 x) ∧ decide (0 ≤ x) = anyLong ls) ∧ ∃ q, w' = w.drewN q := by
  obtain ⟨a', c, rfl, h1, h2, _⟩ := h.form
  obtain ⟨n, hn⟩ : ∃ n, ls.length = n := ⟨_, rfl⟩
  have HS : Hid (Sl P (.slice a' n c) ls w ∧ ls.length = n) := ⟨by rw [← hn]; exact h, hn⟩
  rw [hn] at h1 ⊢
  unfold maxLen at h2
  have hn9 : n ≤ 9223372036854775807 := by omega
  clear h hn h1 h2
  go_enter Tryz.func125, Tryz.ntmps125
  go_wp2_with fail
  go_loopw [8] (fun v8 wr => ∃ i : Nat, i ≤ n ∧ v8 = .int .i64 i ∧ Hid (anyLong (ls.take i) = false) ∧ ∃ q, wr = w.drewN q) (fun v8 _ => n - (intOf v8).toNat)
  case atStart => exact ⟨0, Nat.zero_le _, rfl, rfl, 0, rfl⟩
  case round =>
    obtain ⟨i, hi, rfl, HI, q, rfl⟩ := hrel
    by_cases hlt : i < n
    · have g1 : decide ((i : Int) < (n : Int)) = true := decide_eq_true (by omega)
      have g2 : decide (i < n) = true := decide_eq_true hlt
      obtain ⟨x, hx⟩ : ∃ x, ls[i]? = some x := ⟨_, List.getElem?_eq_getElem (by rw [HS.out.2]; exact hlt)⟩
      obtain ⟨g, off, rfl, _, e1⟩ := HS.out.1.at_ hx
      have hT : Hid (∀ z, Calls Tryz.prog 83 #[.string x] z fun e w' => e = .returned (.bool (decide (1000 < x.size))) ∧ w' = z) := fun z => tooLong_any x z
      have HN : Hid (anyLong (ls.take (i + 1)) = decide (1000 < x.size) ∧ (decide (1000 < x.size) = true → anyLong ls = true)) := by
        have e2 : ls.take (i + 1) = ls.take i ++ [x] := take_snoc ls hx
        refine ⟨?_, fun e => ?_⟩
        · have := HI.out; unfold anyLong at this ⊢; rw [e2, List.any_append, this]; simp
        · unfold anyLong; exact List.any_eq_true.2 ⟨x, List.mem_of_getElem? hx, e⟩
      generalize decide (1000 < x.size) = d at hT HN
      clear hx HI
      go_wp2_with fail
      refine Calls.mono (hT.out _) ?_
      rintro e w5 ⟨rfl, rfl⟩
      clear hT
      cases d with
      | true =>
        go_wp2_with fail
        go_ret
        exact ⟨⟨i, rfl, by rw [HN.out.2 (by trivial)]; exact decide_eq_true (by omega)⟩, _, rfl⟩
      | false =>
        go_wp2_with fail
        go_roundw
        case rel => exact ⟨i + 1, by omega, by go_num, HN.out.1, _, rfl⟩
        case measure => simp only [intOf]; omega
    · obtain rfl : i = n := by omega
      have g1 : decide ((i : Int) < (i : Int)) = false := by simp
      have HX : Hid (anyLong ls = false) := by have := HI.out; rw [List.take_of_length_le (by rw [HS.out.2]; exact Nat.le_refl _)] at this; exact this
      clear HI
      go_wp2_with fail
      go_ret
      exact ⟨⟨-1, rfl, by rw [HX.out]; rfl⟩, _, rfl⟩
set_option maxHeartbeats 4000000 in
theorem contF_any (h : Sl P v ls w) : Calls Tryz.prog 82 #[v, .func (.func 83) #[] #[]] w fun e w' => e = .returned (.bool (anyLong ls)) ∧ ∃ q, w' = w.drewN q := by
  have HI : Hid _ := indexF_any h
  generalize anyLong ls = A at HI ⊢
  clear h
  go_enter Tryz.func82, Tryz.ntmps82
  go_wp2_with fail
  refine Calls.mono HI.out ?_
  rintro e w5 ⟨⟨x, rfl, hx⟩, q, rfl⟩
  have d1 : decide (x ≥ 0) = A := hx
  clear HI
  go_wp2_with fail
  go_ret
  exact ⟨rfl, _, rfl⟩
/-- Which limit so many lines, these among them, are beyond. -/
def beyondE (k : Int) (ls : List ByteArray) : Int := if 2000 < k then 3 else if anyLong ls then 90 else 0
set_option maxHeartbeats 4000000 in
theorem beyond_any (h : Sl P v ls w) (k : Int) : Calls Tryz.prog 41 #[.int .i64 k, v] w fun e w' => e = .returned (.int .u16 (beyondE k ls)) ∧ ∃ q, w' = w.drewN q := by
  have HI : Hid (∀ z, Kp w z → Calls Tryz.prog 82 #[v, .func (.func 83) #[] #[]] z fun e w' => e = .returned (.bool (anyLong ls)) ∧ ∃ q, w' = z.drewN q) := fun z kz => contF_any (h.kp kz)
  obtain ⟨a', c, rfl, _⟩ := h.form
  unfold beyondE
  obtain ⟨n, hn⟩ : ∃ n, ls.length = n := ⟨_, rfl⟩
  rw [hn] at HI ⊢
  generalize anyLong ls = A at HI ⊢
  clear h hn
  by_cases hk : 2000 < k
  · have d1 : decide (k > 2000) = true := decide_eq_true (by omega)
    have d2 : decide (2000 < k) = true := decide_eq_true hk
    rw [if_pos hk]
    go_enter Tryz.func41, Tryz.ntmps41
    go_wp2_with fail
    go_ret
    exact ⟨rfl, 0, rfl⟩
  · have d1 : decide (k > 2000) = false := decide_eq_false (by omega)
    have d2 : decide (2000 < k) = false := decide_eq_false hk
    rw [if_neg hk]
    go_enter Tryz.func41, Tryz.ntmps41
    go_wp2_with fail
    refine Calls.mono (HI.out _ (by first | exact Below.refl _ _ | exact kp_drewN _ _)) ?_
    rintro e w5 ⟨rfl, q, rfl⟩
    clear HI
    cases A with
    | true => go_wp2_with fail; go_ret; exact ⟨rfl, _, rfl⟩
    | false => go_wp2_with fail; go_ret; exact ⟨rfl, _, rfl⟩
/-- These lines, or an empty one. -/
def one1 (ls : List ByteArray) : List ByteArray := if ls.length = 0 then [⟨#[]⟩] else ls
end
end Go.Proofs.YtaefeakmlgjonaaGreat
/- atLeastOne, spliced. -/
namespace Go.Proofs.YtaefeakmlgjonaaGreat
open Go.ChangeShapes Go.WideShapes Go.ChangeAt Go.RowKit Go.Maps Go.MapKept
set_option linter.unusedVariables false
set_option linter.unusedSimpArgs false
set_option maxRecDepth 100000
section
variable {P : Nat → Prop} {B b M : Nat} {o : Tz.Own} {a : At} {s : BS} {w w0 : World} {v : Value} {ls : List ByteArray} {N : Int} {D : Nat}
theorem one_row (w : World) : Row w.heap.size (.slice (some ⟨w.heap.size, 0, none⟩) 1 1) [⟨#[]⟩] (w.alloc (.cells #[.string ⟨#[]⟩] 9)) :=
  ⟨rfl, .inr ⟨w.heap.size, 1, _, rfl, Nat.le_refl _, alloc_new _ _, Nat.le_refl _, by simp [maxLen], rfl, rfl⟩⟩
set_option maxHeartbeats 4000000 in
theorem atLeast_row (h : Row D v ls w) (hD : D ≤ w.heap.size) : Calls Tryz.prog 43 #[v] w fun e w' => ∃ v', e = .returned v' ∧ Row D v' (one1 ls) w' ∧ Kp w w' := by
  obtain ⟨a', c, rfl, _, _⟩ := h.form
  obtain ⟨n, hn⟩ : ∃ n, ls.length = n := ⟨_, rfl⟩
  have HR : Hid (Row D (.slice a' n c) ls w ∧ D ≤ w.heap.size ∧ ls.length = n) := ⟨by rw [← hn]; exact h, hD, hn⟩
  rw [hn]
  clear h hD hn
  by_cases z : n = 0
  · subst z
    have HX : Hid (Row D (.slice (some ⟨w.heap.size, 0, none⟩) 1 1) (one1 ls) (w.alloc (.cells #[.string ⟨#[]⟩] 9)) ∧ Kp w (w.alloc (.cells #[.string ⟨#[]⟩] 9))) := by
      refine ⟨?_, kp_alloc _ _⟩
      unfold one1; rw [if_pos HR.out.2.2]
      exact row_lift (one_row w) fun j hj => Nat.le_trans HR.out.2.1 ((one_row w).lt j hj).1
    go_enter Tryz.func43, Tryz.ntmps43
    go_wp2_with fail
    go_ret
    exact ⟨_, rfl, HX.out⟩
  · have d1 : ((n : Int) == 0) = false := beq_eq_false_iff_ne.2 (by omega)
    have HX : Hid (Row D (.slice a' n c) (one1 ls) w ∧ Kp w w) := by
      refine ⟨?_, Below.refl _ _⟩
      unfold one1; rw [if_neg (by rw [HR.out.2.2]; exact z)]; exact HR.out.1
    go_enter Tryz.func43, Tryz.ntmps43
    go_wp2_with fail
    go_ret
    exact ⟨_, rfl, HX.out⟩
/-- What a splice puts: where all lines are taken, one at least. -/
def putL (L n : Nat) (ms : List ByteArray) : List ByteArray := if n = L then one1 ms else ms
theorem one1_ln (h : Ln ls) : Ln (one1 ls) := by
  unfold one1
  split
  · exact ⟨by simp, fun s hs => by simp only [List.mem_singleton] at hs; subst hs; decide⟩
  · exact h
theorem putL_ln (h : Ln ls) (L n : Nat) : Ln (putL L n ls) := by
  unfold putL
  split
  · exact one1_ln h
  · exact h
end
end Go.Proofs.YtaefeakmlgjonaaGreat
/- spliced. -/
namespace Go.Proofs.YtaefeakmlgjonaaGreat
open Go.ChangeShapes Go.WideShapes Go.ChangeAt Go.RowKit Go.Maps Go.MapKept
set_option linter.unusedVariables false
set_option linter.unusedSimpArgs false
set_option maxRecDepth 100000
section
variable {P : Nat → Prop} {B b M : Nat} {o : Tz.Own} {a : At} {s : BS} {w w0 : World} {v : Value} {ls : List ByteArray} {N : Int} {D : Nat}
/-- A part of a text's lines. -/
theorem bpart_ok (h : Bf B b o M a s w) (hl : Ln s.ls) {i n : Nat} (hin : i + n ≤ s.ls.length) : Calls Tryz.prog 86 #[.pointer (some ⟨a.t, 0, none⟩), .int .i64 i, .int .i64 n] w fun e w' => ∃ oa oc, e = .returned (.tuple #[.slice oa n oc, .bool true]) ∧ Row w.heap.size (.slice oa n oc) ((s.ls.drop i).take n) w' ∧ Kp w w' := by
  have hl1 := hl.1
  refine (Tz.part_ok h.tr (by omega) hin).mono ?_
  rintro e w' ⟨v, rfl, k, gb, rfl, r⟩
  have e2 : ((s.ls.drop i).take n).length = n := by rw [List.length_take, List.length_drop]; omega
  rw [e2] at r ⊢
  refine ⟨_, _, rfl, ?_, k⟩
  unfold Row; rw [e2]; exact r
set_option maxHeartbeats 16000000 in
theorem spliced_any (h : Bf B b o M a s w) (hl : Ln s.ls) {i n : Nat} (hin : i + n ≤ s.ls.length) (hv : Sl P v ls w) (hl2 : ls.length ≤ 100000) :
    Calls Tryz.prog 55 #[.pointer (some ⟨b, 0, none⟩), .int .i64 ((i : Int) + 1), .int .i64 n, v] w fun e w' => ∃ oa oc na nc K, e = .returned (.agg #[.int .i64 i, .slice oa n oc, .slice na K nc]) ∧ K = (putL s.ls.length n ls).length ∧ Row w.heap.size (.slice oa n oc) ((s.ls.drop i).take n) w' ∧ Row w.heap.size (.slice na K nc) (putL s.ls.length n ls) w' ∧ Kp w w' := by
  obtain ⟨va, vc, rfl, _⟩ := hv.form
  obtain ⟨K3, hK3⟩ : ∃ K, ls.length = K := ⟨_, rfl⟩
  rw [hK3] at hv hl2 ⊢
  obtain ⟨p, hp⟩ : ∃ p, w.heap.size = p := ⟨_, rfl⟩
  obtain ⟨W1, hW1⟩ : ∃ z, w.alloc (.cells #[.int .i64 0, .slice none 0 0, .slice none 0 0] 89) = z := ⟨_, rfl⟩
  have k1 : Kp w W1 := by rw [← hW1]; exact kp_alloc _ _
  have z1 : W1.heap.size = p + 1 := by rw [← hW1, alloc_size, hp]
  have b1 : Lc 89 p [.int .i64 0, .slice none 0 0, .slice none 0 0] W1 := by rw [← hW1, ← hp]; exact Lc.new w [.int .i64 0, .slice none 0 0, .slice none 0 0] 89
  have h1 := h.kp_ k1
  have c0 := h1.box.at (j := 0) rfl
  have HPt : Hid _ := bpart_ok h1 hl hin
  have HCl : Hid (∀ z, Kp w z → Calls Tryz.prog 77 #[.slice va K3 vc] z fun e w' => ∃ v', e = .returned v' ∧ Row z.heap.size v' ls w' ∧ Kp z w') := fun z kz => clone_all (hv.kp kz) (by omega)
  have HLn : Hid (∀ z, Kp W1 z → Calls Tryz.prog 52 #[.pointer (some ⟨a.t, 0, none⟩)] z fun e w' => e = .returned (.int .i64 s.ls.length) ∧ ∃ q, w' = z.drewN q) := fun z kz => (h1.kp_ kz).tr.len
  have HB : Hid (Kp w W1 ∧ Lc 89 p [.int .i64 0, .slice none 0 0, .slice none 0 0] W1 ∧ W1.heap.size = p + 1 ∧ w.heap.size = p) := ⟨k1, b1, z1, hp⟩
  obtain ⟨t, ht⟩ : ∃ t, a.t = t := ⟨_, rfl⟩
  obtain ⟨L, hL⟩ : ∃ L, s.ls.length = L := ⟨_, rfl⟩
  rw [ht] at HPt HLn c0
  rw [hL] at HLn hin ⊢
  have hLI : (L : Int) ≤ 2000 := by have := hl.1; omega
  have HK3 : Hid (ls.length = K3) := hK3
  clear hK3 h h1 hl hv k1 b1 z1 ht hL
  go_enter Tryz.func55, Tryz.ntmps55
  go_wp2_with fail
  refine Calls.mono HPt.out ?_
  rintro e w2 ⟨oa, oc, rfl, r2, k2⟩
  have H2 : Hid (Row W1.heap.size (.slice oa n oc) ((s.ls.drop i).take n) w2 ∧ Kp W1 w2) := ⟨r2, k2⟩
  have c02 := kp_cell k2 c0
  clear HPt r2 k2 c0
  go_wp2_with fail
  refine Calls.mono (HCl.out _ (kp_trans HB.out.1 H2.out.2)) ?_
  rintro e w3 ⟨v3, rfl, r3, k3⟩
  obtain ⟨ca, cc, rfl, _, _⟩ := Row.form r3
  have H3 : Hid (Row w2.heap.size (.slice ca K3 cc) ls w3 ∧ Kp w2 w3 ∧ ls.length = K3) := ⟨by rw [← HK3.out]; exact r3, k3, HK3.out⟩
  have c03 := kp_cell k3 c02
  rw [HK3.out]
  clear HCl r3 k3 c02
  go_wp2_with fail
  refine Calls.mono (HLn.out _ (kp_trans H2.out.2 H3.out.2.1)) ?_
  rintro e w4 ⟨rfl, q4, rfl⟩
  clear HLn
  have FIN : ∀ (z : World) (ra : Option Addr) (rc : Nat) {R : Nat}, Kp w2 z → Row w2.heap.size (.slice ra R rc) (putL L n ls) z → R = (putL L n ls).length →
      (z.cell? ⟨p, 0, none⟩ = some (.int .i64 0)) ∧ (z.cell? ⟨p, 1, none⟩ = some (.slice none 0 0)) ∧ (z.cell? ⟨p, 2, none⟩ = some (.slice none 0 0)) ∧ z.frozen? ⟨p, 0, none⟩ = false ∧ z.frozen? ⟨p, 1, none⟩ = false ∧ z.frozen? ⟨p, 2, none⟩ = false ∧
      Hid (Lc 89 p [.int .i64 i, .slice oa n oc, .slice ra R rc] (((z.setCell ⟨p, 0, none⟩ (.int .i64 i)).setCell ⟨p, 1, none⟩ (.slice oa n oc)).setCell ⟨p, 2, none⟩ (.slice ra R rc)) ∧ R = (putL L n ls).length ∧ Row w.heap.size (.slice oa n oc) ((s.ls.drop i).take n) (((z.setCell ⟨p, 0, none⟩ (.int .i64 i)).setCell ⟨p, 1, none⟩ (.slice oa n oc)).setCell ⟨p, 2, none⟩ (.slice ra R rc)) ∧ Row w.heap.size (.slice ra R rc) (putL L n ls) (((z.setCell ⟨p, 0, none⟩ (.int .i64 i)).setCell ⟨p, 1, none⟩ (.slice oa n oc)).setCell ⟨p, 2, none⟩ (.slice ra R rc)) ∧ Kp w (((z.setCell ⟨p, 0, none⟩ (.int .i64 i)).setCell ⟨p, 1, none⟩ (.slice oa n oc)).setCell ⟨p, 2, none⟩ (.slice ra R rc))) := fun z ra rc R kz hr hR => by
    have bz := (HB.out.2.1.kp H2.out.2).kp kz
    have s1 := bz.set 0 (.int .i64 i)
    have s2 := s1.set 1 (.slice oa n oc)
    have s3 := s2.set 2 (.slice ra R rc)
    have zz : w.heap.size ≤ w2.heap.size := (kp_trans HB.out.1 H2.out.2).size
    have row3 : ∀ {D : Nat} {v : Value} {l : List ByteArray}, Row D v l z → Row D v l (((z.setCell ⟨p, 0, none⟩ (.int .i64 i)).setCell ⟨p, 1, none⟩ (.slice oa n oc)).setCell ⟨p, 2, none⟩ (.slice ra R rc)) := fun hv => by
      have one : ∀ {y : World} {D : Nat} {v : Value} {l : List ByteArray} {bl : List Value} (j : Nat) (u : Value), Row D v l y → Lc 89 p bl y → Row D v l (y.setCell ⟨p, j, none⟩ u) := fun j u hv hb => row_fr hv (fr_set p j u _) fun k hk e => row_ne hv hb (by decide) (by unfold On at e; rw [hk, e])
      exact one 2 _ (one 1 _ (one 0 _ hv bz) s1) s2
    refine ⟨bz.at (j := 0) rfl, bz.at (j := 1) rfl, bz.at (j := 2) rfl, bz.fz 0, bz.fz 1, bz.fz 2, s3, hR, row3 (row_kp (row_lift H2.out.1 fun j hj => ?_) kz), row3 (row_lift hr fun j hj => Nat.le_trans zz (hr.lt j hj).1), ?_⟩
    · have := (H2.out.1.lt j hj).1; have := HB.out.1.size; omega
    · have k0 : Kp w z := kp_trans (kp_trans HB.out.1 H2.out.2) kz
      have hp := HB.out.2.2.2
      exact kp_set (kp_set (kp_set k0 (by omega) _ _) (by omega) _ _) (by omega) _ _
  by_cases z : n = L
  · have d1 : ((n : Int) == (L : Int)) = true := by rw [z]; exact beq_self_eq_true _
    have HA : Hid _ := atLeast_row (row_kp H3.out.1 (kp_drewN w3 q4)) (by have := H3.out.2.1.size; show _ ≤ (w3.drewN q4).heap.size; rw [drewN_heap]; exact this)
    have HZ : Hid (n = L) := z
    clear z
    go_wp2_with fail
    refine Calls.mono HA.out ?_
    rintro e w5 ⟨v5, rfl, r5, k5⟩
    obtain ⟨ra, rc, rfl, _, _⟩ := Row.form r5
    have kk : Kp w3 w5 := kp_trans (kp_drewN _ _) k5
    have HQ := FIN (w5) ra rc (kp_trans H3.out.2.1 kk) (by unfold putL; rw [if_pos HZ.out]; exact r5) (by unfold putL; rw [if_pos HZ.out])
    obtain ⟨d0, d2, d3, e0, e1, e2, HX⟩ := HQ
    clear HA r5 k5 kk HB H2 H3 FIN
    go_wp2_with fail
    refine bodyPost_ret (results_box1 rfl rfl HX.out.1 Tryz.underlying89 rfl (by kernel_rfl)) rfl ?_
    exact ⟨_, _, _, _, _, rfl, HX.out.2⟩
  · have d1 : ((n : Int) == (L : Int)) = false := beq_eq_false_iff_ne.2 (by omega)
    have HQ := FIN (w3.drewN q4) ca cc (kp_trans H3.out.2.1 (kp_drewN _ _)) (by unfold putL; rw [if_neg z]; exact row_kp H3.out.1 (kp_drewN _ _)) (by unfold putL; rw [if_neg z, H3.out.2.2])
    obtain ⟨d0, d2, d3, e0, e1, e2, HX⟩ := HQ
    clear HB H2 H3 FIN z
    go_wp2_with fail
    refine bodyPost_ret (results_box1 rfl rfl HX.out.1 Tryz.underlying89 rfl (by kernel_rfl)) rfl ?_
    exact ⟨_, _, _, _, _, rfl, HX.out.2⟩
end
end Go.Proofs.YtaefeakmlgjonaaGreat
/- Splice. -/
namespace Go.Proofs.YtaefeakmlgjonaaGreat
open Go.ChangeShapes Go.WideShapes Go.ChangeAt Go.RowKit Go.Maps Go.MapKept
set_option linter.unusedVariables false
set_option linter.unusedSimpArgs false
set_option maxRecDepth 100000
section
variable {P : Nat → Prop} {B b M M' : Nat} {o o' : Tz.Own} {a : At} {s : BS} {w w1 : World} {N : Int} {ls ms : List ByteArray} {v : Value}
theorem Bf.upM (h : Bf B b o M a s w) (hM : M ≤ M') : Bf B b o M' a s w :=
  ⟨h.lb, h.box, (by obtain ⟨s', vn, vg, d, q1, q2, q3⟩ := h.tr; exact ⟨s', vn, vg, d, q1, q2, Nat.le_trans q3 hM⟩), h.ty, h.ol, h.mp, h.ml, h.kp, h.kl, h.ne, h.st, h.op, h.oc⟩
theorem spl_len {i n : Nat} (h : i + n ≤ ls.length) : (spl ls i n ms).length = ls.length - n + ms.length := by
  unfold spl; rw [List.length_append, List.length_append, List.length_take, List.length_drop]; omega
theorem spl_ln {i n : Nat} (h : Ln ls) (hm : Ln ms) (hin : i + n ≤ ls.length) (hl : ls.length - n + ms.length ≤ 2000) : Ln (spl ls i n ms) := by
  refine ⟨by rw [spl_len hin]; exact hl, fun x hx => ?_⟩
  unfold spl at hx
  rcases List.mem_append.1 hx with q | q
  · rcases List.mem_append.1 q with q | q
    · exact h.2 x (List.mem_of_mem_take q)
    · exact hm.2 x q
  · exact h.2 x (List.mem_of_mem_drop q)
theorem putL_len {L n : Nat} : (putL L n ms).length = if n = L ∧ ms.length = 0 then 1 else ms.length := by
  unfold putL one1
  by_cases h : n = L
  · by_cases h2 : ms.length = 0
    · rw [if_pos h, if_pos h2, if_pos ⟨h, h2⟩]; rfl
    · rw [if_pos h, if_neg h2, if_neg fun q => h2 q.2]
  · rw [if_neg h, if_neg fun q => h q.1]
theorem ln_of (hl : ms.length ≤ 2000) (hb : anyLong ms = false) : Ln ms := ⟨hl, fun x hx => by
  unfold anyLong at hb
  have := List.any_eq_false.1 hb x hx
  simpa using this⟩
/-- What Splice refuses. -/
def spE (L : Nat) (line n : Int) (ms : List ByteArray) : Int :=
  if line < 1 ∨ (L : Int) + 1 < line ∨ n < 0 ∨ (L : Int) - line + 1 < n then 140 else beyondE ((L : Int) - n + (ms.length : Int)) ms
/-- A text behind a splice. -/
def spS (s : BS) (i n : Nat) (ms : List ByteArray) : BS :=
  { s with ls := spl s.ls i n (putL s.ls.length n ms), mf := Mz.spF s.mf ((i : Int) + 1) n (putL s.ls.length n ms).length, op := s.op ++ [⟨i, (s.ls.drop i).take n, putL s.ls.length n ms⟩], cur := putC s.cur (spl s.ls i n (putL s.ls.length n ms)).length }
set_option maxHeartbeats 4000000 in
theorem tputL (h : Bf B b o M a s w) (hl : s.ls.length ≤ 4000) {n : Int} (hn : -9223372036854775808 ≤ n ∧ n ≤ 9223372036854775807) : Calls Tryz.prog 73 #[.pointer (some ⟨b, 0, none⟩), .int .i64 n] w fun e w' => e = .returned (.tuple #[]) ∧ Bf B b o M a { s with cur := putC n s.ls.length } w' ∧ FK B o o w w' := by
  have c0 := h.box.at (j := 0) rfl
  have HL : Hid _ := h.tr.len
  obtain ⟨L, hL⟩ : ∃ n, s.ls.length = n := ⟨_, rfl⟩
  have HB : Hid (∀ q, Bf B b o M a s (w.drewN q)) := fun q => h.kp_ (kp_drewN _ _)
  have c2 := fun q => (HB.out q).box.at (j := 2) rfl
  have f2 := fun q => (HB.out q).box.fz 2
  rw [hL] at HL hl ⊢
  obtain ⟨r, hr⟩ : ∃ r, putC n L = r := ⟨_, rfl⟩
  have e1 : min (max n 1) (L : Int) = r := hr
  have HR : Hid (∀ q, Bf B b o M a { s with cur := r } ((w.drewN q).setCell ⟨b, 2, none⟩ (.int .i64 r)) ∧ FK B o o w ((w.drewN q).setCell ⟨b, 2, none⟩ (.int .i64 r))) := fun q => by
    obtain ⟨q1, q2⟩ := (HB.out q).onb (fr_set b 2 (.int .i64 r) _) (c' := r) (k' := s.kcur) ((HB.out q).box.set 2 _)
    exact ⟨q1, (FK.kp (kp_drewN _ _) o).trans q2⟩
  rw [hr]
  clear h hL HB hr
  go_enter Tryz.func73, Tryz.ntmps73
  go_wp2_with fail
  refine Calls.mono HL.out ?_
  rintro e w' ⟨rfl, q, rfl⟩
  have c2' := c2 q
  have f2' := f2 q
  have HX : Hid _ := HR.out q
  clear HL HR c2 f2
  go_wp2_with fail
  go_end0
  exact ⟨rfl, HX.out⟩
set_option maxHeartbeats 4000000 in
theorem bputL (h : Bf B b o M a s w) (hl : s.ls.length ≤ 4000) {n : Int} (hn : -9223372036854775808 ≤ n ∧ n ≤ 9223372036854775807) : Calls Tryz.prog 31 #[.pointer (some ⟨b, 0, none⟩), .int .i64 n] w fun e w' => e = .returned (.tuple #[]) ∧ Bf B b o M a { s with cur := putC n s.ls.length } w' ∧ FK B o o w w' := by
  have HL : Hid _ := tputL h hl hn
  have c0 := h.box.at (j := 0) rfl
  clear h hl
  go_enter Tryz.func31, Tryz.ntmps31
  go_wp2_with fail
  refine Calls.mono HL.out ?_
  rintro e w' ⟨rfl, q⟩
  have HX : Hid _ := q
  clear HL q
  go_wp2_with fail
  go_end0
  exact ⟨rfl, HX.out⟩

set_option maxHeartbeats 16000000 in
theorem splice_out (h : Bf B b o M a s w) (hl : Ln s.ls) {line n : Int} (hn : -9223372036854775808 ≤ n ∧ n ≤ 9223372036854775807) (hli : -9223372036854775808 ≤ line ∧ line ≤ 9223372036854775807) (hx : line < 1 ∨ (s.ls.length : Int) + 1 < line ∨ n < 0 ∨ (s.ls.length : Int) - line + 1 < n) :
    Calls Tryz.prog 24 #[.pointer (some ⟨b, 0, none⟩), .int .i64 line, .int .i64 n, v] w fun e w' => e = .returned (.int .u16 140) ∧ ∃ q, w' = w.drewN q := by
  have HL : Hid _ := blen_any h
  have hl1 := hl.1
  obtain ⟨L, hL⟩ : ∃ L, s.ls.length = L := ⟨_, rfl⟩
  rw [hL] at HL hx hl1
  clear h hl hL
  by_cases c1 : line < 1
  · have d1 : decide (line < 1) = true := decide_eq_true c1
    clear hx
    go_enter Tryz.func24, Tryz.ntmps24
    go_wp2_with fail
    refine Calls.mono HL.out ?_
    rintro e w2 ⟨rfl, q, rfl⟩
    clear HL
    go_wp2_with fail
    go_ret
    exact ⟨rfl, _, rfl⟩
  have d1 : decide (line < 1) = false := decide_eq_false c1
  by_cases c2 : (L : Int) + 1 < line
  · have d2 : decide (line > (L : Int) + 1) = true := decide_eq_true c2
    have d3 : decide ((L : Int) + 1 < line) = true := decide_eq_true c2
    clear hx
    go_enter Tryz.func24, Tryz.ntmps24
    go_wp2_with fail
    refine Calls.mono HL.out ?_
    rintro e w2 ⟨rfl, q, rfl⟩
    clear HL
    go_wp2_with fail
    go_ret
    exact ⟨rfl, _, rfl⟩
  have d2 : decide (line > (L : Int) + 1) = false := decide_eq_false c2
  have d3 : decide ((L : Int) + 1 < line) = false := decide_eq_false c2
  by_cases c3 : n < 0
  · have d4 : decide (n < 0) = true := decide_eq_true c3
    clear hx
    go_enter Tryz.func24, Tryz.ntmps24
    go_wp2_with fail
    refine Calls.mono HL.out ?_
    rintro e w2 ⟨rfl, q, rfl⟩
    clear HL
    go_wp2_with fail
    go_ret
    exact ⟨rfl, _, rfl⟩
  have d4 : decide (n < 0) = false := decide_eq_false c3
  have c4 : (L : Int) - line + 1 < n := by omega
  have d5 : decide (n > (L : Int) - line + 1) = true := decide_eq_true c4
  have d6 : decide ((L : Int) - line + 1 < n) = true := decide_eq_true c4
  have c1I : 1 ≤ line := by omega
  have c2I : line ≤ (L : Int) + 1 := by omega
  clear hx c1 c2 c3
  go_enter Tryz.func24, Tryz.ntmps24
  go_wp2_with fail
  refine Calls.mono HL.out ?_
  rintro e w2 ⟨rfl, q, rfl⟩
  clear HL
  go_wp2_with fail
  go_ret
  exact ⟨rfl, _, rfl⟩

set_option maxHeartbeats 16000000 in
theorem splice_far (h : Bf B b o M a s w) (hl : Ln s.ls) {i n : Nat} (hin : i + n ≤ s.ls.length) (hv : Sl P v ms w) (hm6 : ms.length ≤ 8796093022208) {E : Int} (hE : beyondE ((s.ls.length : Int) - (n : Int) + (ms.length : Int)) ms = E) (hE0 : E ≠ 0) (hE1 : 0 ≤ E ∧ E < 65536) :
    Calls Tryz.prog 24 #[.pointer (some ⟨b, 0, none⟩), .int .i64 ((i : Int) + 1), .int .i64 n, v] w fun e w' => e = .returned (.int .u16 E) ∧ ∃ q, w' = w.drewN q := by
  have HL : Hid _ := blen_any h
  have hl1 := hl.1
  obtain ⟨va, vc, rfl, _⟩ := hv.form
  obtain ⟨k, hk⟩ : ∃ k, ms.length = k := ⟨_, rfl⟩
  obtain ⟨L, hL⟩ : ∃ L, s.ls.length = L := ⟨_, rfl⟩
  have HBy : Hid (∀ z, Kp w z → Calls Tryz.prog 41 #[.int .i64 ((L : Int) - (n : Int) + (k : Int)), .slice va k vc] z fun e w' => e = .returned (.int .u16 E) ∧ ∃ q, w' = z.drewN q) := fun z kz => by
    have := beyond_any (hv.kp kz) ((L : Int) - (n : Int) + (k : Int))
    rw [hk] at this; rw [hL, hk] at hE; rw [hE] at this; exact this
  rw [hL] at HL hl1 hin
  rw [hk] at hm6
  have d1 : decide ((i : Int) + 1 < 1) = false := decide_eq_false (by omega)
  have d2 : decide ((i : Int) + 1 > (L : Int) + 1) = false := decide_eq_false (by omega)
  have d3 : decide ((L : Int) + 1 < (i : Int) + 1) = false := decide_eq_false (by omega)
  have d4 : decide ((n : Int) < 0) = false := decide_eq_false (by omega)
  have d5 : decide ((n : Int) > (L : Int) - ((i : Int) + 1) + 1) = false := decide_eq_false (by omega)
  have d6 : decide ((L : Int) - ((i : Int) + 1) + 1 < (n : Int)) = false := decide_eq_false (by omega)
  have d7 : (E != 0) = true := by simpa using hE0
  have hiI : (i : Int) + (n : Int) ≤ (L : Int) := by omega
  rw [hk]
  clear h hl hL hv hk hE
  go_enter Tryz.func24, Tryz.ntmps24
  go_wp2_with fail
  refine Calls.mono HL.out ?_
  rintro e w2 ⟨rfl, q, rfl⟩
  clear HL
  go_wp2_with fail
  refine Calls.mono (HBy.out _ (by first | exact kp_drewN _ _ | exact Below.refl _ _)) ?_
  rintro e w3 ⟨rfl, q3, rfl⟩
  clear HBy
  go_wp2_with fail
  go_ret
  exact ⟨rfl, _, rfl⟩
set_option maxHeartbeats 16000000 in
theorem splice_idle (h : Bf B b o M a s w) (hl : Ln s.ls) {i n : Nat} (hin : i + n ≤ s.ls.length) (hv : Sl P v ms w) (hm6 : ms.length ≤ 8796093022208) (hE : beyondE ((s.ls.length : Int) - (n : Int) + (ms.length : Int)) ms = 0) (hz : n = 0 ∧ ms.length = 0) :
    Calls Tryz.prog 24 #[.pointer (some ⟨b, 0, none⟩), .int .i64 ((i : Int) + 1), .int .i64 n, v] w fun e w' => e = .returned (.int .u16 0) ∧ ∃ q, w' = w.drewN q := by
  have HL : Hid _ := blen_any h
  have hl1 := hl.1
  obtain ⟨va, vc, rfl, _⟩ := hv.form
  obtain ⟨k, hk⟩ : ∃ k, ms.length = k := ⟨_, rfl⟩
  obtain ⟨L, hL⟩ : ∃ L, s.ls.length = L := ⟨_, rfl⟩
  have HBy : Hid (∀ z, Kp w z → Calls Tryz.prog 41 #[.int .i64 ((L : Int) - (n : Int) + (k : Int)), .slice va k vc] z fun e w' => e = .returned (.int .u16 0) ∧ ∃ q, w' = z.drewN q) := fun z kz => by
    have := beyond_any (hv.kp kz) ((L : Int) - (n : Int) + (k : Int))
    rw [hk] at this; rw [hL, hk] at hE; rw [hE] at this; exact this
  rw [hL] at HL hl1 hin
  rw [hk] at hm6
  have d1 : decide ((i : Int) + 1 < 1) = false := decide_eq_false (by omega)
  have d2 : decide ((i : Int) + 1 > (L : Int) + 1) = false := decide_eq_false (by omega)
  have d3 : decide ((L : Int) + 1 < (i : Int) + 1) = false := decide_eq_false (by omega)
  have d4 : decide ((n : Int) < 0) = false := decide_eq_false (by omega)
  have d5 : decide ((n : Int) > (L : Int) - ((i : Int) + 1) + 1) = false := decide_eq_false (by omega)
  have d6 : decide ((L : Int) - ((i : Int) + 1) + 1 < (n : Int)) = false := decide_eq_false (by omega)
  have d7 : ((n : Int) == 0) = true := by rw [hz.1]; rfl
  have d8 : ((k : Int) == 0) = true := by rw [← hk, hz.2]; rfl
  have hiI : (i : Int) + (n : Int) ≤ (L : Int) := by omega
  rw [hk]
  clear h hl hL hv hk hE hz
  go_enter Tryz.func24, Tryz.ntmps24
  go_wp2_with fail
  refine Calls.mono HL.out ?_
  rintro e w2 ⟨rfl, q, rfl⟩
  clear HL
  go_wp2_with fail
  refine Calls.mono (HBy.out _ (by first | exact kp_drewN _ _ | exact Below.refl _ _)) ?_
  rintro e w3 ⟨rfl, q3, rfl⟩
  clear HBy
  go_wp2_with fail
  go_ret
  exact ⟨rfl, _, rfl⟩
end
end Go.Proofs.YtaefeakmlgjonaaGreat
/- A Splice that is done. -/
namespace Go.Proofs.YtaefeakmlgjonaaGreat
open Go.ChangeShapes Go.WideShapes Go.ChangeAt Go.RowKit Go.Maps Go.MapKept
set_option linter.unusedVariables false
set_option linter.unusedSimpArgs false
set_option maxRecDepth 100000
section
variable {P : Nat → Prop} {B b M M' : Nat} {o o' : Tz.Own} {a : At} {s : BS} {w w1 : World} {N : Int} {ls ms : List ByteArray} {v : Value}
theorem row_rq (h : Bf B b o M a s w) {D : Nat} (hD : w.heap.size ≤ D) (r : Row D v ls w1) : RQ (Fre o) v ls w1 := ⟨row_lift r fun _ _ => Nat.zero_le _, fun j hj => h.new (Nat.le_trans hD (r.lt j hj).1)⟩
set_option maxHeartbeats 64000000 in
theorem splice_done (h : Bf B b o M a s w) (f : Fine N s) (hN : N ≤ 1099511627776) (hM : M + 90000 < 280000000) {i n : Nat} (hin : i + n ≤ s.ls.length) (hv : Sl P v ms w) (hm6 : ms.length ≤ 8796093022208) (hE : beyondE ((s.ls.length : Int) - (n : Int) + (ms.length : Int)) ms = 0) (hz : ¬ (n = 0 ∧ ms.length = 0)) :
    Calls Tryz.prog 24 #[.pointer (some ⟨b, 0, none⟩), .int .i64 ((i : Int) + 1), .int .i64 n, v] w fun e w' => e = .returned (.int .u16 0) ∧ ∃ o' ov', Bf B b o' (M + 90000) { a with ov := ov' } (spS s i n ms) w' ∧ FK B o o' w w' := by
  have hl := f.ls.2
  have hops := f.op.1
  have hmd := f.md
  have hmb := f.mb
  have hcur := f.cur
  -- what the limit says
  have hLn : Ln ms ∧ s.ls.length - n + ms.length ≤ 2000 := by
    unfold beyondE at hE
    split at hE
    · cases hE
    · split at hE
      · cases hE
      · rename_i q1 q2
        exact ⟨ln_of (by omega) (by simpa using q2), by omega⟩
  have hKL : ∀ K, K = (putL s.ls.length n ms).length → K ≤ 2000 ∧ s.ls.length - n + K ≤ 2000 := fun K hK => by
    rw [hK, putL_len]
    have := hLn.2
    have := hLn.1.1
    have := hl.1
    split <;> omega
  have hPn := putL_ln hLn.1 s.ls.length n
  have HL : Hid _ := blen_any h
  have hl1 := hl.1
  obtain ⟨va, vc, rfl, _⟩ := hv.form
  obtain ⟨k, hk⟩ : ∃ k, ms.length = k := ⟨_, rfl⟩
  obtain ⟨L, hL⟩ : ∃ L, s.ls.length = L := ⟨_, rfl⟩
  have HBy : Hid (∀ z, Kp w z → Calls Tryz.prog 41 #[.int .i64 ((L : Int) - (n : Int) + (k : Int)), .slice va k vc] z fun e w' => e = .returned (.int .u16 0) ∧ ∃ q, w' = z.drewN q) := fun z kz => by
    have := beyond_any (hv.kp kz) ((L : Int) - (n : Int) + (k : Int))
    rw [hk] at this; rw [hL, hk] at hE; rw [hE] at this; exact this
  rw [hL] at HL hl1 hin
  rw [hk] at hm6
  have d1 : decide ((i : Int) + 1 < 1) = false := decide_eq_false (by omega)
  have d2 : decide ((i : Int) + 1 > (L : Int) + 1) = false := decide_eq_false (by omega)
  have d3 : decide ((L : Int) + 1 < (i : Int) + 1) = false := decide_eq_false (by omega)
  have d4 : decide ((n : Int) < 0) = false := decide_eq_false (by omega)
  have d5 : decide ((n : Int) > (L : Int) - ((i : Int) + 1) + 1) = false := decide_eq_false (by omega)
  have d6 : decide ((L : Int) - ((i : Int) + 1) + 1 < (n : Int)) = false := decide_eq_false (by omega)
  have hiI : (i : Int) + (n : Int) ≤ (L : Int) := by omega
  have HSp : Hid (∀ z, Kp w z → Calls Tryz.prog 55 #[.pointer (some ⟨b, 0, none⟩), .int .i64 ((i : Int) + 1), .int .i64 n, .slice va k vc] z fun e w' => ∃ oa oc na nc K, e = .returned (.agg #[.int .i64 i, .slice oa n oc, .slice na K nc]) ∧ K = (putL L n ms).length ∧ RQ (Fre o) (.slice oa n oc) ((s.ls.drop i).take n) w' ∧ RQ (Fre o) (.slice na K nc) (putL L n ms) w' ∧ Kp w w') := fun z kz => by
    have q := spliced_any (h.kp_ kz) hl (i := i) (n := n) (by rw [hL]; exact hin) (hv.kp kz) (by omega)
    rw [hk, hL] at q
    refine q.mono ?_
    rintro e w' ⟨oa, oc, na, nc, K, rfl, hK, r1, r2, k2⟩
    exact ⟨oa, oc, na, nc, K, rfl, hK, row_rq h kz.size r1, row_rq h kz.size r2, kp_trans kz k2⟩
  have HH : Hid (Bf B b o M a s w ∧ Ln s.ls ∧ s.op.length ≤ 64 ∧ (∀ x c, s.mf x = some c → 97 ≤ x ∧ x ≤ 122) ∧ Mz.Bd N s.mf ∧ Ln (putL L n ms) ∧ (∀ K, K = (putL L n ms).length → K ≤ 2000 ∧ L - n + K ≤ 2000) ∧ s.ls.length = L ∧ i + n ≤ L) := ⟨h, hl, hops, hmd, hmb, by rw [← hL]; exact hPn, fun K hK => by have := hKL K (by rw [hL]; exact hK); rw [hL] at this; exact this, hL, hin⟩
  obtain ⟨cu, hcu⟩ : ∃ c, s.cur = c := ⟨_, rfl⟩
  have HCU : Hid (s.cur = cu ∧ -9223372036854775808 ≤ cu ∧ cu ≤ 9223372036854775807) := ⟨hcu, by omega, by omega⟩
  rw [hk] at hz ⊢
  clear h f hl hv hk hE hLn hKL hPn hops hmd hmb hL hcur hcu
  by_cases hz1 : n = 0
  · have d7 : ((n : Int) == 0) = true := by rw [hz1]; rfl
    have d8 : ((k : Int) == 0) = false := beq_eq_false_iff_ne.2 (fun e => hz ⟨hz1, by omega⟩)
    clear hz hz1
    as_aux_lemma =>
      go_enter Tryz.func24, Tryz.ntmps24
      go_wp2_with fail
      refine Calls.mono HL.out ?_
      rintro e w2 ⟨rfl, q, rfl⟩
      clear HL
      go_wp2_with fail
      refine Calls.mono (HBy.out _ (by first | exact kp_drewN _ _ | exact Below.refl _ _)) ?_
      rintro e w3 ⟨rfl, q3, rfl⟩
      clear HBy
      go_wp2_with fail
      refine Calls.mono (HSp.out _ (kp_drewN _ _)) ?_
      rintro e w5 ⟨oa, oc, na, nc, K, rfl, hK, r1, r2, k5⟩
      obtain ⟨p, hp⟩ : ∃ p, w5.heap.size = p := ⟨_, rfl⟩
      obtain ⟨W6, hW6⟩ : ∃ z, w5.alloc (.cells #[.int .i64 i, .slice oa n oc, .slice na K nc] 89) = z := ⟨_, rfl⟩
      have k6 : Kp w5 W6 := by rw [← hW6]; exact kp_alloc _ _
      have b6 : Lc 89 p [.int .i64 i, .slice oa n oc, .slice na K nc] W6 := by rw [← hW6, ← hp]; exact Lc.new w5 [.int .i64 i, .slice oa n oc, .slice na K nc] 89
      have hKK := HH.out.2.2.2.2.2.2.1 K hK
      have hnL := HH.out.2.2.2.2.2.2.2.2
      have h6 := HH.out.1.kp_ (kp_trans k5 k6)
      have HCh : Hid _ := change_any h6 HH.out.2.1 (i := i) (n := n) (K := K) (oc := oc) (nc := nc) ⟨row_kp r1.1 k6, r1.2⟩ ⟨row_kp r2.1 k6, r2.2⟩ hK HH.out.2.2.2.2.2.1 (by rw [HH.out.2.2.2.2.2.2.2.1]; exact hnL) (by omega) (by have := HH.out.2.2.1; omega)
      have z0 := b6.at (j := 0) rfl
      have z1 := b6.at (j := 1) rfl
      have z2 := b6.at (j := 2) rfl
      have H6 : Hid (Kp w W6 ∧ Lc 89 p [.int .i64 i, .slice oa n oc, .slice na K nc] W6 ∧ o p = .free ∧ p ≠ b ∧ some p ≠ a.ov.ownBlock ∧ K = (putL L n ms).length ∧ K ≤ 2000 ∧ L - n + K ≤ 2000) := by
        have hb5 := (HH.out.1.kp_ k5).box.lt
        refine ⟨kp_trans k5 k6, b6, (HH.out.1.kp_ k5).new (by omega), by omega, fun e => ?_, hK, hKK.1, hKK.2⟩
        obtain ⟨cs, q1, _⟩ := (HH.out.1.kp_ k5).op
        have := (q1.lt p e.symm).2; omega
      clear HSp r1 r2 k5 k6 b6 hKK hnL h6 hK
      go_wp2_with fail
      refine Calls.mono HCh.out ?_
      rintro e w7 ⟨rfl, o', ov', h7, f7, g7⟩
      obtain ⟨tt, htt⟩ : ∃ t, a.t = t := ⟨_, rfl⟩
      have HSD : Hid (Sd p b i (.slice oa n oc) (.slice na K nc) (.pointer (some ⟨tt, 0, none⟩)) w7) := by
        have hpb := g7 p H6.out.2.1.lt H6.out.2.2.1 H6.out.2.2.2.1 H6.out.2.2.2.2.1
        have b7 : Lc 89 p [.int .i64 i, .slice oa n oc, .slice na K nc] w7 := H6.out.2.1.heap hpb
        exact ⟨b7.at (j := 0) rfl, b7.at (j := 1) rfl, b7.at (j := 2) rfl, by rw [← htt]; exact h7.box.at (j := 0) rfl⟩
      have s0 : ∀ y, Sd p b i (.slice oa n oc) (.slice na K nc) (.pointer (some ⟨tt, 0, none⟩)) y → y.cell? ⟨p, 0, none⟩ = some (.int .i64 i) := fun _ h => h.1
      have s1 : ∀ y, Sd p b i (.slice oa n oc) (.slice na K nc) (.pointer (some ⟨tt, 0, none⟩)) y → y.cell? ⟨p, 1, none⟩ = some (.slice oa n oc) := fun _ h => h.2.1
      have s2 : ∀ y, Sd p b i (.slice oa n oc) (.slice na K nc) (.pointer (some ⟨tt, 0, none⟩)) y → y.cell? ⟨p, 2, none⟩ = some (.slice na K nc) := fun _ h => h.2.2.1
      have HFo : Hid (Calls Tryz.prog 56 #[.pointer (some ⟨b, 0, none⟩), .agg #[.int .i64 i, .slice oa n oc, .slice na K nc]] w7.drew fun e w' => e = .returned (.tuple #[]) ∧ (Bf B b o' (M + 90000) { a with ov := ov' } { s with ls := spl s.ls i n (putL L n ms), mf := Mz.spF s.mf ((i : Int) + 1) n K, op := s.op ++ [⟨(i : Int), (s.ls.drop i).take n, putL L n ms⟩] } w' ∧ FK B o o' w w') ∧ (Sd p b i (.slice oa n oc) (.slice na K nc) (.pointer (some ⟨tt, 0, none⟩)) w7 → Sd p b i (.slice oa n oc) (.slice na K nc) (.pointer (some ⟨tt, 0, none⟩)) w')) := by
        have kz := kp_drew w7
        have hnL := HH.out.2.2.2.2.2.2.2.2
        have hLL := HH.out.2.1.1
        have hLe := HH.out.2.2.2.2.2.2.2.1
        have h8 := (h7.kp_ kz).upM (M' := M + 90000) (by have := H6.out.2.2.2.2.2.2.1; omega)
        refine (follow_any h8 HH.out.2.2.2.1 HH.out.2.2.2.2.1 hN (i := (i : Int)) ⟨by omega, by omega⟩ (n := n) (k := K) (oa := oa) (na := na) (oc := oc) (nc := nc)).mono ?_
        rintro e w' ⟨rfl, q1, q2, q3⟩
        refine ⟨rfl, ⟨q1, (FK.kp H6.out.1 o).trans (f7.trans ((FK.kp kz o').trans q2))⟩, fun hs => hs.eq ?_ (by rw [← htt]; exact q1.box.at (j := 0) rfl)⟩
        have hpl : p < w7.heap.size := Nat.lt_of_lt_of_le H6.out.2.1.lt f7.size
        have hpm : p ≠ a.mb := fun e => by
          obtain ⟨es, c, q, _⟩ := h7.mp
          have hh := H6.out.2.1.heap (g7 p H6.out.2.1.lt H6.out.2.2.1 H6.out.2.2.2.1 H6.out.2.2.2.2.1)
          unfold Lc at hh
          have q' : w7.heap[a.mb]? = some (.map es c) := q
          rw [← e, hh] at q'; cases q'
        rw [q3 p (Nat.lt_of_lt_of_le hpl kz.size) hpm]
        exact kz.block p hpl
      clear HCh h7 f7 g7 z0 z1 z2 htt
      go_wp2_with fail
      refine wp_region_noPanic ?_
      refine wp_region_held_drew (S := Sd p b i (.slice oa n oc) (.slice na K nc) (.pointer (some ⟨tt, 0, none⟩))) (by kernel_rfl) (HSD.out) (fun hHeld => ?_)
      refine takeAt 0 (some 62) ?_ rfl rfl (by kernel_rfl) (by kernel_rfl) (by kernel_rfl) (fun _ _ _ h => h) (Or.inl ⟨by rfl, ?_⟩) hHeld ?_
      rotate_left
      · intro w hSw
        go_simp <;> with_reducible rfl
      try simp only [Act.put, List.setIfInBounds_toArray, List.set_cons_zero, List.set_cons_succ]
      refine takeAt 1 (some 63) ?_ rfl rfl (by kernel_rfl) (by kernel_rfl) (by kernel_rfl) (fun _ _ _ h => h) (Or.inl ⟨by rfl, ?_⟩) hHeld ?_
      rotate_left
      · intro w hSw
        go_simp <;> with_reducible rfl
      try simp only [Act.put, List.setIfInBounds_toArray, List.set_cons_zero, List.set_cons_succ]
      refine takeAt 2 (some 64) ?_ rfl rfl (by kernel_rfl) (by kernel_rfl) (by kernel_rfl) (fun _ _ _ h => h) (Or.inl ⟨by rfl, ?_⟩) hHeld ?_
      rotate_left
      · intro w hSw
        go_simp <;> with_reducible rfl
      try simp only [Act.put, List.setIfInBounds_toArray, List.set_cons_zero, List.set_cons_succ]
      refine takeAt 3 (some 65) ?_ rfl rfl (by kernel_rfl) (by kernel_rfl) (by kernel_rfl) (fun _ _ _ h => h) (Or.inl ⟨by rfl, ?_⟩) hHeld ?_
      rotate_left
      · intro w hSw
        go_simp <;> with_reducible rfl
      try simp only [Act.put, List.setIfInBounds_toArray, List.set_cons_zero, List.set_cons_succ]
      refine callAt 4 66 56 (vals := #[.pointer (some ⟨b, 0, none⟩), .agg #[.int .i64 i, .slice oa n oc, .slice na K nc]]) (by kernel_rfl) rfl rfl rfl rfl (by simp [Act.eval]) Tryz.func56 (by kernel_rfl) (by kernel_rfl) ?_
      refine Calls.mono (HFo.out) ?_
      rintro e w8 ⟨rfl, q, q3⟩
      have HX : Hid _ := q
      have hs5 : Sd p b i (.slice oa n oc) (.slice na K nc) (.pointer (some ⟨tt, 0, none⟩)) w8 := q3 HSD.out
      clear q q3
      refine ⟨_, rfl, hs5, fun hHeld => ?_⟩
      try simp only [Act.put, List.setIfInBounds_toArray, List.set_cons_zero, List.set_cons_succ]
      refine wpAnyH_done (by kernel_rfl) ?_ _
      refine NoPanic.normal ?_
      have HC : Hid _ := bcursor_any HX.out.1
      have hll : (spl s.ls i n (putL L n ms)).length ≤ 4000 := by
        have := HH.out.2.2.2.2.2.2.2.1; have := HH.out.2.2.2.2.2.2.2.2; have := H6.out.2.2.2.2.2.2.2; have := H6.out.2.2.2.2.2.1
        rw [spl_len (by omega)]; omega
      have HP : Hid _ := bputL HX.out.1 hll (n := s.cur) (by rw [HCU.out.1]; exact HCU.out.2)
      have e3 : ({ s with ls := spl s.ls i n (putL L n ms), mf := Mz.spF s.mf ((i : Int) + 1) n K, op := s.op ++ [⟨(i : Int), (s.ls.drop i).take n, putL L n ms⟩] } : BS).cur = cu := HCU.out.1
      rw [e3] at HC
      rw [HCU.out.1] at HP
      clear HFo HSD s0 s1 s2 hs5 hll e3
      go_wp2_with fail
      refine Calls.mono HC.out ?_
      rintro e w9 ⟨rfl, rfl⟩
      clear HC
      go_wp2_with fail
      refine Calls.mono HP.out ?_
      rintro e w10 ⟨rfl, h10, f10⟩
      have HZ : Hid (∃ o' ov', Bf B b o' (M + 90000) { a with ov := ov' } (spS s i n ms) w10 ∧ FK B o o' w w10) := by
        refine ⟨o', ov', ?_, HX.out.2.trans f10⟩
        unfold spS
        rw [HH.out.2.2.2.2.2.2.2.1, ← H6.out.2.2.2.2.2.1, HCU.out.1]
        exact h10
      clear HP HX h10 f10 H6 HH
      go_wp2_with fail
      go_ret
      exact ⟨rfl, HZ.out⟩
  · have d7 : ((n : Int) == 0) = false := beq_eq_false_iff_ne.2 (by omega)
    clear hz hz1
    as_aux_lemma =>
      go_enter Tryz.func24, Tryz.ntmps24
      go_wp2_with fail
      refine Calls.mono HL.out ?_
      rintro e w2 ⟨rfl, q, rfl⟩
      clear HL
      go_wp2_with fail
      refine Calls.mono (HBy.out _ (by first | exact kp_drewN _ _ | exact Below.refl _ _)) ?_
      rintro e w3 ⟨rfl, q3, rfl⟩
      clear HBy
      go_wp2_with fail
      refine Calls.mono (HSp.out _ (kp_drewN _ _)) ?_
      rintro e w5 ⟨oa, oc, na, nc, K, rfl, hK, r1, r2, k5⟩
      obtain ⟨p, hp⟩ : ∃ p, w5.heap.size = p := ⟨_, rfl⟩
      obtain ⟨W6, hW6⟩ : ∃ z, w5.alloc (.cells #[.int .i64 i, .slice oa n oc, .slice na K nc] 89) = z := ⟨_, rfl⟩
      have k6 : Kp w5 W6 := by rw [← hW6]; exact kp_alloc _ _
      have b6 : Lc 89 p [.int .i64 i, .slice oa n oc, .slice na K nc] W6 := by rw [← hW6, ← hp]; exact Lc.new w5 [.int .i64 i, .slice oa n oc, .slice na K nc] 89
      have hKK := HH.out.2.2.2.2.2.2.1 K hK
      have hnL := HH.out.2.2.2.2.2.2.2.2
      have h6 := HH.out.1.kp_ (kp_trans k5 k6)
      have HCh : Hid _ := change_any h6 HH.out.2.1 (i := i) (n := n) (K := K) (oc := oc) (nc := nc) ⟨row_kp r1.1 k6, r1.2⟩ ⟨row_kp r2.1 k6, r2.2⟩ hK HH.out.2.2.2.2.2.1 (by rw [HH.out.2.2.2.2.2.2.2.1]; exact hnL) (by omega) (by have := HH.out.2.2.1; omega)
      have z0 := b6.at (j := 0) rfl
      have z1 := b6.at (j := 1) rfl
      have z2 := b6.at (j := 2) rfl
      have H6 : Hid (Kp w W6 ∧ Lc 89 p [.int .i64 i, .slice oa n oc, .slice na K nc] W6 ∧ o p = .free ∧ p ≠ b ∧ some p ≠ a.ov.ownBlock ∧ K = (putL L n ms).length ∧ K ≤ 2000 ∧ L - n + K ≤ 2000) := by
        have hb5 := (HH.out.1.kp_ k5).box.lt
        refine ⟨kp_trans k5 k6, b6, (HH.out.1.kp_ k5).new (by omega), by omega, fun e => ?_, hK, hKK.1, hKK.2⟩
        obtain ⟨cs, q1, _⟩ := (HH.out.1.kp_ k5).op
        have := (q1.lt p e.symm).2; omega
      clear HSp r1 r2 k5 k6 b6 hKK hnL h6 hK
      go_wp2_with fail
      refine Calls.mono HCh.out ?_
      rintro e w7 ⟨rfl, o', ov', h7, f7, g7⟩
      obtain ⟨tt, htt⟩ : ∃ t, a.t = t := ⟨_, rfl⟩
      have HSD : Hid (Sd p b i (.slice oa n oc) (.slice na K nc) (.pointer (some ⟨tt, 0, none⟩)) w7) := by
        have hpb := g7 p H6.out.2.1.lt H6.out.2.2.1 H6.out.2.2.2.1 H6.out.2.2.2.2.1
        have b7 : Lc 89 p [.int .i64 i, .slice oa n oc, .slice na K nc] w7 := H6.out.2.1.heap hpb
        exact ⟨b7.at (j := 0) rfl, b7.at (j := 1) rfl, b7.at (j := 2) rfl, by rw [← htt]; exact h7.box.at (j := 0) rfl⟩
      have s0 : ∀ y, Sd p b i (.slice oa n oc) (.slice na K nc) (.pointer (some ⟨tt, 0, none⟩)) y → y.cell? ⟨p, 0, none⟩ = some (.int .i64 i) := fun _ h => h.1
      have s1 : ∀ y, Sd p b i (.slice oa n oc) (.slice na K nc) (.pointer (some ⟨tt, 0, none⟩)) y → y.cell? ⟨p, 1, none⟩ = some (.slice oa n oc) := fun _ h => h.2.1
      have s2 : ∀ y, Sd p b i (.slice oa n oc) (.slice na K nc) (.pointer (some ⟨tt, 0, none⟩)) y → y.cell? ⟨p, 2, none⟩ = some (.slice na K nc) := fun _ h => h.2.2.1
      have HFo : Hid (Calls Tryz.prog 56 #[.pointer (some ⟨b, 0, none⟩), .agg #[.int .i64 i, .slice oa n oc, .slice na K nc]] w7.drew fun e w' => e = .returned (.tuple #[]) ∧ (Bf B b o' (M + 90000) { a with ov := ov' } { s with ls := spl s.ls i n (putL L n ms), mf := Mz.spF s.mf ((i : Int) + 1) n K, op := s.op ++ [⟨(i : Int), (s.ls.drop i).take n, putL L n ms⟩] } w' ∧ FK B o o' w w') ∧ (Sd p b i (.slice oa n oc) (.slice na K nc) (.pointer (some ⟨tt, 0, none⟩)) w7 → Sd p b i (.slice oa n oc) (.slice na K nc) (.pointer (some ⟨tt, 0, none⟩)) w')) := by
        have kz := kp_drew w7
        have hnL := HH.out.2.2.2.2.2.2.2.2
        have hLL := HH.out.2.1.1
        have hLe := HH.out.2.2.2.2.2.2.2.1
        have h8 := (h7.kp_ kz).upM (M' := M + 90000) (by have := H6.out.2.2.2.2.2.2.1; omega)
        refine (follow_any h8 HH.out.2.2.2.1 HH.out.2.2.2.2.1 hN (i := (i : Int)) ⟨by omega, by omega⟩ (n := n) (k := K) (oa := oa) (na := na) (oc := oc) (nc := nc)).mono ?_
        rintro e w' ⟨rfl, q1, q2, q3⟩
        refine ⟨rfl, ⟨q1, (FK.kp H6.out.1 o).trans (f7.trans ((FK.kp kz o').trans q2))⟩, fun hs => hs.eq ?_ (by rw [← htt]; exact q1.box.at (j := 0) rfl)⟩
        have hpl : p < w7.heap.size := Nat.lt_of_lt_of_le H6.out.2.1.lt f7.size
        have hpm : p ≠ a.mb := fun e => by
          obtain ⟨es, c, q, _⟩ := h7.mp
          have hh := H6.out.2.1.heap (g7 p H6.out.2.1.lt H6.out.2.2.1 H6.out.2.2.2.1 H6.out.2.2.2.2.1)
          unfold Lc at hh
          have q' : w7.heap[a.mb]? = some (.map es c) := q
          rw [← e, hh] at q'; cases q'
        rw [q3 p (Nat.lt_of_lt_of_le hpl kz.size) hpm]
        exact kz.block p hpl
      clear HCh h7 f7 g7 z0 z1 z2 htt
      go_wp2_with fail
      refine wp_region_noPanic ?_
      refine wp_region_held_drew (S := Sd p b i (.slice oa n oc) (.slice na K nc) (.pointer (some ⟨tt, 0, none⟩))) (by kernel_rfl) (HSD.out) (fun hHeld => ?_)
      refine takeAt 0 (some 62) ?_ rfl rfl (by kernel_rfl) (by kernel_rfl) (by kernel_rfl) (fun _ _ _ h => h) (Or.inl ⟨by rfl, ?_⟩) hHeld ?_
      rotate_left
      · intro w hSw
        go_simp <;> with_reducible rfl
      try simp only [Act.put, List.setIfInBounds_toArray, List.set_cons_zero, List.set_cons_succ]
      refine takeAt 1 (some 63) ?_ rfl rfl (by kernel_rfl) (by kernel_rfl) (by kernel_rfl) (fun _ _ _ h => h) (Or.inl ⟨by rfl, ?_⟩) hHeld ?_
      rotate_left
      · intro w hSw
        go_simp <;> with_reducible rfl
      try simp only [Act.put, List.setIfInBounds_toArray, List.set_cons_zero, List.set_cons_succ]
      refine takeAt 2 (some 64) ?_ rfl rfl (by kernel_rfl) (by kernel_rfl) (by kernel_rfl) (fun _ _ _ h => h) (Or.inl ⟨by rfl, ?_⟩) hHeld ?_
      rotate_left
      · intro w hSw
        go_simp <;> with_reducible rfl
      try simp only [Act.put, List.setIfInBounds_toArray, List.set_cons_zero, List.set_cons_succ]
      refine takeAt 3 (some 65) ?_ rfl rfl (by kernel_rfl) (by kernel_rfl) (by kernel_rfl) (fun _ _ _ h => h) (Or.inl ⟨by rfl, ?_⟩) hHeld ?_
      rotate_left
      · intro w hSw
        go_simp <;> with_reducible rfl
      try simp only [Act.put, List.setIfInBounds_toArray, List.set_cons_zero, List.set_cons_succ]
      refine callAt 4 66 56 (vals := #[.pointer (some ⟨b, 0, none⟩), .agg #[.int .i64 i, .slice oa n oc, .slice na K nc]]) (by kernel_rfl) rfl rfl rfl rfl (by simp [Act.eval]) Tryz.func56 (by kernel_rfl) (by kernel_rfl) ?_
      refine Calls.mono (HFo.out) ?_
      rintro e w8 ⟨rfl, q, q3⟩
      have HX : Hid _ := q
      have hs5 : Sd p b i (.slice oa n oc) (.slice na K nc) (.pointer (some ⟨tt, 0, none⟩)) w8 := q3 HSD.out
      clear q q3
      refine ⟨_, rfl, hs5, fun hHeld => ?_⟩
      try simp only [Act.put, List.setIfInBounds_toArray, List.set_cons_zero, List.set_cons_succ]
      refine wpAnyH_done (by kernel_rfl) ?_ _
      refine NoPanic.normal ?_
      have HC : Hid _ := bcursor_any HX.out.1
      have hll : (spl s.ls i n (putL L n ms)).length ≤ 4000 := by
        have := HH.out.2.2.2.2.2.2.2.1; have := HH.out.2.2.2.2.2.2.2.2; have := H6.out.2.2.2.2.2.2.2; have := H6.out.2.2.2.2.2.1
        rw [spl_len (by omega)]; omega
      have HP : Hid _ := bputL HX.out.1 hll (n := s.cur) (by rw [HCU.out.1]; exact HCU.out.2)
      have e3 : ({ s with ls := spl s.ls i n (putL L n ms), mf := Mz.spF s.mf ((i : Int) + 1) n K, op := s.op ++ [⟨(i : Int), (s.ls.drop i).take n, putL L n ms⟩] } : BS).cur = cu := HCU.out.1
      rw [e3] at HC
      rw [HCU.out.1] at HP
      clear HFo HSD s0 s1 s2 hs5 hll e3
      go_wp2_with fail
      refine Calls.mono HC.out ?_
      rintro e w9 ⟨rfl, rfl⟩
      clear HC
      go_wp2_with fail
      refine Calls.mono HP.out ?_
      rintro e w10 ⟨rfl, h10, f10⟩
      have HZ : Hid (∃ o' ov', Bf B b o' (M + 90000) { a with ov := ov' } (spS s i n ms) w10 ∧ FK B o o' w w10) := by
        refine ⟨o', ov', ?_, HX.out.2.trans f10⟩
        unfold spS
        rw [HH.out.2.2.2.2.2.2.2.1, ← H6.out.2.2.2.2.2.1, HCU.out.1]
        exact h10
      clear HP HX h10 f10 H6 HH
      go_wp2_with fail
      go_ret
      exact ⟨rfl, HZ.out⟩
end
end Go.Proofs.YtaefeakmlgjonaaGreat
/- travel, Undo, Redo. -/
namespace Go.Proofs.YtaefeakmlgjonaaGreat
open Go.ChangeShapes Go.WideShapes Go.ChangeAt Go.RowKit Go.Maps Go.MapKept
set_option linter.unusedVariables false
set_option linter.unusedSimpArgs false
set_option maxRecDepth 100000
section
variable {B b M D c : Nat} {o o' : Tz.Own} {a : At} {s : BS} {w w1 : World} {N : Int} {v : Value} {ds : List Dl} {E : Int → Prop} {G : Tr → List Dl → Prop}
/-- Changes that are told stay while the tree of lines is turned. -/
theorem Dx.tree (h : Bf B b o M a s w) (x : Dx (RQ (Fre o)) D v ds w) (k : Tz.Keeps o o' w w1) : Dx (RQ (Fre o')) D v ds w1 := by
  have f : Fr (fun j => o j ≠ .free) w w1 := ⟨k.os, k.tape, k.output, k.size, fun j hj hn => k.block j hj (by rcases Classical.em (o j = .free) with q | q; exact q; exact absurd q hn)⟩
  have x1 : Dx (RQ fun j => o j = .free ∧ j < w.heap.size) D v ds w := x.monoQ fun j hj q => ⟨q, hj⟩
  exact (x1.frO f (fun j cur fr hj e => e (h.fre hj (.inr (.inr (.inr rfl))))) (fun j cur fr hj q e => e q.1)).monoQ fun j hj q => k.own j q.2 q.1
theorem Dx.map (h : Bf B b o M a s w) (x : Dx (RQ (Fre o)) D v ds w) (hz : w.heap.size ≤ w1.heap.size) (k : ∀ j, j < w.heap.size → j ≠ a.mb → w1.heap[j]? = w.heap[j]?) (ho : w1.os = w.os ∧ w1.tape = w.tape ∧ w1.output = w.output) : Dx (RQ (Fre o)) D v ds w1 := by
  have f : Fr (fun j => j = a.mb) w w1 := ⟨ho.1, ho.2.1, ho.2.2, hz, fun j hj hn => k j hj hn⟩
  obtain ⟨es, c, hq, _⟩ := h.mp
  exact x.frO f (fun j cur fr hj e => by rw [e] at hj; have hq' : w.heap[a.mb]? = some (.map es c) := hq; rw [hq'] at hj; cases hj) (fun j cur fr hj _ e => by rw [e] at hj; have hq' : w.heap[a.mb]? = some (.map es c) := hq; rw [hq'] at hj; cases hj)
/-- A text while changes are laid. -/
def LpV (B b : Nat) (o0 : Tz.Own) (M : Nat) (a : At) (s : BS) (v : Value) (ds : List Dl) (w0 : World) (k : Nat) (wr : World) : Prop :=
  ∃ o' lk, Bf B b o' (M + 90000 * k) a { s with ls := lk, mf := mfT s.mf (ds.take k) } wr ∧ FK B o0 o' w0 wr ∧ Dx (RQ (Fre o')) 0 v ds wr ∧ apps s.ls (ds.take k) = some lk ∧ lk.length ≤ 2000 + 2000 * k ∧ (∀ x ∈ lk, x.size ≤ 1000) ∧ Mz.Bd (lk.length : Int) (mfT s.mf (ds.take k)) ∧ ∀ x c, mfT s.mf (ds.take k) x = some c → 97 ≤ x ∧ x ≤ 122
/-- Where the cursor is behind a way. -/
def curT (s : BS) (ds : List Dl) (L : Nat) : Int := match ds.getLast? with
  | none => s.cur
  | some d => putC (d.at_ + 1) L
/-- A text behind a way. -/
def wyS (s : BS) (m' : Tr) (ds : List Dl) : BS := { s with ls := s.T m'.now, mf := mfT s.mf ds, cur := curT s ds (s.T m'.now).length, m := m', kf := mfT s.mf ds, kcur := curT s ds (s.T m'.now).length }
set_option maxHeartbeats 16000000 in
theorem keepL (h : Bf B b o M a s w) (hmd : ∀ x c, s.mf x = some c → 97 ≤ x ∧ x ≤ 122) : Calls Tryz.prog 44 #[.pointer (some ⟨b, 0, none⟩)] w fun e w' => e = .returned (.tuple #[]) ∧ ∃ kb', Bf B b o M { a with kb := kb' } { s with kf := s.mf, kcur := s.cur } w' ∧ FK B o o w w' := by
  have HC : Hid _ := copied_any h.mp hmd s.cur
  have c1 := h.box.at (j := 1) rfl
  have c2 := h.box.at (j := 2) rfl
  have HB : Hid (Bf B b o M a s w ∧ ∀ kb' : Nat, w.heap.size ≤ kb' → a.mb ≠ kb' ∧ B ≤ kb') := ⟨h, fun kb' hk => ⟨fun e => by have := (Array.getElem?_eq_some_iff.1 (Classical.choose_spec (Classical.choose_spec h.mp)).1).1; omega, by have := h.lb; have := h.box.lt; omega⟩⟩
  obtain ⟨cu, hcu⟩ : ∃ c, s.cur = c := ⟨_, rfl⟩
  obtain ⟨mb, hmb⟩ : ∃ c, a.mb = c := ⟨_, rfl⟩
  rw [hcu] at HC c2
  rw [hmb] at HC c1
  have HCU : Hid (s.cur = cu ∧ a.mb = mb) := ⟨hcu, hmb⟩
  clear h hmd hcu hmb
  go_enter Tryz.func44, Tryz.ntmps44
  go_wp2_with fail
  refine Calls.mono HC.out ?_
  rintro e w5 ⟨b', rfl, m5, k5, q5⟩
  have h5 := HB.out.1.kp_ k5
  have d5 := h5.box.at (j := 5) rfl
  have d6 := h5.box.at (j := 6) rfl
  have e5 := h5.box.fz 5
  have e6 := h5.box.fz 6
  have HQ : Hid (∃ kb', Bf B b o M { a with kb := kb' } { s with kf := s.mf, kcur := s.cur } ((w5.setCell ⟨b, 5, none⟩ (.map (some b'))).setCell ⟨b, 6, none⟩ (.int .i64 cu)) ∧ FK B o o w ((w5.setCell ⟨b, 5, none⟩ (.map (some b'))).setCell ⟨b, 6, none⟩ (.int .i64 cu))) := by
    obtain ⟨q1, q2⟩ := h5.onbx ((fr_set b 5 (.map (some b')) w5).trans (fr_set b 6 (.int .i64 cu) _)) (c' := s.cur) (k' := s.cur) (kb' := b') (kf' := s.mf) (ov' := a.ov) (op' := s.op) (by rw [HCU.out.1]; have := (h5.box.set 5 (.map (some b'))).set 6 (.int .i64 cu); rw [HCU.out.1] at this; exact this) m5 (HB.out.2 b' q5).2 (HB.out.2 b' q5).1 h5.op
    exact ⟨b', q1, (FK.kp k5 o).trans q2⟩
  clear h5 m5 k5 q5 HC HB HCU
  go_wp2_with fail
  go_end0
  exact ⟨rfl, HQ.out⟩
set_option maxHeartbeats 64000000 in
theorem travel_Undo (h : Bf B b o M a s w) (f : Fine (s.ls.length : Int) s) (hop : s.op = []) (hc : c ≤ 1000) (hM : M + 90000 * (c + 1) < 280000000) (HG : ∀ m' ds, G m' ds → look s.m.L m'.now ≠ none)
    (HLd : ∀ z, Kp w z → Calls Tryz.prog 51 #[.pointer (some ⟨a.u, 0, none⟩)] z fun e w1 => ∃ v err, e = .returned (.tuple #[v, .int .u16 err]) ∧ Led2 (Fre o) B a.C a.u s.m s.T E G c z v err w1) :
    Calls Tryz.prog 50 #[.pointer (some ⟨b, 0, none⟩), .func (.func 51) #[.pointer (some ⟨a.u, 0, none⟩)] #[]] w fun e w' => ∃ err, e = .returned (.int .u16 err) ∧ ((err ≠ 0 ∧ E err ∧ Bf B b o M a s w' ∧ FK B o o w w') ∨
      (err = 0 ∧ ∃ o' kb' m' ds, G m' ds ∧ apps s.ls ds = some (s.T m'.now) ∧ Bf B b o' (M + 90000 * c) { a with kb := kb' } (wyS s m' ds) w' ∧ FK B o o' w w')) := by
  have hap : s.T s.m.now = s.ls := by have := f.ap; rw [hop] at this; exact Option.some.inj this
  obtain ⟨va, vc, hov, _, _⟩ := Dx.form h.op
  rw [hop] at hov
  have c4 := h.box.at (j := 4) rfl
  rw [hov] at c4
  obtain ⟨u, hu⟩ : ∃ u, a.u = u := ⟨_, rfl⟩
  have HLE : Hid (∀ z, Kp w z → Calls Tryz.prog 51 #[.pointer (some ⟨u, 0, none⟩)] z fun e w1 => ∃ v err, e = .returned (.tuple #[v, .int .u16 err]) ∧ Led2 (Fre o) B a.C a.u s.m s.T E G c z v err w1) := by rw [← hu]; exact HLd
  have HH : Hid (Bf B b o M a s w ∧ Fine (s.ls.length : Int) s ∧ s.op = [] ∧ s.T s.m.now = s.ls ∧ (∀ m' ds, G m' ds → look s.m.L m'.now ≠ none)) := ⟨h, f, hop, hap, HG⟩
  have HU : Hid (a.u = u) := hu
  rw [hu]
  clear h f hop hov HLd hu HG hap
  go_enter Tryz.func50, Tryz.ntmps50
  go_wp2_with fail
  refine Calls.mono (HLE.out _ (by first | exact Below.refl _ _ | exact kp_drewN _ _)) ?_
  rintro e w5 ⟨v, err, rfl, hff, hor⟩
  rcases hor with ⟨hne, he0, he1, rfl, hE, hst⟩ | ⟨rfl, ds, m', hdw, hst, hapd, hsm, hdl, hG⟩
  · have b1 : (err != 0) = true := by simpa using hne
    have HX : Hid (err ≠ 0 ∧ E err ∧ Bf B b o M a s w5 ∧ FK B o o w w5) := by
      obtain ⟨q1, q2⟩ := HH.out.1.went hff hst
      exact ⟨hne, hE, q1, q2⟩
    clear HLE HH hff hst hne hE c4
    go_wp2_with fail
    go_ret
    exact ⟨_, rfl, .inl HX.out⟩
  · obtain ⟨da, dc, rfl, hd1, hd2⟩ := Dx.form hdw
    obtain ⟨n, hn⟩ : ∃ n, ds.length = n := ⟨_, rfl⟩
    rw [hn] at hdl hd1
    unfold maxLen at hd2
    have H5 : Hid (Bf B b o M a { s with m := m', T := s.T } w5 ∧ FK B o o w w5 ∧ apps s.ls ds = some (s.T m'.now) ∧ (∀ d ∈ ds, Smd d) ∧ ds.length = n ∧ G m' ds ∧ TxtOk (s.T m'.now)) := by
      obtain ⟨q1, q2⟩ := HH.out.1.went hff hst
      rw [HH.out.2.2.2.1] at hapd
      exact ⟨q1, q2, hapd, hsm, hn, hG, HH.out.2.1.tx _ (HH.out.2.2.2.2 _ _ hG)⟩
    have HL0 : Hid (LpV B b o M a { s with m := m', T := s.T } (.slice da n dc) ds w 0 w5) := by
      refine ⟨o, s.ls, H5.out.1, H5.out.2.1, ?_, rfl, HH.out.2.1.ls.2.1, HH.out.2.1.ls.2.2, HH.out.2.1.mb, HH.out.2.1.md⟩
      rw [hn] at hdw
      exact hdw.rq fun j hj => HH.out.1.new hj
    rw [hn]
    clear HLE hff hst hapd hsm hG hdw hn c4
    go_wp2_with fail
    go_loopw [8, 28] (fun v8 v28 wr => ∃ k : Nat, k ≤ n ∧ v28 = .int .i64 k ∧ Hid (LpV B b o M a { s with m := m', T := s.T } (.slice da n dc) ds w k wr)) (fun _ v28 _ => n - (intOf v28).toNat)
    case atStart => exact ⟨0, Nat.zero_le _, rfl, HL0.out⟩
    case round =>
      obtain ⟨k, hk, rfl, HI⟩ := hrel
      clear HL0
      by_cases q : k < n
      · as_aux_lemma =>
        have g1 : decide ((k : Int) < (n : Int)) = true := decide_eq_true (by omega)
        have g2 : decide (k < n) = true := decide_eq_true q
        obtain ⟨o1, lk, hb, fk, hx, ha, hll, hls, hmb, hmd⟩ := HI.out
        obtain ⟨d, hd⟩ : ∃ d, ds[k]? = some d := ⟨_, List.getElem?_eq_getElem (by rw [H5.out.2.2.2.2.1]; exact q)⟩
        have hdm : d ∈ ds := List.mem_of_getElem? hd
        obtain ⟨g, off, xo, yn, rfl, _, c0, c1, c2, ro, rn⟩ := Dr.at_ hx.dr hd
        obtain ⟨oa, oc, rfl, _, _⟩ := Row.form ro.1
        obtain ⟨na, nc, rfl, _, _⟩ := Row.form rn.1
        obtain ⟨l', hl1, hl2⟩ := apps_next hd ha H5.out.2.2.1
        obtain ⟨i, hi, hin, hspl⟩ := app1_spl hl1
        obtain ⟨on, hon⟩ : ∃ x, d.old.length = x := ⟨_, rfl⟩
        obtain ⟨nn, hnn⟩ : ∃ x, d.nw.length = x := ⟨_, rfl⟩
        have hsd := H5.out.2.2.2.1 d hdm
        have hon2 : on ≤ 2000 := by rw [← hon]; exact hsd.1.1
        have hnn2 : nn ≤ 2000 := by rw [← hnn]; exact hsd.2.1
        rw [hon] at c1 hin hspl ro
        rw [hnn] at c2 rn
        rw [hi] at c0
        obtain ⟨p, hp⟩ : ∃ p, wr.heap.size = p := ⟨_, rfl⟩
        obtain ⟨W1, hW1⟩ : ∃ z, wr.alloc (.cells #[.int .i64 i, .slice oa on oc, .slice na nn nc] 89) = z := ⟨_, rfl⟩
        have k1 : Kp wr W1 := by rw [← hW1]; exact kp_alloc _ _
        have b1 : Lc 89 p [.int .i64 i, .slice oa on oc, .slice na nn nc] W1 := by rw [← hW1, ← hp]; exact Lc.new wr [.int .i64 i, .slice oa on oc, .slice na nn nc] 89
        obtain ⟨tt, htt⟩ : ∃ t, a.t = t := ⟨_, rfl⟩
        have HSD : Hid (Sd p b i (.slice oa on oc) (.slice na nn nc) (.pointer (some ⟨tt, 0, none⟩)) W1) := ⟨b1.at (j := 0) rfl, b1.at (j := 1) rfl, b1.at (j := 2) rfl, by rw [← htt]; exact (hb.kp_ k1).box.at (j := 0) rfl⟩
        have s0 : ∀ y, Sd p b i (.slice oa on oc) (.slice na nn nc) (.pointer (some ⟨tt, 0, none⟩)) y → y.cell? ⟨p, 0, none⟩ = some (.int .i64 i) := fun _ h => h.1
        have s1 : ∀ y, Sd p b i (.slice oa on oc) (.slice na nn nc) (.pointer (some ⟨tt, 0, none⟩)) y → y.cell? ⟨p, 1, none⟩ = some (.slice oa on oc) := fun _ h => h.2.1
        have s2 : ∀ y, Sd p b i (.slice oa on oc) (.slice na nn nc) (.pointer (some ⟨tt, 0, none⟩)) y → y.cell? ⟨p, 2, none⟩ = some (.slice na nn nc) := fun _ h => h.2.2.1
        have HL : Hid (Calls Tryz.prog 75 #[.pointer (some ⟨b, 0, none⟩), .agg #[.int .i64 i, .slice oa on oc, .slice na nn nc]] W1.drew fun e w' => e = .returned (.tuple #[]) ∧ (∃ o2, Bf B b o2 (M + 90000 * (k + 1)) a { s with m := m', T := s.T, ls := l', mf := mfT s.mf (ds.take k) } w' ∧ FK B o o2 w w' ∧ Dx (RQ (Fre o2)) 0 (.slice (some ⟨g, off, none⟩) n dc) ds w' ∧ w'.heap[p]? = W1.heap[p]? ∧ p < w'.heap.size) ∧ (Sd p b i (.slice oa on oc) (.slice na nn nc) (.pointer (some ⟨tt, 0, none⟩)) W1 → Sd p b i (.slice oa on oc) (.slice na nn nc) (.pointer (some ⟨tt, 0, none⟩)) w')) := by
          have kz := kp_drew W1
          have k2 := kp_trans k1 kz
          have hz := hb.kp_ k2
          have rnz : RQ (Fre o1) (.slice na nn nc) d.nw W1.drew := ⟨row_kp rn.1 k2, rn.2⟩
          have hxz : Dx (RQ (Fre o1)) 0 (.slice (some ⟨g, off, none⟩) n dc) ds W1.drew := hx.kp (okRQ _ _) k2
          refine (lay_any hz (oa := oa) (oc := oc) (i := i) (n := on) ⟨by show lk.length ≤ _; omega, hls⟩ rnz.lies hsd.2 hin (by rw [hnn]; omega)).mono ?_
          rintro e w' ⟨rfl, o2, q1, q2, q3⟩
          rw [hnn] at q1
          have e9 : w'.heap[p]? = W1.heap[p]? := by
            rw [q3.block p (b1.kp kz).lt (hb.new (by omega))]; exact kz.block p b1.lt
          refine ⟨rfl, ⟨o2, ?_, fk.trans ((FK.kp k2 o1).trans q2), Dx.tree hz hxz q3, e9, Nat.lt_of_lt_of_le (b1.kp kz).lt q3.size⟩, fun hs => hs.eq e9 (by rw [← htt]; exact q1.box.at (j := 0) rfl)⟩
          rw [hspl]; exact q1.upM (by omega)
        have HR : Hid (apps s.ls (ds.take (k + 1)) = some l' ∧ l'.length = lk.length - on + nn ∧ lk.length ≤ 2000 + 2000 * k ∧ i + on ≤ lk.length ∧ (∀ x ∈ l', x.size ≤ 1000) ∧ Mz.Bd (lk.length : Int) (mfT s.mf (ds.take k)) ∧ (∀ x c, mfT s.mf (ds.take k) x = some c → 97 ≤ x ∧ x ≤ 122) ∧ mfT s.mf (ds.take (k + 1)) = Mz.spF (mfT s.mf (ds.take k)) ((i : Int) + 1) on nn) := by
          refine ⟨hl2, by rw [hspl, spl_len hin, hnn], hll, hin, fun x hx => ?_, hmb, hmd, by rw [take_snoc ds hd, mfT_snoc, hi, hon, hnn]⟩
          rw [hspl] at hx
          unfold spl at hx
          rcases List.mem_append.1 hx with y | y
          · rcases List.mem_append.1 y with y | y
            · exact hls x (List.mem_of_mem_take y)
            · exact hsd.2.2 x y
          · exact hls x (List.mem_of_mem_drop y)
        clear hb fk hx ha hd hdm ro rn hl1 hl2 hi hspl hon hnn hsd hls hmb hmd k1 b1 HI hll hin
        go_wp2_with fail
        refine wp_region_noPanic ?_
        refine wp_region_held_drew (S := Sd p b i (.slice oa on oc) (.slice na nn nc) (.pointer (some ⟨tt, 0, none⟩))) (by kernel_rfl) (HSD.out) (fun hHeld => ?_)
        refine takeAt 0 (some 32) ?_ rfl rfl (by kernel_rfl) (by kernel_rfl) (by kernel_rfl) (fun _ _ _ h => h) (Or.inl ⟨by rfl, ?_⟩) hHeld ?_
        rotate_left
        · intro w hSw
          go_simp <;> with_reducible rfl
        try simp only [Act.put, List.setIfInBounds_toArray, List.set_cons_zero, List.set_cons_succ]
        refine takeAt 1 (some 33) ?_ rfl rfl (by kernel_rfl) (by kernel_rfl) (by kernel_rfl) (fun _ _ _ h => h) (Or.inl ⟨by rfl, ?_⟩) hHeld ?_
        rotate_left
        · intro w hSw
          go_simp <;> with_reducible rfl
        try simp only [Act.put, List.setIfInBounds_toArray, List.set_cons_zero, List.set_cons_succ]
        refine takeAt 2 (some 34) ?_ rfl rfl (by kernel_rfl) (by kernel_rfl) (by kernel_rfl) (fun _ _ _ h => h) (Or.inl ⟨by rfl, ?_⟩) hHeld ?_
        rotate_left
        · intro w hSw
          go_simp <;> with_reducible rfl
        try simp only [Act.put, List.setIfInBounds_toArray, List.set_cons_zero, List.set_cons_succ]
        refine takeAt 3 (some 35) ?_ rfl rfl (by kernel_rfl) (by kernel_rfl) (by kernel_rfl) (fun _ _ _ h => h) (Or.inl ⟨by rfl, ?_⟩) hHeld ?_
        rotate_left
        · intro w hSw
          go_simp <;> with_reducible rfl
        try simp only [Act.put, List.setIfInBounds_toArray, List.set_cons_zero, List.set_cons_succ]
        refine callAt 4 36 75 (vals := #[.pointer (some ⟨b, 0, none⟩), .agg #[.int .i64 i, .slice oa on oc, .slice na nn nc]]) (by kernel_rfl) rfl rfl rfl rfl (by simp [Act.eval]) Tryz.func75 (by kernel_rfl) (by kernel_rfl) ?_
        refine Calls.mono (HL.out) ?_
        rintro e w7 ⟨rfl, q, q3⟩
        have HX : Hid _ := q
        have hs7 : Sd p b i (.slice oa on oc) (.slice na nn nc) (.pointer (some ⟨tt, 0, none⟩)) w7 := q3 HSD.out
        clear q q3
        refine ⟨_, rfl, hs7, fun hHeld => ?_⟩
        try simp only [Act.put, List.setIfInBounds_toArray, List.set_cons_zero, List.set_cons_succ]
        refine wpAnyH_done (by kernel_rfl) ?_ _
        refine NoPanic.normal ?_
        have HS7 : Hid (Sd p b i (.slice oa on oc) (.slice na nn nc) (.pointer (some ⟨tt, 0, none⟩)) w7) := hs7
        clear HL hs7
        obtain ⟨o2, hb2, fk2, hx2, e92, p2⟩ := HX.out
        have HFo : Hid (Calls Tryz.prog 56 #[.pointer (some ⟨b, 0, none⟩), .agg #[.int .i64 i, .slice oa on oc, .slice na nn nc]] w7.drew fun e w' => e = .returned (.tuple #[]) ∧ LpV B b o M a { s with m := m', T := s.T } (.slice (some ⟨g, off, none⟩) n dc) ds w (k + 1) w' ∧ (Sd p b i (.slice oa on oc) (.slice na nn nc) (.pointer (some ⟨tt, 0, none⟩)) w7 → Sd p b i (.slice oa on oc) (.slice na nn nc) (.pointer (some ⟨tt, 0, none⟩)) w')) := by
          have kz := kp_drew w7
          have hz := hb2.kp_ kz
          obtain ⟨r1, r2, r3, r4, r5, r6, r7, r8⟩ := HR.out
          refine (follow_any hz r7 r6 (by omega) (i := (i : Int)) ⟨by omega, by omega⟩ (n := on) (k := nn) (oa := oa) (na := na) (oc := oc) (nc := nc)).mono ?_
          rintro e w' ⟨rfl, q1, q2, q3⟩
          have hpm : p ≠ a.mb := fun e => by
            obtain ⟨es, c, q, _⟩ := hb2.mp
            have q' : w7.heap[a.mb]? = some (.map es c) := q
            have s0' := HS7.out.1
            rw [e] at s0'
            simp [World.cell?, q'] at s0'
          have hxz : Dx (RQ (Fre o2)) 0 (.slice (some ⟨g, off, none⟩) n dc) ds w7.drew := hx2.kp (okRQ _ _) kz
          refine ⟨rfl, ⟨o2, l', ?_, fk2.trans ((FK.kp kz o2).trans q2), Dx.map hz hxz q2.size q3 ⟨q2.fr.os, q2.fr.tape, q2.fr.output⟩, r1, by rw [r2]; omega, r5, ?_, ?_⟩, fun hs => hs.eq ?_ (by rw [← htt]; exact q1.box.at (j := 0) rfl)⟩
          · rw [r8]; exact q1
          · rw [r8, r2]; exact spF_in r6 r4 (by omega) (by omega)
          · rw [r8]; exact spF_dom r7 _ _ _
          · rw [q3 p (Nat.lt_of_lt_of_le p2 kz.size) hpm]; exact kz.block p p2
        clear HX hb2 fk2 hx2 e92 p2 HR htt HSD
        go_wp2_with fail
        refine wp_region_noPanic ?_
        refine wp_region_held_drew (S := Sd p b i (.slice oa on oc) (.slice na nn nc) (.pointer (some ⟨tt, 0, none⟩))) (by kernel_rfl) (HS7.out) (fun hHeld => ?_)
        refine takeAt 0 (some 37) ?_ rfl rfl (by kernel_rfl) (by kernel_rfl) (by kernel_rfl) (fun _ _ _ h => h) (Or.inl ⟨by rfl, ?_⟩) hHeld ?_
        rotate_left
        · intro w hSw
          go_simp <;> with_reducible rfl
        try simp only [Act.put, List.setIfInBounds_toArray, List.set_cons_zero, List.set_cons_succ]
        refine takeAt 1 (some 38) ?_ rfl rfl (by kernel_rfl) (by kernel_rfl) (by kernel_rfl) (fun _ _ _ h => h) (Or.inl ⟨by rfl, ?_⟩) hHeld ?_
        rotate_left
        · intro w hSw
          go_simp <;> with_reducible rfl
        try simp only [Act.put, List.setIfInBounds_toArray, List.set_cons_zero, List.set_cons_succ]
        refine takeAt 2 (some 39) ?_ rfl rfl (by kernel_rfl) (by kernel_rfl) (by kernel_rfl) (fun _ _ _ h => h) (Or.inl ⟨by rfl, ?_⟩) hHeld ?_
        rotate_left
        · intro w hSw
          go_simp <;> with_reducible rfl
        try simp only [Act.put, List.setIfInBounds_toArray, List.set_cons_zero, List.set_cons_succ]
        refine takeAt 3 (some 40) ?_ rfl rfl (by kernel_rfl) (by kernel_rfl) (by kernel_rfl) (fun _ _ _ h => h) (Or.inl ⟨by rfl, ?_⟩) hHeld ?_
        rotate_left
        · intro w hSw
          go_simp <;> with_reducible rfl
        try simp only [Act.put, List.setIfInBounds_toArray, List.set_cons_zero, List.set_cons_succ]
        refine callAt 4 41 56 (vals := #[.pointer (some ⟨b, 0, none⟩), .agg #[.int .i64 i, .slice oa on oc, .slice na nn nc]]) (by kernel_rfl) rfl rfl rfl rfl (by simp [Act.eval]) Tryz.func56 (by kernel_rfl) (by kernel_rfl) ?_
        refine Calls.mono (HFo.out) ?_
        rintro e w9 ⟨rfl, q, q3⟩
        have HY : Hid _ := q
        have hs9 : Sd p b i (.slice oa on oc) (.slice na nn nc) (.pointer (some ⟨tt, 0, none⟩)) w9 := q3 HS7.out
        clear q q3
        refine ⟨_, rfl, hs9, fun hHeld => ?_⟩
        try simp only [Act.put, List.setIfInBounds_toArray, List.set_cons_zero, List.set_cons_succ]
        refine wpAnyH_done (by kernel_rfl) ?_ _
        refine NoPanic.normal ?_
        have HN : Hid (LpV B b o M a { s with m := m', T := s.T } (.slice (some ⟨g, off, none⟩) n dc) ds w (k + 1) w9) := HY.out
        clear HFo HY HS7 s0 s1 s2 hs9
        go_wp2_with fail
        go_roundw
        case rel => exact ⟨k + 1, by omega, by go_num, HN.out⟩
        case measure => simp only [intOf]; omega
      · obtain rfl : k = n := by omega
        have g1 : decide ((k : Int) < (k : Int)) = false := by simp
        obtain ⟨o1, lk, hb, fk, hx, ha, hll, hls, hmb, hmd⟩ := HI.out
        have hlk : lk = s.T m'.now := by
          have e := H5.out.2.2.1
          have e2 : ds.take k = ds := List.take_of_length_le (by rw [H5.out.2.2.2.2.1]; exact Nat.le_refl _)
          rw [e2] at ha
          have ha' : apps s.ls ds = some lk := ha
          rw [e] at ha'; exact (Option.some.inj ha').symm
        have e2 : ds.take k = ds := List.take_of_length_le (by rw [H5.out.2.2.2.2.1]; exact Nat.le_refl _)
        rw [e2] at hb hmd
        subst hlk
        have hb' : Bf B b o1 (M + 90000 * c) a { s with m := m', T := s.T, ls := s.T m'.now, mf := mfT s.mf ds } wr := hb.upM (by omega)
        have hmd' : ∀ x c, mfT s.mf ds x = some c → 97 ≤ x ∧ x ≤ 122 := hmd
        by_cases z : k = 0
        · as_aux_lemma =>
          subst z
          have hds : ds = [] := List.eq_nil_of_length_eq_zero H5.out.2.2.2.2.1
          have HK : Hid _ := keepL hb' hmd'
          have HF : Hid (FK B o o1 w wr ∧ G m' ds ∧ apps s.ls ds = some (s.T m'.now) ∧ ∀ kb' wz, Bf B b o1 (M + 90000 * c) { a with kb := kb' } { s with m := m', T := s.T, ls := s.T m'.now, mf := mfT s.mf ds, kf := mfT s.mf ds, kcur := s.cur } wz → Bf B b o1 (M + 90000 * c) { a with kb := kb' } (wyS s m' ds) wz) := ⟨fk, H5.out.2.2.2.2.2.1, H5.out.2.2.1, fun kb' wz hz => by
            have e : curT s ds (s.T m'.now).length = s.cur := by unfold curT; rw [hds]; rfl
            unfold wyS; rw [e]; exact hz⟩
          clear HI H5 HH hb fk hx ha hll hls hmb hmd hb' hmd' e2 hds
          go_wp2_with fail
          refine Calls.mono HK.out ?_
          rintro e w7 ⟨rfl, kb', h7, f7⟩
          have HZ : Hid (∃ o' kb' m' ds, G m' ds ∧ apps s.ls ds = some (s.T m'.now) ∧ Bf B b o' (M + 90000 * c) { a with kb := kb' } (wyS s m' ds) w7 ∧ FK B o o' w w7) := ⟨o1, kb', m', ds, HF.out.2.1, HF.out.2.2.1, HF.out.2.2.2 kb' w7 h7, HF.out.1.trans f7⟩
          clear HK h7 f7 HF
          go_wp2_with fail
          go_ret
          exact ⟨0, rfl, .inr ⟨rfl, by rw [← HU.out]; exact HZ.out⟩⟩
        · as_aux_lemma =>
          have g3 : decide ((k : Int) > 0) = true := decide_eq_true (by omega)
          have g4 : decide ((0 : Int) < (k : Int)) = true := decide_eq_true (by omega)
          have g5 : decide (0 < k) = true := decide_eq_true (by omega)
          obtain ⟨j, rfl⟩ : ∃ j, k = j + 1 := ⟨k - 1, by omega⟩
          obtain ⟨d, hd⟩ : ∃ d, ds[j]? = some d := ⟨_, List.getElem?_eq_getElem (by rw [H5.out.2.2.2.2.1]; omega)⟩
          obtain ⟨g, off, xo, yn, rfl, _, c0, c1, c2, ro, rn⟩ := Dr.at_ hx.dr hd
          have hlast : ds.getLast? = some d := by rw [List.getLast?_eq_getElem?, H5.out.2.2.2.2.1]; exact hd
          have hT := H5.out.2.2.2.2.2.2
          have hat : 0 ≤ d.at_ ∧ d.at_ ≤ 100000000 := by
            have hk2 : apps s.ls (ds.take j) ≠ none := fun e => by
              have h2 := H5.out.2.2.1
              have e1 : ds = ds.take j ++ ds.drop j := (List.take_append_drop _ _).symm
              rw [e1, apps_app, e] at h2; cases h2
            obtain ⟨l2, hl2⟩ := Option.ne_none_iff_exists'.1 hk2
            obtain ⟨l', hl1, _⟩ := apps_next hd hl2 H5.out.2.2.1
            obtain ⟨i, hi, hin, _⟩ := app1_spl hl1
            have hlen : ∀ (r : Nat) (lr : List ByteArray), r ≤ ds.length → apps s.ls (ds.take r) = some lr → lr.length ≤ 2000 + 2000 * r := by
              intro r
              induction r with
              | zero => intro lr _ h; rw [List.take_zero] at h; cases h; have := HH.out.2.1.ls.2.1; omega
              | succ r ih =>
                intro lr hr h
                obtain ⟨dr, hdr⟩ : ∃ d, ds[r]? = some d := ⟨_, List.getElem?_eq_getElem (by omega)⟩
                rw [take_snoc ds hdr, apps_app] at h
                cases hx2 : apps s.ls (ds.take r) with
                | none => rw [hx2] at h; cases h
                | some l3 =>
                  rw [hx2] at h
                  have h' : (app1 l3 dr).bind (fun l' => apps l' []) = some lr := h
                  cases hx3 : app1 l3 dr with
                  | none => rw [hx3] at h'; cases h'
                  | some l4 =>
                    rw [hx3] at h'; cases h'
                    obtain ⟨i4, _, hin4, rfl⟩ := app1_spl hx3
                    have := ih l3 (by omega) hx2
                    have := (H5.out.2.2.2.1 dr (List.mem_of_getElem? hdr)).2.1
                    rw [spl_len hin4]; omega
            have := hlen j l2 (by rw [H5.out.2.2.2.2.1]; omega) hl2
            omega
          have HP : Hid _ := bputL hb' (show (s.T m'.now).length ≤ 4000 by have := hT.2.1; omega) (n := d.at_ + 1) (by omega)
          have HF : Hid (FK B o o1 w wr ∧ G m' ds ∧ apps s.ls ds = some (s.T m'.now) ∧ (∀ x c, mfT s.mf ds x = some c → 97 ≤ x ∧ x ≤ 122) ∧ ∀ kb' wz, Bf B b o1 (M + 90000 * c) { a with kb := kb' } { s with m := m', T := s.T, ls := s.T m'.now, mf := mfT s.mf ds, cur := putC (d.at_ + 1) (s.T m'.now).length, kf := mfT s.mf ds, kcur := putC (d.at_ + 1) (s.T m'.now).length } wz → Bf B b o1 (M + 90000 * c) { a with kb := kb' } (wyS s m' ds) wz) := ⟨fk, H5.out.2.2.2.2.2.1, H5.out.2.2.1, hmd', fun kb' wz hz => by
            have e : curT s ds (s.T m'.now).length = putC (d.at_ + 1) (s.T m'.now).length := by unfold curT; rw [hlast]
            unfold wyS; rw [e]; exact hz⟩
          obtain ⟨x, hxa⟩ : ∃ x, d.at_ = x := ⟨_, rfl⟩
          rw [hxa] at c0 HP hat
          have HXA : Hid (d.at_ = x) := hxa
          have hk3 : ((j + 1 : Nat) : Int) - 1 = (j : Int) := by omega
          clear HI H5 HH hb fk hx ha hll hls hmb hmd hb' hmd' e2 c1 c2 ro rn hd hlast hT hxa
          go_wp2_with fail
          refine Calls.mono HP.out ?_
          rintro e w6 ⟨rfl, h6, f6⟩
          have HK : Hid _ := keepL h6 HF.out.2.2.2.1
          have H6 : Hid (FK B o o1 w w6) := HF.out.1.trans f6
          clear HP h6 f6 c0
          go_wp2_with fail
          refine Calls.mono HK.out ?_
          rintro e w7 ⟨rfl, kb', h7, f7⟩
          have HZ : Hid (∃ o' kb' m' ds, G m' ds ∧ apps s.ls ds = some (s.T m'.now) ∧ Bf B b o' (M + 90000 * c) { a with kb := kb' } (wyS s m' ds) w7 ∧ FK B o o' w w7) := ⟨o1, kb', m', ds, HF.out.2.1, HF.out.2.2.1, HF.out.2.2.2.2 kb' w7 (by rw [HXA.out]; exact h7), H6.out.trans f7⟩
          clear HK h7 f7 HF
          go_wp2_with fail
          go_ret
          exact ⟨0, rfl, .inr ⟨rfl, by rw [← HU.out]; exact HZ.out⟩⟩
set_option maxHeartbeats 64000000 in
theorem travel_Redo (h : Bf B b o M a s w) (f : Fine (s.ls.length : Int) s) (hop : s.op = []) (hc : c ≤ 1000) (hM : M + 90000 * (c + 1) < 280000000) (HG : ∀ m' ds, G m' ds → look s.m.L m'.now ≠ none)
    (HLd : ∀ z, Kp w z → Calls Tryz.prog 54 #[.pointer (some ⟨a.u, 0, none⟩)] z fun e w1 => ∃ v err, e = .returned (.tuple #[v, .int .u16 err]) ∧ Led2 (Fre o) B a.C a.u s.m s.T E G c z v err w1) :
    Calls Tryz.prog 50 #[.pointer (some ⟨b, 0, none⟩), .func (.func 54) #[.pointer (some ⟨a.u, 0, none⟩)] #[]] w fun e w' => ∃ err, e = .returned (.int .u16 err) ∧ ((err ≠ 0 ∧ E err ∧ Bf B b o M a s w' ∧ FK B o o w w') ∨
      (err = 0 ∧ ∃ o' kb' m' ds, G m' ds ∧ apps s.ls ds = some (s.T m'.now) ∧ Bf B b o' (M + 90000 * c) { a with kb := kb' } (wyS s m' ds) w' ∧ FK B o o' w w')) := by
  have hap : s.T s.m.now = s.ls := by have := f.ap; rw [hop] at this; exact Option.some.inj this
  obtain ⟨va, vc, hov, _, _⟩ := Dx.form h.op
  rw [hop] at hov
  have c4 := h.box.at (j := 4) rfl
  rw [hov] at c4
  obtain ⟨u, hu⟩ : ∃ u, a.u = u := ⟨_, rfl⟩
  have HLE : Hid (∀ z, Kp w z → Calls Tryz.prog 54 #[.pointer (some ⟨u, 0, none⟩)] z fun e w1 => ∃ v err, e = .returned (.tuple #[v, .int .u16 err]) ∧ Led2 (Fre o) B a.C a.u s.m s.T E G c z v err w1) := by rw [← hu]; exact HLd
  have HH : Hid (Bf B b o M a s w ∧ Fine (s.ls.length : Int) s ∧ s.op = [] ∧ s.T s.m.now = s.ls ∧ (∀ m' ds, G m' ds → look s.m.L m'.now ≠ none)) := ⟨h, f, hop, hap, HG⟩
  have HU : Hid (a.u = u) := hu
  rw [hu]
  clear h f hop hov HLd hu HG hap
  go_enter Tryz.func50, Tryz.ntmps50
  go_wp2_with fail
  refine Calls.mono (HLE.out _ (by first | exact Below.refl _ _ | exact kp_drewN _ _)) ?_
  rintro e w5 ⟨v, err, rfl, hff, hor⟩
  rcases hor with ⟨hne, he0, he1, rfl, hE, hst⟩ | ⟨rfl, ds, m', hdw, hst, hapd, hsm, hdl, hG⟩
  · have b1 : (err != 0) = true := by simpa using hne
    have HX : Hid (err ≠ 0 ∧ E err ∧ Bf B b o M a s w5 ∧ FK B o o w w5) := by
      obtain ⟨q1, q2⟩ := HH.out.1.went hff hst
      exact ⟨hne, hE, q1, q2⟩
    clear HLE HH hff hst hne hE c4
    go_wp2_with fail
    go_ret
    exact ⟨_, rfl, .inl HX.out⟩
  · obtain ⟨da, dc, rfl, hd1, hd2⟩ := Dx.form hdw
    obtain ⟨n, hn⟩ : ∃ n, ds.length = n := ⟨_, rfl⟩
    rw [hn] at hdl hd1
    unfold maxLen at hd2
    have H5 : Hid (Bf B b o M a { s with m := m', T := s.T } w5 ∧ FK B o o w w5 ∧ apps s.ls ds = some (s.T m'.now) ∧ (∀ d ∈ ds, Smd d) ∧ ds.length = n ∧ G m' ds ∧ TxtOk (s.T m'.now)) := by
      obtain ⟨q1, q2⟩ := HH.out.1.went hff hst
      rw [HH.out.2.2.2.1] at hapd
      exact ⟨q1, q2, hapd, hsm, hn, hG, HH.out.2.1.tx _ (HH.out.2.2.2.2 _ _ hG)⟩
    have HL0 : Hid (LpV B b o M a { s with m := m', T := s.T } (.slice da n dc) ds w 0 w5) := by
      refine ⟨o, s.ls, H5.out.1, H5.out.2.1, ?_, rfl, HH.out.2.1.ls.2.1, HH.out.2.1.ls.2.2, HH.out.2.1.mb, HH.out.2.1.md⟩
      rw [hn] at hdw
      exact hdw.rq fun j hj => HH.out.1.new hj
    rw [hn]
    clear HLE hff hst hapd hsm hG hdw hn c4
    go_wp2_with fail
    go_loopw [8, 28] (fun v8 v28 wr => ∃ k : Nat, k ≤ n ∧ v28 = .int .i64 k ∧ Hid (LpV B b o M a { s with m := m', T := s.T } (.slice da n dc) ds w k wr)) (fun _ v28 _ => n - (intOf v28).toNat)
    case atStart => exact ⟨0, Nat.zero_le _, rfl, HL0.out⟩
    case round =>
      obtain ⟨k, hk, rfl, HI⟩ := hrel
      clear HL0
      by_cases q : k < n
      · as_aux_lemma =>
        have g1 : decide ((k : Int) < (n : Int)) = true := decide_eq_true (by omega)
        have g2 : decide (k < n) = true := decide_eq_true q
        obtain ⟨o1, lk, hb, fk, hx, ha, hll, hls, hmb, hmd⟩ := HI.out
        obtain ⟨d, hd⟩ : ∃ d, ds[k]? = some d := ⟨_, List.getElem?_eq_getElem (by rw [H5.out.2.2.2.2.1]; exact q)⟩
        have hdm : d ∈ ds := List.mem_of_getElem? hd
        obtain ⟨g, off, xo, yn, rfl, _, c0, c1, c2, ro, rn⟩ := Dr.at_ hx.dr hd
        obtain ⟨oa, oc, rfl, _, _⟩ := Row.form ro.1
        obtain ⟨na, nc, rfl, _, _⟩ := Row.form rn.1
        obtain ⟨l', hl1, hl2⟩ := apps_next hd ha H5.out.2.2.1
        obtain ⟨i, hi, hin, hspl⟩ := app1_spl hl1
        obtain ⟨on, hon⟩ : ∃ x, d.old.length = x := ⟨_, rfl⟩
        obtain ⟨nn, hnn⟩ : ∃ x, d.nw.length = x := ⟨_, rfl⟩
        have hsd := H5.out.2.2.2.1 d hdm
        have hon2 : on ≤ 2000 := by rw [← hon]; exact hsd.1.1
        have hnn2 : nn ≤ 2000 := by rw [← hnn]; exact hsd.2.1
        rw [hon] at c1 hin hspl ro
        rw [hnn] at c2 rn
        rw [hi] at c0
        obtain ⟨p, hp⟩ : ∃ p, wr.heap.size = p := ⟨_, rfl⟩
        obtain ⟨W1, hW1⟩ : ∃ z, wr.alloc (.cells #[.int .i64 i, .slice oa on oc, .slice na nn nc] 89) = z := ⟨_, rfl⟩
        have k1 : Kp wr W1 := by rw [← hW1]; exact kp_alloc _ _
        have b1 : Lc 89 p [.int .i64 i, .slice oa on oc, .slice na nn nc] W1 := by rw [← hW1, ← hp]; exact Lc.new wr [.int .i64 i, .slice oa on oc, .slice na nn nc] 89
        obtain ⟨tt, htt⟩ : ∃ t, a.t = t := ⟨_, rfl⟩
        have HSD : Hid (Sd p b i (.slice oa on oc) (.slice na nn nc) (.pointer (some ⟨tt, 0, none⟩)) W1) := ⟨b1.at (j := 0) rfl, b1.at (j := 1) rfl, b1.at (j := 2) rfl, by rw [← htt]; exact (hb.kp_ k1).box.at (j := 0) rfl⟩
        have s0 : ∀ y, Sd p b i (.slice oa on oc) (.slice na nn nc) (.pointer (some ⟨tt, 0, none⟩)) y → y.cell? ⟨p, 0, none⟩ = some (.int .i64 i) := fun _ h => h.1
        have s1 : ∀ y, Sd p b i (.slice oa on oc) (.slice na nn nc) (.pointer (some ⟨tt, 0, none⟩)) y → y.cell? ⟨p, 1, none⟩ = some (.slice oa on oc) := fun _ h => h.2.1
        have s2 : ∀ y, Sd p b i (.slice oa on oc) (.slice na nn nc) (.pointer (some ⟨tt, 0, none⟩)) y → y.cell? ⟨p, 2, none⟩ = some (.slice na nn nc) := fun _ h => h.2.2.1
        have HL : Hid (Calls Tryz.prog 75 #[.pointer (some ⟨b, 0, none⟩), .agg #[.int .i64 i, .slice oa on oc, .slice na nn nc]] W1.drew fun e w' => e = .returned (.tuple #[]) ∧ (∃ o2, Bf B b o2 (M + 90000 * (k + 1)) a { s with m := m', T := s.T, ls := l', mf := mfT s.mf (ds.take k) } w' ∧ FK B o o2 w w' ∧ Dx (RQ (Fre o2)) 0 (.slice (some ⟨g, off, none⟩) n dc) ds w' ∧ w'.heap[p]? = W1.heap[p]? ∧ p < w'.heap.size) ∧ (Sd p b i (.slice oa on oc) (.slice na nn nc) (.pointer (some ⟨tt, 0, none⟩)) W1 → Sd p b i (.slice oa on oc) (.slice na nn nc) (.pointer (some ⟨tt, 0, none⟩)) w')) := by
          have kz := kp_drew W1
          have k2 := kp_trans k1 kz
          have hz := hb.kp_ k2
          have rnz : RQ (Fre o1) (.slice na nn nc) d.nw W1.drew := ⟨row_kp rn.1 k2, rn.2⟩
          have hxz : Dx (RQ (Fre o1)) 0 (.slice (some ⟨g, off, none⟩) n dc) ds W1.drew := hx.kp (okRQ _ _) k2
          refine (lay_any hz (oa := oa) (oc := oc) (i := i) (n := on) ⟨by show lk.length ≤ _; omega, hls⟩ rnz.lies hsd.2 hin (by rw [hnn]; omega)).mono ?_
          rintro e w' ⟨rfl, o2, q1, q2, q3⟩
          rw [hnn] at q1
          have e9 : w'.heap[p]? = W1.heap[p]? := by
            rw [q3.block p (b1.kp kz).lt (hb.new (by omega))]; exact kz.block p b1.lt
          refine ⟨rfl, ⟨o2, ?_, fk.trans ((FK.kp k2 o1).trans q2), Dx.tree hz hxz q3, e9, Nat.lt_of_lt_of_le (b1.kp kz).lt q3.size⟩, fun hs => hs.eq e9 (by rw [← htt]; exact q1.box.at (j := 0) rfl)⟩
          rw [hspl]; exact q1.upM (by omega)
        have HR : Hid (apps s.ls (ds.take (k + 1)) = some l' ∧ l'.length = lk.length - on + nn ∧ lk.length ≤ 2000 + 2000 * k ∧ i + on ≤ lk.length ∧ (∀ x ∈ l', x.size ≤ 1000) ∧ Mz.Bd (lk.length : Int) (mfT s.mf (ds.take k)) ∧ (∀ x c, mfT s.mf (ds.take k) x = some c → 97 ≤ x ∧ x ≤ 122) ∧ mfT s.mf (ds.take (k + 1)) = Mz.spF (mfT s.mf (ds.take k)) ((i : Int) + 1) on nn) := by
          refine ⟨hl2, by rw [hspl, spl_len hin, hnn], hll, hin, fun x hx => ?_, hmb, hmd, by rw [take_snoc ds hd, mfT_snoc, hi, hon, hnn]⟩
          rw [hspl] at hx
          unfold spl at hx
          rcases List.mem_append.1 hx with y | y
          · rcases List.mem_append.1 y with y | y
            · exact hls x (List.mem_of_mem_take y)
            · exact hsd.2.2 x y
          · exact hls x (List.mem_of_mem_drop y)
        clear hb fk hx ha hd hdm ro rn hl1 hl2 hi hspl hon hnn hsd hls hmb hmd k1 b1 HI hll hin
        go_wp2_with fail
        refine wp_region_noPanic ?_
        refine wp_region_held_drew (S := Sd p b i (.slice oa on oc) (.slice na nn nc) (.pointer (some ⟨tt, 0, none⟩))) (by kernel_rfl) (HSD.out) (fun hHeld => ?_)
        refine takeAt 0 (some 32) ?_ rfl rfl (by kernel_rfl) (by kernel_rfl) (by kernel_rfl) (fun _ _ _ h => h) (Or.inl ⟨by rfl, ?_⟩) hHeld ?_
        rotate_left
        · intro w hSw
          go_simp <;> with_reducible rfl
        try simp only [Act.put, List.setIfInBounds_toArray, List.set_cons_zero, List.set_cons_succ]
        refine takeAt 1 (some 33) ?_ rfl rfl (by kernel_rfl) (by kernel_rfl) (by kernel_rfl) (fun _ _ _ h => h) (Or.inl ⟨by rfl, ?_⟩) hHeld ?_
        rotate_left
        · intro w hSw
          go_simp <;> with_reducible rfl
        try simp only [Act.put, List.setIfInBounds_toArray, List.set_cons_zero, List.set_cons_succ]
        refine takeAt 2 (some 34) ?_ rfl rfl (by kernel_rfl) (by kernel_rfl) (by kernel_rfl) (fun _ _ _ h => h) (Or.inl ⟨by rfl, ?_⟩) hHeld ?_
        rotate_left
        · intro w hSw
          go_simp <;> with_reducible rfl
        try simp only [Act.put, List.setIfInBounds_toArray, List.set_cons_zero, List.set_cons_succ]
        refine takeAt 3 (some 35) ?_ rfl rfl (by kernel_rfl) (by kernel_rfl) (by kernel_rfl) (fun _ _ _ h => h) (Or.inl ⟨by rfl, ?_⟩) hHeld ?_
        rotate_left
        · intro w hSw
          go_simp <;> with_reducible rfl
        try simp only [Act.put, List.setIfInBounds_toArray, List.set_cons_zero, List.set_cons_succ]
        refine callAt 4 36 75 (vals := #[.pointer (some ⟨b, 0, none⟩), .agg #[.int .i64 i, .slice oa on oc, .slice na nn nc]]) (by kernel_rfl) rfl rfl rfl rfl (by simp [Act.eval]) Tryz.func75 (by kernel_rfl) (by kernel_rfl) ?_
        refine Calls.mono (HL.out) ?_
        rintro e w7 ⟨rfl, q, q3⟩
        have HX : Hid _ := q
        have hs7 : Sd p b i (.slice oa on oc) (.slice na nn nc) (.pointer (some ⟨tt, 0, none⟩)) w7 := q3 HSD.out
        clear q q3
        refine ⟨_, rfl, hs7, fun hHeld => ?_⟩
        try simp only [Act.put, List.setIfInBounds_toArray, List.set_cons_zero, List.set_cons_succ]
        refine wpAnyH_done (by kernel_rfl) ?_ _
        refine NoPanic.normal ?_
        have HS7 : Hid (Sd p b i (.slice oa on oc) (.slice na nn nc) (.pointer (some ⟨tt, 0, none⟩)) w7) := hs7
        clear HL hs7
        obtain ⟨o2, hb2, fk2, hx2, e92, p2⟩ := HX.out
        have HFo : Hid (Calls Tryz.prog 56 #[.pointer (some ⟨b, 0, none⟩), .agg #[.int .i64 i, .slice oa on oc, .slice na nn nc]] w7.drew fun e w' => e = .returned (.tuple #[]) ∧ LpV B b o M a { s with m := m', T := s.T } (.slice (some ⟨g, off, none⟩) n dc) ds w (k + 1) w' ∧ (Sd p b i (.slice oa on oc) (.slice na nn nc) (.pointer (some ⟨tt, 0, none⟩)) w7 → Sd p b i (.slice oa on oc) (.slice na nn nc) (.pointer (some ⟨tt, 0, none⟩)) w')) := by
          have kz := kp_drew w7
          have hz := hb2.kp_ kz
          obtain ⟨r1, r2, r3, r4, r5, r6, r7, r8⟩ := HR.out
          refine (follow_any hz r7 r6 (by omega) (i := (i : Int)) ⟨by omega, by omega⟩ (n := on) (k := nn) (oa := oa) (na := na) (oc := oc) (nc := nc)).mono ?_
          rintro e w' ⟨rfl, q1, q2, q3⟩
          have hpm : p ≠ a.mb := fun e => by
            obtain ⟨es, c, q, _⟩ := hb2.mp
            have q' : w7.heap[a.mb]? = some (.map es c) := q
            have s0' := HS7.out.1
            rw [e] at s0'
            simp [World.cell?, q'] at s0'
          have hxz : Dx (RQ (Fre o2)) 0 (.slice (some ⟨g, off, none⟩) n dc) ds w7.drew := hx2.kp (okRQ _ _) kz
          refine ⟨rfl, ⟨o2, l', ?_, fk2.trans ((FK.kp kz o2).trans q2), Dx.map hz hxz q2.size q3 ⟨q2.fr.os, q2.fr.tape, q2.fr.output⟩, r1, by rw [r2]; omega, r5, ?_, ?_⟩, fun hs => hs.eq ?_ (by rw [← htt]; exact q1.box.at (j := 0) rfl)⟩
          · rw [r8]; exact q1
          · rw [r8, r2]; exact spF_in r6 r4 (by omega) (by omega)
          · rw [r8]; exact spF_dom r7 _ _ _
          · rw [q3 p (Nat.lt_of_lt_of_le p2 kz.size) hpm]; exact kz.block p p2
        clear HX hb2 fk2 hx2 e92 p2 HR htt HSD
        go_wp2_with fail
        refine wp_region_noPanic ?_
        refine wp_region_held_drew (S := Sd p b i (.slice oa on oc) (.slice na nn nc) (.pointer (some ⟨tt, 0, none⟩))) (by kernel_rfl) (HS7.out) (fun hHeld => ?_)
        refine takeAt 0 (some 37) ?_ rfl rfl (by kernel_rfl) (by kernel_rfl) (by kernel_rfl) (fun _ _ _ h => h) (Or.inl ⟨by rfl, ?_⟩) hHeld ?_
        rotate_left
        · intro w hSw
          go_simp <;> with_reducible rfl
        try simp only [Act.put, List.setIfInBounds_toArray, List.set_cons_zero, List.set_cons_succ]
        refine takeAt 1 (some 38) ?_ rfl rfl (by kernel_rfl) (by kernel_rfl) (by kernel_rfl) (fun _ _ _ h => h) (Or.inl ⟨by rfl, ?_⟩) hHeld ?_
        rotate_left
        · intro w hSw
          go_simp <;> with_reducible rfl
        try simp only [Act.put, List.setIfInBounds_toArray, List.set_cons_zero, List.set_cons_succ]
        refine takeAt 2 (some 39) ?_ rfl rfl (by kernel_rfl) (by kernel_rfl) (by kernel_rfl) (fun _ _ _ h => h) (Or.inl ⟨by rfl, ?_⟩) hHeld ?_
        rotate_left
        · intro w hSw
          go_simp <;> with_reducible rfl
        try simp only [Act.put, List.setIfInBounds_toArray, List.set_cons_zero, List.set_cons_succ]
        refine takeAt 3 (some 40) ?_ rfl rfl (by kernel_rfl) (by kernel_rfl) (by kernel_rfl) (fun _ _ _ h => h) (Or.inl ⟨by rfl, ?_⟩) hHeld ?_
        rotate_left
        · intro w hSw
          go_simp <;> with_reducible rfl
        try simp only [Act.put, List.setIfInBounds_toArray, List.set_cons_zero, List.set_cons_succ]
        refine callAt 4 41 56 (vals := #[.pointer (some ⟨b, 0, none⟩), .agg #[.int .i64 i, .slice oa on oc, .slice na nn nc]]) (by kernel_rfl) rfl rfl rfl rfl (by simp [Act.eval]) Tryz.func56 (by kernel_rfl) (by kernel_rfl) ?_
        refine Calls.mono (HFo.out) ?_
        rintro e w9 ⟨rfl, q, q3⟩
        have HY : Hid _ := q
        have hs9 : Sd p b i (.slice oa on oc) (.slice na nn nc) (.pointer (some ⟨tt, 0, none⟩)) w9 := q3 HS7.out
        clear q q3
        refine ⟨_, rfl, hs9, fun hHeld => ?_⟩
        try simp only [Act.put, List.setIfInBounds_toArray, List.set_cons_zero, List.set_cons_succ]
        refine wpAnyH_done (by kernel_rfl) ?_ _
        refine NoPanic.normal ?_
        have HN : Hid (LpV B b o M a { s with m := m', T := s.T } (.slice (some ⟨g, off, none⟩) n dc) ds w (k + 1) w9) := HY.out
        clear HFo HY HS7 s0 s1 s2 hs9
        go_wp2_with fail
        go_roundw
        case rel => exact ⟨k + 1, by omega, by go_num, HN.out⟩
        case measure => simp only [intOf]; omega
      · obtain rfl : k = n := by omega
        have g1 : decide ((k : Int) < (k : Int)) = false := by simp
        obtain ⟨o1, lk, hb, fk, hx, ha, hll, hls, hmb, hmd⟩ := HI.out
        have hlk : lk = s.T m'.now := by
          have e := H5.out.2.2.1
          have e2 : ds.take k = ds := List.take_of_length_le (by rw [H5.out.2.2.2.2.1]; exact Nat.le_refl _)
          rw [e2] at ha
          have ha' : apps s.ls ds = some lk := ha
          rw [e] at ha'; exact (Option.some.inj ha').symm
        have e2 : ds.take k = ds := List.take_of_length_le (by rw [H5.out.2.2.2.2.1]; exact Nat.le_refl _)
        rw [e2] at hb hmd
        subst hlk
        have hb' : Bf B b o1 (M + 90000 * c) a { s with m := m', T := s.T, ls := s.T m'.now, mf := mfT s.mf ds } wr := hb.upM (by omega)
        have hmd' : ∀ x c, mfT s.mf ds x = some c → 97 ≤ x ∧ x ≤ 122 := hmd
        by_cases z : k = 0
        · as_aux_lemma =>
          subst z
          have hds : ds = [] := List.eq_nil_of_length_eq_zero H5.out.2.2.2.2.1
          have HK : Hid _ := keepL hb' hmd'
          have HF : Hid (FK B o o1 w wr ∧ G m' ds ∧ apps s.ls ds = some (s.T m'.now) ∧ ∀ kb' wz, Bf B b o1 (M + 90000 * c) { a with kb := kb' } { s with m := m', T := s.T, ls := s.T m'.now, mf := mfT s.mf ds, kf := mfT s.mf ds, kcur := s.cur } wz → Bf B b o1 (M + 90000 * c) { a with kb := kb' } (wyS s m' ds) wz) := ⟨fk, H5.out.2.2.2.2.2.1, H5.out.2.2.1, fun kb' wz hz => by
            have e : curT s ds (s.T m'.now).length = s.cur := by unfold curT; rw [hds]; rfl
            unfold wyS; rw [e]; exact hz⟩
          clear HI H5 HH hb fk hx ha hll hls hmb hmd hb' hmd' e2 hds
          go_wp2_with fail
          refine Calls.mono HK.out ?_
          rintro e w7 ⟨rfl, kb', h7, f7⟩
          have HZ : Hid (∃ o' kb' m' ds, G m' ds ∧ apps s.ls ds = some (s.T m'.now) ∧ Bf B b o' (M + 90000 * c) { a with kb := kb' } (wyS s m' ds) w7 ∧ FK B o o' w w7) := ⟨o1, kb', m', ds, HF.out.2.1, HF.out.2.2.1, HF.out.2.2.2 kb' w7 h7, HF.out.1.trans f7⟩
          clear HK h7 f7 HF
          go_wp2_with fail
          go_ret
          exact ⟨0, rfl, .inr ⟨rfl, by rw [← HU.out]; exact HZ.out⟩⟩
        · as_aux_lemma =>
          have g3 : decide ((k : Int) > 0) = true := decide_eq_true (by omega)
          have g4 : decide ((0 : Int) < (k : Int)) = true := decide_eq_true (by omega)
          have g5 : decide (0 < k) = true := decide_eq_true (by omega)
          obtain ⟨j, rfl⟩ : ∃ j, k = j + 1 := ⟨k - 1, by omega⟩
          obtain ⟨d, hd⟩ : ∃ d, ds[j]? = some d := ⟨_, List.getElem?_eq_getElem (by rw [H5.out.2.2.2.2.1]; omega)⟩
          obtain ⟨g, off, xo, yn, rfl, _, c0, c1, c2, ro, rn⟩ := Dr.at_ hx.dr hd
          have hlast : ds.getLast? = some d := by rw [List.getLast?_eq_getElem?, H5.out.2.2.2.2.1]; exact hd
          have hT := H5.out.2.2.2.2.2.2
          have hat : 0 ≤ d.at_ ∧ d.at_ ≤ 100000000 := by
            have hk2 : apps s.ls (ds.take j) ≠ none := fun e => by
              have h2 := H5.out.2.2.1
              have e1 : ds = ds.take j ++ ds.drop j := (List.take_append_drop _ _).symm
              rw [e1, apps_app, e] at h2; cases h2
            obtain ⟨l2, hl2⟩ := Option.ne_none_iff_exists'.1 hk2
            obtain ⟨l', hl1, _⟩ := apps_next hd hl2 H5.out.2.2.1
            obtain ⟨i, hi, hin, _⟩ := app1_spl hl1
            have hlen : ∀ (r : Nat) (lr : List ByteArray), r ≤ ds.length → apps s.ls (ds.take r) = some lr → lr.length ≤ 2000 + 2000 * r := by
              intro r
              induction r with
              | zero => intro lr _ h; rw [List.take_zero] at h; cases h; have := HH.out.2.1.ls.2.1; omega
              | succ r ih =>
                intro lr hr h
                obtain ⟨dr, hdr⟩ : ∃ d, ds[r]? = some d := ⟨_, List.getElem?_eq_getElem (by omega)⟩
                rw [take_snoc ds hdr, apps_app] at h
                cases hx2 : apps s.ls (ds.take r) with
                | none => rw [hx2] at h; cases h
                | some l3 =>
                  rw [hx2] at h
                  have h' : (app1 l3 dr).bind (fun l' => apps l' []) = some lr := h
                  cases hx3 : app1 l3 dr with
                  | none => rw [hx3] at h'; cases h'
                  | some l4 =>
                    rw [hx3] at h'; cases h'
                    obtain ⟨i4, _, hin4, rfl⟩ := app1_spl hx3
                    have := ih l3 (by omega) hx2
                    have := (H5.out.2.2.2.1 dr (List.mem_of_getElem? hdr)).2.1
                    rw [spl_len hin4]; omega
            have := hlen j l2 (by rw [H5.out.2.2.2.2.1]; omega) hl2
            omega
          have HP : Hid _ := bputL hb' (show (s.T m'.now).length ≤ 4000 by have := hT.2.1; omega) (n := d.at_ + 1) (by omega)
          have HF : Hid (FK B o o1 w wr ∧ G m' ds ∧ apps s.ls ds = some (s.T m'.now) ∧ (∀ x c, mfT s.mf ds x = some c → 97 ≤ x ∧ x ≤ 122) ∧ ∀ kb' wz, Bf B b o1 (M + 90000 * c) { a with kb := kb' } { s with m := m', T := s.T, ls := s.T m'.now, mf := mfT s.mf ds, cur := putC (d.at_ + 1) (s.T m'.now).length, kf := mfT s.mf ds, kcur := putC (d.at_ + 1) (s.T m'.now).length } wz → Bf B b o1 (M + 90000 * c) { a with kb := kb' } (wyS s m' ds) wz) := ⟨fk, H5.out.2.2.2.2.2.1, H5.out.2.2.1, hmd', fun kb' wz hz => by
            have e : curT s ds (s.T m'.now).length = putC (d.at_ + 1) (s.T m'.now).length := by unfold curT; rw [hlast]
            unfold wyS; rw [e]; exact hz⟩
          obtain ⟨x, hxa⟩ : ∃ x, d.at_ = x := ⟨_, rfl⟩
          rw [hxa] at c0 HP hat
          have HXA : Hid (d.at_ = x) := hxa
          have hk3 : ((j + 1 : Nat) : Int) - 1 = (j : Int) := by omega
          clear HI H5 HH hb fk hx ha hll hls hmb hmd hb' hmd' e2 c1 c2 ro rn hd hlast hT hxa
          go_wp2_with fail
          refine Calls.mono HP.out ?_
          rintro e w6 ⟨rfl, h6, f6⟩
          have HK : Hid _ := keepL h6 HF.out.2.2.2.1
          have H6 : Hid (FK B o o1 w w6) := HF.out.1.trans f6
          clear HP h6 f6 c0
          go_wp2_with fail
          refine Calls.mono HK.out ?_
          rintro e w7 ⟨rfl, kb', h7, f7⟩
          have HZ : Hid (∃ o' kb' m' ds, G m' ds ∧ apps s.ls ds = some (s.T m'.now) ∧ Bf B b o' (M + 90000 * c) { a with kb := kb' } (wyS s m' ds) w7 ∧ FK B o o' w w7) := ⟨o1, kb', m', ds, HF.out.2.1, HF.out.2.2.1, HF.out.2.2.2.2 kb' w7 (by rw [HXA.out]; exact h7), H6.out.trans f7⟩
          clear HK h7 f7 HF
          go_wp2_with fail
          go_ret
          exact ⟨0, rfl, .inr ⟨rfl, by rw [← HU.out]; exact HZ.out⟩⟩
set_option maxHeartbeats 16000000 in
theorem bundo_any (h : Bf B b o M a s w) (f : Fine (s.ls.length : Int) s) (hop : s.op = []) (hc : c ≤ 1000) (hM : M + 90000 * (c + 1) < 280000000) {st : St} (hs : look s.m.L s.m.now = some st) (hN : ∀ x s', look s.m.L x = some s' → s'.by_.length ≤ c) :
    Calls Tryz.prog 16 #[.pointer (some ⟨b, 0, none⟩)] w fun e w' => ∃ err, e = .returned (.int .u16 err) ∧ ((err ≠ 0 ∧ (err = 121 ∧ st.fr = -1) ∧ Bf B b o M a s w' ∧ FK B o o w w') ∨
      (err = 0 ∧ ∃ o' kb' m' ds, (st.fr ≠ -1 ∧ m' = { s.m with now := st.fr } ∧ ds = turnD st.by_) ∧ apps s.ls ds = some (s.T m'.now) ∧ Bf B b o' (M + 90000 * c) { a with kb := kb' } (wyS s m' ds) w' ∧ FK B o o' w w')) := by
  have HT : Hid _ := travel_Undo (E := fun err => err = 121 ∧ st.fr = -1) (G := fun m' ds => st.fr ≠ -1 ∧ m' = { s.m with now := st.fr } ∧ ds = turnD st.by_) h f hop hc hM (fun m' ds ⟨q1, q2, _⟩ => by rw [q2]; exact h.st.inw.inv.fam.from_there hs q1) (fun z kz => undo_lead (h.kp_ kz).st hs hN)
  have c3 := h.box.at (j := 3) rfl
  obtain ⟨u, hu⟩ : ∃ u, a.u = u := ⟨_, rfl⟩
  rw [hu] at HT c3
  rw [hu]
  clear h f hop hs hN hu
  go_enter Tryz.func16, Tryz.ntmps16
  go_wp2_with fail
  refine Calls.mono HT.out ?_
  rintro e w5 ⟨err, rfl, q⟩
  have HX : Hid _ := q
  clear HT q c3
  go_wp2_with fail
  go_ret
  exact ⟨err, rfl, HX.out⟩
set_option maxHeartbeats 16000000 in
theorem bredo_any (h : Bf B b o M a s w) (f : Fine (s.ls.length : Int) s) (hop : s.op = []) (hc : c ≤ 1000) (hM : M + 90000 * (c + 1) < 280000000) {st : St} (hs : look s.m.L s.m.now = some st) (hN : ∀ x s', look s.m.L x = some s' → s'.by_.length ≤ c) :
    Calls Tryz.prog 23 #[.pointer (some ⟨b, 0, none⟩)] w fun e w' => ∃ err, e = .returned (.int .u16 err) ∧ ((err ≠ 0 ∧ (err = 121 ∧ st.on = -1) ∧ Bf B b o M a s w' ∧ FK B o o w w') ∨
      (err = 0 ∧ ∃ o' kb' m' ds, (st.on ≠ -1 ∧ m' = { s.m with now := st.on } ∧ ∃ s', look s.m.L st.on = some s' ∧ ds = s'.by_) ∧ apps s.ls ds = some (s.T m'.now) ∧ Bf B b o' (M + 90000 * c) { a with kb := kb' } (wyS s m' ds) w' ∧ FK B o o' w w')) := by
  have HT : Hid _ := travel_Redo (E := fun err => err = 121 ∧ st.on = -1) (G := fun m' ds => st.on ≠ -1 ∧ m' = { s.m with now := st.on } ∧ ∃ s', look s.m.L st.on = some s' ∧ ds = s'.by_) h f hop hc hM (fun m' ds ⟨q1, q2, _⟩ => by rw [q2]; obtain ⟨s', hs', _⟩ := h.st.inw.inv.fam.on _ _ hs q1; show look s.m.L st.on ≠ none; rw [hs']; simp) (fun z kz => redo_lead (h.kp_ kz).st hs hN)
  have c3 := h.box.at (j := 3) rfl
  obtain ⟨u, hu⟩ : ∃ u, a.u = u := ⟨_, rfl⟩
  rw [hu] at HT c3
  rw [hu]
  clear h f hop hs hN hu
  go_enter Tryz.func23, Tryz.ntmps23
  go_wp2_with fail
  refine Calls.mono HT.out ?_
  rintro e w5 ⟨err, rfl, q⟩
  have HX : Hid _ := q
  clear HT q c3
  go_wp2_with fail
  go_ret
  exact ⟨err, rfl, HX.out⟩
end
end Go.Proofs.YtaefeakmlgjonaaGreat
/- New. -/
namespace Go.Proofs.YtaefeakmlgjonaaGreat
open Go.ChangeShapes Go.WideShapes Go.ChangeAt Go.RowKit Go.Maps Go.MapKept
set_option linter.unusedVariables false
set_option linter.unusedSimpArgs false
set_option maxRecDepth 100000
section
variable {P : Nat → Prop} {B b M mb : Nat} {o : Tz.Own} {w w1 : World} {v : Value} {ls : List ByteArray} {f : Mz.Mf} {c : Int} {x0 x3 x4 x5 x6 : Value}
theorem Sl.liesN (r : Sl P v ls w) : Tz.Lies Tz.nobody w v ls := by
  obtain ⟨a', c, rfl, h1, h2, h3, h4⟩ := r
  refine ⟨a', c, rfl, h1, h2, ?_⟩
  cases hl : ls with
  | nil => exact .inl rfl
  | cons x r =>
    obtain ⟨g, off, e, p, q⟩ := h4 0 x (by rw [hl]; rfl)
    refine .inr ⟨g, off, e, World.block_lt_of_cell? _ _ q, rfl, fun j y hj => ?_⟩
    obtain ⟨g', off', e', _, q'⟩ := h4 j y (by rw [hl]; exact hj)
    rw [e] at e'; cases e'; exact q'
set_option maxHeartbeats 16000000 in
theorem keep0_any (hb : Lc 86 b [x0, .map (some mb), .int .i64 c, x3, x4, x5, x6] w) (hm : Mz.Mp mb (Mz.vals f) w) (hd : ∀ x c, f x = some c → 97 ≤ x ∧ x ≤ 122) : Calls Tryz.prog 44 #[.pointer (some ⟨b, 0, none⟩)] w fun e w' => e = .returned (.tuple #[]) ∧ ∃ b', Lc 86 b [x0, .map (some mb), .int .i64 c, x3, x4, .map (some b'), .int .i64 c] w' ∧ Mz.Mp b' (Mz.vals f) w' ∧ w.heap.size ≤ b' ∧ Fr (On b) w w' := by
  have HC : Hid _ := copied_any hm hd c
  have c1 := hb.at (j := 1) rfl
  have c2 := hb.at (j := 2) rfl
  have HB : Hid (Lc 86 b [x0, .map (some mb), .int .i64 c, x3, x4, x5, x6] w) := hb
  clear hb hm hd
  go_enter Tryz.func44, Tryz.ntmps44
  go_wp2_with fail
  refine Calls.mono HC.out ?_
  rintro e w5 ⟨b', rfl, m5, k5, q5⟩
  have b5 := HB.out.kp k5
  have d5 := b5.at (j := 5) rfl
  have d6 := b5.at (j := 6) rfl
  have e5 := b5.fz 5
  have e6 := b5.fz 6
  have HQ : Hid (∃ b', Lc 86 b [x0, .map (some mb), .int .i64 c, x3, x4, .map (some b'), .int .i64 c] ((w5.setCell ⟨b, 5, none⟩ (.map (some b'))).setCell ⟨b, 6, none⟩ (.int .i64 c)) ∧ Mz.Mp b' (Mz.vals f) ((w5.setCell ⟨b, 5, none⟩ (.map (some b'))).setCell ⟨b, 6, none⟩ (.int .i64 c)) ∧ w.heap.size ≤ b' ∧ Fr (On b) w ((w5.setCell ⟨b, 5, none⟩ (.map (some b'))).setCell ⟨b, 6, none⟩ (.int .i64 c))) :=
    ⟨b', (b5.set 5 _).set 6 _, mp_set (mp_set m5 b5) (b5.set 5 _), q5, (Fr.of_below k5).trans ((fr_set b 5 _ w5).trans (fr_set b 6 _ _))⟩
  have HQ2 : Hid (∃ b'', Lc 86 b [x0, .map (some mb), .int .i64 c, x3, x4, .map (some b''), .int .i64 c] ((w5.setCell ⟨b, 5, none⟩ (.map (some b'))).setCell ⟨b, 6, none⟩ (.int .i64 c)) ∧ Mz.Mp b'' (Mz.vals f) ((w5.setCell ⟨b, 5, none⟩ (.map (some b'))).setCell ⟨b, 6, none⟩ (.int .i64 c)) ∧ w.heap.size ≤ b'' ∧ Fr (On b) w ((w5.setCell ⟨b, 5, none⟩ (.map (some b'))).setCell ⟨b, 6, none⟩ (.int .i64 c))) :=
    ⟨b', (b5.set 5 _).set 6 _, mp_set (mp_set m5 b5) (b5.set 5 _), q5, (Fr.of_below k5).trans ((fr_set b 5 _ w5).trans (fr_set b 6 _ _))⟩
  clear b5 m5 k5 q5 HC HB HQ
  go_wp2_with fail
  go_end0
  exact ⟨rfl, HQ2.out⟩
set_option maxHeartbeats 16000000 in
theorem newText_any (hv : Sl P v ls w) (hl : Ln ls) : Calls Tryz.prog 42 #[v] w fun e w' => ∃ tt mb o, e = .returned (.agg #[.pointer (some ⟨tt, 0, none⟩), .map (some mb), .int .i64 1]) ∧ Tz.Tr o w' tt ls 50000 ∧ OT o w' ∧ (∀ k, k < w.heap.size → o k = .free) ∧ Mz.Mp mb (Mz.vals fun _ => none) w' ∧ w.heap.size ≤ mb ∧ Kp w w' := by
  obtain ⟨va, vc, rfl, _⟩ := hv.form
  obtain ⟨K, hK⟩ : ∃ K, ls.length = K := ⟨_, rfl⟩
  obtain ⟨p, hp⟩ : ∃ p, w.heap.size = p := ⟨_, rfl⟩
  obtain ⟨W1, hW1⟩ : ∃ z, w.alloc (.cells #[.pointer none, .map none, .int .i64 0] 82) = z := ⟨_, rfl⟩
  have k1 : Kp w W1 := by rw [← hW1]; exact kp_alloc _ _
  have z1 : W1.heap.size = p + 1 := by rw [← hW1, alloc_size, hp]
  have b1 : Lc 82 p [.pointer none, .map none, .int .i64 0] W1 := by rw [← hW1, ← hp]; exact Lc.new w [.pointer none, .map none, .int .i64 0] 82
  have hsz := sizes_le hl.2
  have hl1 := hl.1
  have HN : Hid _ := Tz.new_any (hv.kp k1).liesN (by omega) (by omega)
  have HM : Hid (∀ z, Calls Tryz.prog 85 #[] z fun e w' => ∃ t b, e = .returned (.pointer (some ⟨t, 0, none⟩)) ∧ w'.cell? ⟨t, 0, none⟩ = some (.map (some b)) ∧ Mz.Mp b (Mz.vals fun _ => none) w' ∧ Kp z w' ∧ z.heap.size ≤ b) := fun z => (Mz.new_any z).mono (by
    rintro e w' ⟨t, b, rfl, hm, kk, _, hb⟩
    exact ⟨t, b, rfl, hm.box.cell_, hm.map, kk, hb⟩)
  have HB : Hid (Kp w W1 ∧ Lc 82 p [.pointer none, .map none, .int .i64 0] W1 ∧ W1.heap.size = p + 1 ∧ w.heap.size = p ∧ K ≤ 2000 ∧ ls.length = K) := ⟨k1, b1, z1, hp, by omega, hK⟩
  rw [hK] at HN ⊢
  clear hv hl hK k1 b1 hsz hl1
  go_enter Tryz.func42, Tryz.ntmps42
  go_wp2_with fail
  refine Calls.mono HN.out ?_
  rintro e w2 ⟨rfl, hA⟩
  obtain ⟨o, t2, kk2, ot2⟩ := tz_after hA
  have H2 : Hid (Tz.Tr o w2 (p + 1) ls 50000 ∧ OT o w2 ∧ Tz.Keeps Tz.nobody o W1 w2) := ⟨by rw [← HB.out.2.2.1]; obtain ⟨s', vn, vg, d, q1, q2, q3⟩ := t2; exact ⟨s', vn, vg, d, q1, q2, Nat.le_trans q3 (by have := HB.out.2.2.2.2.1; omega)⟩, ot2, kk2⟩
  clear HN hA t2 kk2 ot2
  go_wp2_with fail
  refine Calls.mono (HM.out _) ?_
  rintro e w3 ⟨t', mb, rfl, c3, m3, k3, q3⟩
  have hof : o p = .free := H2.out.2.2.own p HB.out.2.1.lt rfl
  have b2 : Lc 82 p [.pointer none, .map none, .int .i64 0] w2 := HB.out.2.1.heap (H2.out.2.2.block p HB.out.2.1.lt rfl)
  have b3 := b2.kp k3
  have d0 := b3.at (j := 0) rfl
  have d1 := b3.at (j := 1) rfl
  have d2 := b3.at (j := 2) rfl
  have e0 := b3.fz 0
  have e1 := b3.fz 1
  have e2 := b3.fz 2
  have HQ : Hid (Lc 82 p [.pointer (some ⟨p + 1, 0, none⟩), .map (some mb), .int .i64 1] (((w3.setCell ⟨p, 0, none⟩ (.pointer (some ⟨p + 1, 0, none⟩))).setCell ⟨p, 1, none⟩ (.map (some mb))).setCell ⟨p, 2, none⟩ (.int .i64 1)) ∧ ∃ tt mb' o, (p + 1 = tt ∧ mb = mb') ∧ Tz.Tr o (((w3.setCell ⟨p, 0, none⟩ (.pointer (some ⟨p + 1, 0, none⟩))).setCell ⟨p, 1, none⟩ (.map (some mb))).setCell ⟨p, 2, none⟩ (.int .i64 1)) tt ls 50000 ∧ OT o (((w3.setCell ⟨p, 0, none⟩ (.pointer (some ⟨p + 1, 0, none⟩))).setCell ⟨p, 1, none⟩ (.map (some mb))).setCell ⟨p, 2, none⟩ (.int .i64 1)) ∧ (∀ k, k < w.heap.size → o k = .free) ∧ Mz.Mp mb' (Mz.vals fun _ => none) (((w3.setCell ⟨p, 0, none⟩ (.pointer (some ⟨p + 1, 0, none⟩))).setCell ⟨p, 1, none⟩ (.map (some mb))).setCell ⟨p, 2, none⟩ (.int .i64 1)) ∧ w.heap.size ≤ mb' ∧ Kp w (((w3.setCell ⟨p, 0, none⟩ (.pointer (some ⟨p + 1, 0, none⟩))).setCell ⟨p, 1, none⟩ (.map (some mb))).setCell ⟨p, 2, none⟩ (.int .i64 1))) := by
    have s1 := b3.set 0 (.pointer (some ⟨p + 1, 0, none⟩))
    have s2 := s1.set 1 (.map (some mb))
    have k2 : Kp W1 w2 := H2.out.2.2.below (Nat.le_refl _) fun _ _ => rfl
    have hz : ∀ k, o k ≠ .free → (((w3.setCell ⟨p, 0, none⟩ (.pointer (some ⟨p + 1, 0, none⟩))).setCell ⟨p, 1, none⟩ (.map (some mb))).setCell ⟨p, 2, none⟩ (.int .i64 1)).heap[k]? = w2.heap[k]? := fun k hk => by
      have hlt := tz_lt H2.out.1 hk
      have h3 : k < w3.heap.size := Nat.lt_of_lt_of_le hlt k3.size
      have hn : ¬ On p k := fun e => by unfold On at e; rw [e] at hk; exact hk hof
      have f1 := fr_set p 0 (.pointer (some ⟨p + 1, 0, none⟩)) w3
      have f2 := fr_set p 1 (.map (some mb)) (w3.setCell ⟨p, 0, none⟩ (.pointer (some ⟨p + 1, 0, none⟩)))
      have f3 := fr_set p 2 (.int .i64 1) ((w3.setCell ⟨p, 0, none⟩ (.pointer (some ⟨p + 1, 0, none⟩))).setCell ⟨p, 1, none⟩ (.map (some mb)))
      rw [((f1.trans f2).trans f3).block k h3 hn]
      exact k3.block k hlt
    have kf : Kp w (((w3.setCell ⟨p, 0, none⟩ (.pointer (some ⟨p + 1, 0, none⟩))).setCell ⟨p, 1, none⟩ (.map (some mb))).setCell ⟨p, 2, none⟩ (.int .i64 1)) := by
      have hp' := HB.out.2.2.2.1
      exact kp_set (kp_set (kp_set (kp_trans (kp_trans HB.out.1 k2) k3) (by omega) _ _) (by omega) _ _) (by omega) _ _
    refine ⟨s2.set 2 (.int .i64 1), _, _, o, ⟨rfl, rfl⟩, tz_same H2.out.1 ?_ hz, H2.out.2.1.same hz, fun k hk => H2.out.2.2.own k (by have := HB.out.1.size; omega) rfl, mp_set (mp_set (mp_set m3 b3) s1) s2, by have := HB.out.1.size; have := k2.size; omega, kf⟩
    have f1 := fr_set p 0 (.pointer (some ⟨p + 1, 0, none⟩)) w3
    have f2 := fr_set p 1 (.map (some mb)) (w3.setCell ⟨p, 0, none⟩ (.pointer (some ⟨p + 1, 0, none⟩)))
    have f3 := fr_set p 2 (.int .i64 1) ((w3.setCell ⟨p, 0, none⟩ (.pointer (some ⟨p + 1, 0, none⟩))).setCell ⟨p, 1, none⟩ (.map (some mb)))
    exact Nat.le_trans k3.size ((f1.trans f2).trans f3).size
  clear HM H2 HB hof b2 b3 m3 k3 q3
  go_wp2_with fail
  refine bodyPost_ret (results_box1 rfl rfl HQ.out.1 Tryz.underlying82 rfl (by kernel_rfl)) rfl ?_
  obtain ⟨tt, mb', o', ⟨rfl, rfl⟩, q⟩ := HQ.out.2
  exact ⟨_, _, o', rfl, q⟩
end
end Go.Proofs.YtaefeakmlgjonaaGreat
