/- The tree's calls Splice and New. -/
import Derived.Test.YtfnhbjokokjhfabApi1
namespace Go.Proofs.Ytfnhbjokokjhfab
open Go.ChangeShapes Go.WideShapes Go.ChangeAt Go.RowKit
set_option linter.unusedVariables false
/-- The slice 'v' has the lines 'ms', in memory that is no tree's. -/
def Lies (o : Own) (w : World) (v : Value) (ms : List ByteArray) : Prop :=
  ∃ a cap, v = .slice a ms.length cap ∧ ms.length ≤ cap ∧ cap ≤ maxLen ∧ (ms = [] ∨ ∃ b off, a = some ⟨b, off, none⟩ ∧ b < w.heap.size ∧ o b = .free ∧ ∀ (j : Nat) y, ms[j]? = some y → w.cell? ⟨b, off + j, none⟩ = some (.string y))
theorem Lies.keeps {o o' : Own} {w w' : World} {v : Value} {ms : List ByteArray} (h : Lies o w v ms) (k : Keeps o o' w w') : Lies o' w' v ms := by
  obtain ⟨a, cap, h1, h2, h3, h | ⟨b, off, h4, h5, h6, h7⟩⟩ := h
  · exact ⟨a, cap, h1, h2, h3, .inl h⟩
  · refine ⟨a, cap, h1, h2, h3, .inr ⟨b, off, h4, Nat.lt_of_lt_of_le h5 k.size, k.own b h5 h6, fun j y hj => ?_⟩⟩
    have := h7 j y hj
    simp only [World.cell?, k.block b h5 h6] at this ⊢; exact this
theorem Lies.form {o : Own} {w : World} {v : Value} {ms : List ByteArray} (h : Lies o w v ms) : ∃ a cap, v = .slice a ms.length cap ∧ ms.length ≤ cap ∧ cap ≤ maxLen := by
  obtain ⟨a, cap, h1, h2, h3, _⟩ := h
  exact ⟨a, cap, h1, h2, h3⟩
theorem Lies.cell {o : Own} {w : World} {a : Option Addr} {n cap : Nat} {ms : List ByteArray} (h : Lies o w (.slice a n cap) ms) {j : Nat} {y : ByteArray} (hj : ms[j]? = some y) : ∃ b off, a = some ⟨b, off, none⟩ ∧ w.cell? ⟨b, off + j, none⟩ = some (.string y) := by
  obtain ⟨a', cap', h1, h2, h3, h | ⟨b, off, h4, h5, h6, h7⟩⟩ := h
  · subst h; cases hj
  · injection h1 with h1 _ _; exact ⟨b, off, h1.trans h4, h7 j y hj⟩
theorem Lies.own {o o' : Own} {w : World} {v : Value} {ms : List ByteArray} (h : Lies o w v ms) (ho : ∀ b, b < w.heap.size → o b = .free → o' b = .free) : Lies o' w v ms := by
  obtain ⟨a, cap, h1, h2, h3, h | ⟨b, off, h4, h5, h6, h7⟩⟩ := h
  · exact ⟨a, cap, h1, h2, h3, .inl h⟩
  · exact ⟨a, cap, h1, h2, h3, .inr ⟨b, off, h4, h5, ho b h5 h6, h7⟩⟩
theorem lies_nil {o : Own} {w : World} : Lies o w (.slice none 0 0) [] := ⟨none, 0, rfl, by simp, by simp [maxLen], .inl rfl⟩

def mix (ls ms : List ByteArray) (i a b : Nat) : List ByteArray := ls.take i ++ (ms.take a ++ ls.drop b)
section
variable {ls ms : List ByteArray} {i a b : Nat}
theorem mix_len (hi : i ≤ ls.length) (ha : a ≤ ms.length) : (mix ls ms i a b).length = i + a + (ls.length - b) := by simp [mix]; omega
theorem mix_sizes (hb : i ≤ b) : sizes (mix ls ms i a b) ≤ sizes ls + sizes (ms.take a) := by
  simp only [mix, sizes_app]
  have h1 := sizes_cut ls i
  have h2 := sizes_drop (ls.drop i) (b - i)
  rw [List.drop_drop, show i + (b - i) = b by omega] at h2
  omega
theorem mix_set {x : ByteArray} (hi : i ≤ ls.length) (hx : ms[a]? = some x) (hb : b < ls.length) : (mix ls ms i a b).set (i + a) x = mix ls ms i (a + 1) (b + 1) := by
  have ha := (List.getElem?_eq_some_iff.1 hx).1
  have e : ms.take (a + 1) = ms.take a ++ [x] := by
    obtain ⟨_, e⟩ := List.getElem?_eq_some_iff.1 hx
    rw [List.take_succ_eq_append_getElem ha, e]
  have l1 : (ls.take i).length = i := by simp; omega
  have l2 : (ms.take a).length = a := by simp; omega
  simp only [mix]
  rw [List.set_append_right _ _ (by omega), l1, Nat.add_sub_cancel_left, List.set_append_right _ _ (by omega), l2, Nat.sub_self, e, List.drop_eq_getElem_cons hb, List.set_cons_zero]
  simp
theorem mix_del (hi : i ≤ ls.length) (ha : a ≤ ms.length) (hb : b < ls.length) : (mix ls ms i a b).take (i + a) ++ (mix ls ms i a b).drop (i + a + 1) = mix ls ms i a (b + 1) := by
  have l1 : (ls.take i ++ ms.take a).length = i + a := by simp; omega
  simp only [mix]
  rw [← List.append_assoc, ← List.append_assoc, ← l1, List.take_left, List.drop_length_add_append, List.drop_drop]
theorem mix_ins {x : ByteArray} (hi : i ≤ ls.length) (hx : ms[a]? = some x) : (mix ls ms i a b).take (i + a) ++ x :: (mix ls ms i a b).drop (i + a) = mix ls ms i (a + 1) b := by
  have ha := (List.getElem?_eq_some_iff.1 hx).1
  have e : ms.take (a + 1) = ms.take a ++ [x] := by
    obtain ⟨_, e⟩ := List.getElem?_eq_some_iff.1 hx
    rw [List.take_succ_eq_append_getElem ha, e]
  have l1 : (ls.take i ++ ms.take a).length = i + a := by simp; omega
  simp only [mix]
  rw [← List.append_assoc, ← l1, List.take_left, List.drop_left, e]; simp
end
section
variable {o : Own} {w : World} {t m : Nat} {ls ms : List ByteArray}
theorem splice_no (h : Tr o w t ls m) (hl : ls.length < 2 ^ 38) {v : Value} (i n : Int) (hi : -9223372036854775808 ≤ i ∧ i ≤ 9223372036854775807) (hno : ¬ (0 ≤ i ∧ 0 ≤ n ∧ n ≤ (ls.length : Int) - i)) :
    Calls Try.prog 15 #[.pointer (some ⟨t, 0, none⟩), .int .i64 i, .int .i64 n, v] w fun e w' => e = .returned (.bool false) ∧ After o w t ls m w' := by
  have HH := h.has hl i n hi
  rw [show decide (0 ≤ i ∧ 0 ≤ n ∧ n ≤ (ls.length : Int) - i) = false by simpa using hno] at HH
  have HF : Hid (∀ q, After o w t ls m (w.drewN q)) := fun q => After.same h q
  clear h hno
  go_enter Try.func15, Try.ntmps15
  go_wp2_with (go_at_call 28; refine HH.mono ?_; rintro e w1 ⟨rfl, q, rfl⟩)
  go_ret
  exact ⟨rfl, HF.out _⟩
set_option maxHeartbeats 2000000 in
theorem splice_ok (h : Tr o w t ls m) {v : Value} (hv : Lies o w v ms) {i n : Nat} (hin : i + n ≤ ls.length) (hl : ls.length + ms.length < 2 ^ 37) (hm : m + 22 * (n + ms.length) < 70000000) (hb : sizes ls + sizes ms < 2 ^ 62) :
    Calls Try.prog 15 #[.pointer (some ⟨t, 0, none⟩), .int .i64 i, .int .i64 n, v] w fun e w' => e = .returned (.bool true) ∧ After o w t (mix ls ms i ms.length (i + n)) (m + 22 * (n + ms.length)) w' := by
  have HH := h.has (by omega) i n (by omega)
  rw [show decide (0 ≤ (i : Int) ∧ (0 : Int) ≤ n ∧ n ≤ (ls.length : Int) - i) = true by simp; omega] at HH
  obtain ⟨a, cap, rfl, c1, c2⟩ := hv.form
  have HT : Hid (Tr o w t ls m) := h
  have HV : Hid (Lies o w (.slice a ms.length cap) ms) := hv
  have HM : Hid (sizes ls + sizes ms < 2 ^ 62) := hb
  unfold maxLen at c2
  obtain ⟨L, hL⟩ : ∃ L, ms.length = L := ⟨_, rfl⟩
  obtain ⟨K, hK⟩ : ∃ K, ls.length = K := ⟨_, rfl⟩
  have GL : Hid (ms.length = L ∧ ls.length = K) := ⟨hL, hK⟩
  rw [hL] at hl hm c1 HV ⊢
  rw [hK] at hl hin
  clear h hv hb hL hK
  obtain ⟨B, hB⟩ : ∃ B : Nat, B = min n L := ⟨_, rfl⟩
  have hmin : min (n : Int) (L : Int) = (B : Int) := by omega
  have hBn : B ≤ n := by omega
  have hBL : B ≤ L := by omega
  have HB : Hid (B = n ∨ B = L) := by show B = n ∨ B = L; omega
  clear hB
  go_enter Try.func15, Try.ntmps15
  go_wp2_with (go_at_call 28; refine HH.mono ?_; rintro e w1 ⟨rfl, q, rfl⟩)
  go_loopw [23] (fun vi wr => ∃ (k : Nat) (o1 : Own), k ≤ B ∧ vi = .int .i64 k ∧ Tr o1 wr t (mix ls ms i k (i + k)) (m + 22 * k) ∧ Keeps o o1 w wr) (fun vi _ => B - (intOf vi).toNat)
  case atStart => exact ⟨0, o, Nat.zero_le _, rfl, by simpa [mix] using HT.out.drewN q, Keeps.drewN o w q⟩
  case round =>
    obtain ⟨k, o1, hk, rfl, hT1, hK1⟩ := hrel
    by_cases hlt : k < B
    · have hy : ms[k]? = some (ms[k]'(by have := GL.out.1; omega)) := List.getElem?_eq_getElem _
      generalize ms[k]'(by have := GL.out.1; omega) = y at hy
      obtain ⟨b, off, rfl, hcell⟩ := (HV.out.keeps hK1).cell hy
      have HS : Hid (Calls Try.prog 19 #[.pointer (some ⟨t, 0, none⟩), .int .i64 ((i : Int) + (k : Int)), .string y] wr fun e w' => e = .returned (.bool true) ∧ ∃ o2, Tr o2 w' t (mix ls ms i (k + 1) (i + (k + 1))) (m + 22 * (k + 1)) ∧ Keeps o o2 w w') := by
        have hlen : (mix ls ms i k (i + k)).length = K := by rw [mix_len (by rw [GL.out.2]; omega) (by rw [GL.out.1]; omega), GL.out.2]; omega
        have hsz := mix_sizes (ls := ls) (ms := ms) (i := i) (a := k) (b := i + k) (by omega)
        have hs1 := sizes_succ hy
        have hs2 := sizes_take ms (k + 1)
        have hM := HM.out
        have hc := set_ok hT1 (i := i + k) (y := y) (by omega) (by omega) (by omega) (by omega)
        have ek : (((i + k : Nat)) : Int) = (i : Int) + (k : Int) := by omega
        rw [ek, mix_set (by rw [GL.out.2]; omega) hy (by rw [GL.out.2]; omega)] at hc
        refine hc.mono ?_
        rintro e w' ⟨rfl, o2, q1, q2⟩
        exact ⟨rfl, o2, q1.mono (by omega), hK1.trans q2⟩
      clear hT1 hK1 hy HH
      have hd : decide ((k : Int) < (B : Int)) = true := by simp; omega
      have hwr : IntKind.i64.wrap ((i : Int) + (k : Int)) = (i : Int) + (k : Int) := by rw [IntKind.wrap_i64]; omega
      go_wp2_with (go_at_call 19; refine HS.out.mono ?_; rintro e w2 ⟨rfl, HQ⟩)
      go_roundw
      case rel => obtain ⟨o2, q1, q2⟩ := HQ; exact ⟨k + 1, o2, by omega, by go_num, q1, q2⟩
      case measure => simp [intOf]; omega
    · obtain rfl : k = B := by omega
      have hd : decide ((k : Int) < (k : Int)) = false := by simp
      have HT1 : Hid (Tr o1 wr t (mix ls ms i k (i + k)) (m + 22 * k) ∧ Keeps o o1 w wr) := ⟨hT1, hK1⟩
      clear hT1 hK1 HH
      go_wp2_with fail
      go_loopw [39] (fun vi wr2 => ∃ (j : Nat) (o2 : Own), j ≤ n - k ∧ vi = .int .i64 j ∧ Tr o2 wr2 t (mix ls ms i k (i + k + j)) (m + 22 * (k + j)) ∧ Keeps o o2 w wr2) (fun vi _ => n - k - (intOf vi).toNat)
      case atStart => exact ⟨0, o1, Nat.zero_le _, rfl, HT1.out.1, HT1.out.2⟩
      case round =>
        obtain ⟨j, o2, hj, rfl, hT2, hK2⟩ := hrel
        by_cases hlt2 : j < n - k
        · have HS : Hid (Calls Try.prog 17 #[.pointer (some ⟨t, 0, none⟩), .int .i64 ((i : Int) + (k : Int))] wr fun e w' => e = .returned (.bool true) ∧ ∃ o3, Tr o3 w' t (mix ls ms i k (i + k + (j + 1))) (m + 22 * (k + (j + 1))) ∧ Keeps o o3 w w') := by
            have hlen : (mix ls ms i k (i + k + j)).length = K - j := by rw [mix_len (by rw [GL.out.2]; omega) (by rw [GL.out.1]; omega), GL.out.2]; omega
            have hsz := mix_sizes (ls := ls) (ms := ms) (i := i) (a := k) (b := i + k + j) (by omega)
            have hs2 := sizes_take ms k
            have hM := HM.out
            have hc := delete_ok hT2 (i := i + k) (by omega) (by omega) (by omega) (by omega)
            have ek : (((i + k : Nat)) : Int) = (i : Int) + (k : Int) := by omega
            rw [ek, mix_del (by rw [GL.out.2]; omega) (by rw [GL.out.1]; omega) (by rw [GL.out.2]; omega)] at hc
            refine hc.mono ?_
            rintro e w' ⟨rfl, o3, q1, q2⟩
            exact ⟨rfl, o3, q1.mono (by omega), hK2.trans q2⟩
          clear hT2 hK2
          have hd2 : decide ((j : Int) < (n : Int) - (k : Int)) = true := by simp; omega
          have hwr : IntKind.i64.wrap ((i : Int) + (k : Int)) = (i : Int) + (k : Int) := by rw [IntKind.wrap_i64]; omega
          go_wp2_with (go_at_call 17; refine HS.out.mono ?_; rintro e w2 ⟨rfl, HQ⟩)
          go_roundw
          case rel => obtain ⟨o3, q1, q2⟩ := HQ; exact ⟨j + 1, o3, by omega, by go_num, q1, q2⟩
          case measure => simp [intOf]; omega
        · obtain rfl : j = n - k := by omega
          have hd2 : decide ((((n - k : Nat)) : Int) < (n : Int) - (k : Int)) = false := by simp; omega
          have HT2 : Hid (Tr o2 wr t (mix ls ms i k (i + n)) (m + 22 * n) ∧ Keeps o o2 w wr) := by
            have e1 : i + k + (n - k) = i + n := by omega
            have e2 : k + (n - k) = n := by omega
            rw [e1, e2] at hT2; exact ⟨hT2, hK2⟩
          clear hT2 hK2
          by_cases hkL : k < L
          · obtain rfl : k = n := by have := HB.out; omega
            have hy0 : ms[k]? = some (ms[k]'(by have := GL.out.1; omega)) := List.getElem?_eq_getElem _
            obtain ⟨b, off, ha, _⟩ := HV.out.cell hy0
            subst ha
            have hne : ¬ (cap = k) := by omega
            clear hy0
            go_wp2_with fail
            go_loopw [51] (fun vi wr2 => ∃ (j : Nat) (o3 : Own), j ≤ L - k ∧ vi = .int .i64 j ∧ Tr o3 wr2 t (mix ls ms i (k + j) (i + k)) (m + 22 * (k + j)) ∧ Keeps o o3 w wr2) (fun vi _ => L - k - (intOf vi).toNat)
            case atStart => exact ⟨0, o2, Nat.zero_le _, rfl, HT2.out.1, HT2.out.2⟩
            case round =>
              obtain ⟨j, o3, hj, rfl, hT3, hK3⟩ := hrel
              by_cases hlt3 : j < L - k
              · have hy : ms[k + j]? = some (ms[k + j]'(by have := GL.out.1; omega)) := List.getElem?_eq_getElem _
                generalize ms[k + j]'(by have := GL.out.1; omega) = y at hy
                obtain ⟨b', off', hab, hcell⟩ := (HV.out.keeps hK3).cell hy
                cases hab
                rw [← Nat.add_assoc] at hcell
                have HS : Hid (Calls Try.prog 25 #[.pointer (some ⟨t, 0, none⟩), .int .i64 ((i : Int) + (k : Int) + (j : Int)), .string y] wr fun e w' => e = .returned (.bool true) ∧ ∃ o4, Tr o4 w' t (mix ls ms i (k + (j + 1)) (i + k)) (m + 22 * (k + (j + 1))) ∧ Keeps o o4 w w') := by
                  have hlen : (mix ls ms i (k + j) (i + k)).length = K + j := by rw [mix_len (by rw [GL.out.2]; omega) (by rw [GL.out.1]; omega), GL.out.2]; omega
                  have hsz := mix_sizes (ls := ls) (ms := ms) (i := i) (a := k + j) (b := i + k) (by omega)
                  have hs1 := sizes_succ hy
                  have hs2 := sizes_take ms (k + j + 1)
                  have hM := HM.out
                  have hc := insert_ok hT3 (i := i + (k + j)) (y := y) (by omega) (by omega) (by omega) (by omega)
                  have ek : (((i + (k + j) : Nat)) : Int) = (i : Int) + (k : Int) + (j : Int) := by omega
                  rw [ek, mix_ins (by rw [GL.out.2]; omega) hy] at hc
                  refine hc.mono ?_
                  rintro e w' ⟨rfl, o4, q1, q2⟩
                  exact ⟨rfl, o4, q1.mono (by omega), hK3.trans q2⟩
                clear hT3 hK3 hy
                have hd3 : decide ((j : Int) < (((L - k : Nat)) : Int)) = true := by simp; omega
                have hwr : IntKind.i64.wrap ((i : Int) + (k : Int)) = (i : Int) + (k : Int) := by rw [IntKind.wrap_i64]; omega
                have hwr2 : IntKind.i64.wrap ((i : Int) + (k : Int) + (j : Int)) = (i : Int) + (k : Int) + (j : Int) := by rw [IntKind.wrap_i64]; omega
                go_wp2_with (go_at_call 25; refine HS.out.mono ?_; rintro e w2 ⟨rfl, HQ⟩)
                go_roundw
                case rel => obtain ⟨o4, q1, q2⟩ := HQ; exact ⟨j + 1, o4, by omega, by go_num, q1, q2⟩
                case measure => simp [intOf]; omega
              · obtain rfl : j = L - k := by omega
                have hd3 : decide ((((L - k : Nat)) : Int) < (((L - k : Nat)) : Int)) = false := by simp
                have HT3 : Hid (After o w t (mix ls ms i L (i + k)) (m + 22 * (k + L)) wr) := by
                  have e1 : k + (L - k) = L := by omega
                  rw [e1] at hT3; exact ⟨o3, hT3.mono (by omega), hK3⟩
                clear hT3 hK3
                go_wp2_with fail
                go_ret
                exact ⟨rfl, HT3.out⟩
          · obtain rfl : k = L := by omega
            have HT3 : Hid (After o w t (mix ls ms i k (i + n)) (m + 22 * (n + k)) wr) := ⟨o2, HT2.out.1.mono (by omega), HT2.out.2⟩
            go_wp2_with fail
            all_goals
              go_loopw [51] (fun vi wr2 => vi = .int .i64 0 ∧ After o w t (mix ls ms i k (i + n)) (m + 22 * (n + k)) wr2) (fun _ _ => 0)
              case atStart => exact ⟨rfl, HT3.out⟩
              case round =>
                obtain ⟨rfl, hA⟩ := hrel
                have HA : Hid (After o w t (mix ls ms i k (i + n)) (m + 22 * (n + k)) wr) := hA
                clear hA
                go_wp2_with fail
                go_ret
                exact ⟨rfl, HA.out⟩
end
end Go.Proofs.Ytfnhbjokokjhfab
