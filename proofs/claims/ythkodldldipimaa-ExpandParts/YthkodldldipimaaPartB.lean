/- Texts that the proof of the law stands on: XLC, XLS, XF, XH, XLP. -/
import Derived.Test.YthkodldldipimaaPartA
import Derived.Laws.Concat
import Derived.Lib.SmallJoins
import Derived.OpenShut
import Derived.Deep.Slices
/- ExpandCases: the walk. -/
namespace Go.Proofs.Ythkodldldipimaa
open Go.ChangeShapes Go.WideShapes Go.ChangeAt Go.RowKit
set_option linter.unusedVariables false
set_option linter.unusedSimpArgs false
/-- How the law's byte is laid: the case (0 to 3), the place. -/
def caB (h i : Nat) (c : UInt8) : UInt8 := if 1 < h ∨ i = 0 then (if h % 2 = 0 then grB c else smB c) else c
def caL (h : Nat) (s : List UInt8) : List UInt8 := s.mapIdx (caB h)
def caC (h : Nat) : Nat := if h = 0 then 117 else if h = 1 then 108 else if h = 2 then 85 else 76
def caP (h : Nat) (s t : List UInt8) : List Tm := [⟨4, [], 0, caC h⟩, ⟨1, s, 0, 0⟩, ⟨4, [], 0, 69⟩, ⟨1, t, 0, 0⟩]
theorem lay_all (p : Pg) (x : Lt) (h1 : p.nx = x) (h2 : p.al = x) (s : List UInt8) : p.lay s = { p with op := p.op ++ s.map x.ap } := by
  induction s generalizing p with
  | nil => simp [Pg.lay]
  | cons c s ih =>
    show (p.put c).lay s = _
    rw [ih (p.put c) h2 h2]
    simp [Pg.put, h1, h2]
theorem lay_next (p : Pg) (x : Lt) (h1 : p.nx = x) (h2 : p.al = .as) (c : UInt8) (s : List UInt8) : p.lay (c :: s) = { p with nx := .as, op := p.op ++ (x.ap c :: s) } := by
  show (p.put c).lay s = _
  rw [lay_as (p.put c) h2 h2]
  simp [Pg.put, h1, h2]
theorem mapIdx_same (f : Nat → UInt8 → UInt8) (g : UInt8 → UInt8) (h : ∀ i c, f i c = g c) (s : List UInt8) : s.mapIdx f = s.map g := by
  apply List.ext_getElem
  · simp
  · intro i h1 h2; simp [h]
theorem ca_len (h : Nat) (s : List UInt8) : (caL h s).length = s.length := by simp [caL]
theorem ca_get (h : Nat) (s : List UInt8) (i : Nat) : (caL h s)[i]? = s[i]?.map (caB h i) := by simp [caL]
theorem ca_lines {h : Nat} (hh : h < 4) (s t : List UInt8) (m : Mt) : linesF (caP h s t) [] m = [caL h s ++ t] := by
  have key : ∀ p : Pg, (p.say 69).nx = .as ∧ (p.say 69).al = .as := fun p => ⟨rfl, rfl⟩
  have fin : ∀ p : Pg, p.ls = [] → p.op = caL h s → ((p.say 69).lay t).fin.ls = [caL h s ++ t] := fun p h1 h2 => by
    rw [lay_as _ (key p).1 (key p).2]
    simp [Pg.fin, (say_ls p 69).1, (say_ls p 69).2, h1, h2]
  have go : linesF (caP h s t) [] m = ((((pg0.say (caC h)).lay s).say 69).lay t).fin.ls := by
    simp only [linesF, pageF, caP, List.foldl_cons, List.foldl_nil, stepX]
    simp only [show (4 : Nat) = 1 ↔ False by decide, show (4 : Nat) = 2 ↔ False by decide, show (4 : Nat) = 3 ↔ False by decide, if_true, if_false]
  rw [go]
  have : h = 0 ∨ h = 1 ∨ h = 2 ∨ h = 3 := by omega
  rcases this with rfl | rfl | rfl | rfl
  · cases s with
    | nil => exact fin _ rfl rfl
    | cons c s =>
      refine fin _ (by rw [lay_ls]; rfl) ?_
      rw [lay_next _ .gr rfl rfl]
      simp only [caL, List.mapIdx_cons]
      rw [mapIdx_same (fun i => caB 0 (i + 1)) id (fun i c => by simp [caB])]
      simp [caB, pg0, Pg.say, Lt.ap, caC]
  · cases s with
    | nil => exact fin _ rfl rfl
    | cons c s =>
      refine fin _ (by rw [lay_ls]; rfl) ?_
      rw [lay_next _ .sm rfl rfl]
      simp only [caL, List.mapIdx_cons]
      rw [mapIdx_same (fun i => caB 1 (i + 1)) id (fun i c => by simp [caB])]
      simp [caB, pg0, Pg.say, Lt.ap, caC]
  · refine fin _ (by rw [lay_ls]; rfl) ?_
    rw [lay_all _ .gr rfl rfl]
    simp only [caL]
    rw [mapIdx_same (caB 2) grB (fun i c => by simp [caB])]
    simp [pg0, Pg.say, caC]
    exact fun _ _ => rfl
  · refine fin _ (by rw [lay_ls]; rfl) ?_
    rw [lay_all _ .sm rfl rfl]
    simp only [caL]
    rw [mapIdx_same (caB 3) smB (fun i c => by simp [caB])]
    simp [pg0, Pg.say, caC]
    exact fun _ _ => rfl
-- THE WALK
theorem cases_call {h : Nat} (hh : h < 4) (S U : ByteArray) (hS : S.size ≤ 200) (hU : U.size ≤ 200) {R : ByteArray} (hR : ⟨(caL h S.data.toList ++ U.data.toList).toArray⟩ = R) (v : Value) (w : World) (hv : Tms v (caP h S.data.toList U.data.toList) w) :
    Calls Try.prog 9 #[v, .string ⟨#[]⟩, .agg #[.int .i64 0, .int .i64 0, .int .i64 0, .int .i64 0, .int .i64 0, .int .i64 0, .int .i64 0, .int .i64 0, .int .i64 0, .int .i64 0, .int .i64 0, .int .i64 0, .int .i64 0, .int .i64 0, .int .i64 0, .int .i64 0, .int .i64 0, .int .i64 0, .int .i64 0, .int .i64 0, .int .i64 0, .int .i64 0]] w fun e w' => ∃ a n cap, e = .returned (.slice a n cap) ∧ (∃ g, a = some ⟨g, 0, none⟩ ∧ w'.cell? ⟨g, 0, none⟩ = some (.string R)) ∧ 1 = n ∧ n ≤ cap ∧ Kp w w' := by
  have hc : caC h < 256 := by unfold caC; (repeat' split) <;> omega
  refine (lines_sl hv ⟨#[]⟩ ⟨0, 0, zer10, zer10⟩ ⟨rfl, rfl⟩ ⟨?_, by simp, by simp [caP]⟩ (ca_lines hh _ _ _)).mono ?_
  · intro t ht
    simp only [caP, List.mem_cons, List.not_mem_nil, or_false] at ht
    rcases ht with rfl | rfl | rfl | rfl
    · exact ⟨by simp, by simp, hc⟩
    · exact ⟨by simp; omega, by simp, by simp⟩
    · exact ⟨by simp, by simp, by simp⟩
    · exact ⟨by simp; omega, by simp, by simp⟩
  rintro e w' ⟨a, n, cap, rfl, hs, k⟩
  obtain ⟨g, rfl, _, hc⟩ := hs.at_ 0 _ rfl
  rw [hR] at hc
  exact ⟨_, _, _, rfl, ⟨g, rfl, hc⟩, hs.len, hs.le, k⟩
theorem ba_size (l : List UInt8) : (⟨l.toArray⟩ : ByteArray).size = l.length := by simp [ByteArray.size]
theorem ba_get {l : List UInt8} {i : Nat} {c : UInt8} (h : l[i]? = some c) (hi : i < (⟨l.toArray⟩ : ByteArray).size) : (⟨l.toArray⟩ : ByteArray)[i]'hi = c := by
  obtain ⟨h1, h2⟩ := List.getElem?_eq_some_iff.1 h
  show (l.toArray)[i] = c
  simpa using h2
theorem ba_tail (x : List UInt8) (U : ByteArray) {R : ByteArray} (hR : ⟨(x ++ U.data.toList).toArray⟩ = R) {n : Nat} (hn : x.length = n) : R.extract n R.size = U := by
  subst hR hn
  apply ByteArray.ext
  rw [ByteArray.data_extract]
  apply Array.toList_inj.1
  rw [ba_size, Array.toList_extract, List.extract, List.length_append]
  simp only [List.drop_left, List.drop_append, Nat.sub_self, List.drop_length, List.nil_append, List.drop_zero, Nat.add_sub_cancel_left]
  exact List.take_of_length_le (Nat.le_refl _)
set_option maxHeartbeats 4000000 in
set_option maxRecDepth 100000 in
theorem cases_walk0 (S U : ByteArray) (hS : ¬ 200 < S.size) (hU : ¬ 200 < U.size) (q : Nat) (hq : q % 4 = 0) (hq2 : q < 256) (w : World) : Calls Try.prog 7 #[.string S, .string U, .int .u8 q] w fun e w' => e = .returned (.bool true) ∧ Kp w w' := by
  obtain ⟨n, hn⟩ : ∃ n, S.size = n := ⟨_, rfl⟩
  obtain ⟨m, hm⟩ : ∃ m, U.size = m := ⟨_, rfl⟩
  have d1 : decide ((n : Int) > 200) = false := decide_eq_false (by omega)
  have d1' : decide ((200 : Int) < (n : Int)) = false := decide_eq_false (by omega)
  have d2 : decide ((m : Int) > 200) = false := decide_eq_false (by omega)
  have d2' : decide ((200 : Int) < (m : Int)) = false := decide_eq_false (by omega)
  have r1 : (q : Int) % 4 = 0 := by omega
  have r2 : (q : Int).tmod 4 = 0 := by rw [Int.tmod_eq_emod_of_nonneg (by omega)]; exact r1
  have r3 : (q : Int) % 2 = 0 := by omega
  have r4 : (q : Int).tmod 2 = 0 := by rw [Int.tmod_eq_emod_of_nonneg (by omega)]; exact r3
  obtain ⟨R, hR⟩ : ∃ R : ByteArray, (⟨(caL 0 S.data.toList ++ U.data.toList).toArray⟩ : ByteArray) = R := ⟨_, rfl⟩
  have HC : Hid (∀ v w, Tms v (caP 0 S.data.toList U.data.toList) w → Calls Try.prog 9 #[v, .string ⟨#[]⟩, .agg #[.int .i64 0, .int .i64 0, .int .i64 0, .int .i64 0, .int .i64 0, .int .i64 0, .int .i64 0, .int .i64 0, .int .i64 0, .int .i64 0, .int .i64 0, .int .i64 0, .int .i64 0, .int .i64 0, .int .i64 0, .int .i64 0, .int .i64 0, .int .i64 0, .int .i64 0, .int .i64 0, .int .i64 0, .int .i64 0]] w fun e w' => ∃ a n cap, e = .returned (.slice a n cap) ∧ (∃ g, a = some ⟨g, 0, none⟩ ∧ w'.cell? ⟨g, 0, none⟩ = some (.string R)) ∧ 1 = n ∧ n ≤ cap ∧ Kp w w') := fun v w h => cases_call (by decide) S U (by omega) (by omega) hR v w h
  obtain ⟨s2, hs2⟩ : ∃ s2, n + m = s2 := ⟨_, rfl⟩
  have hsum : (n : Int) + (m : Int) = (s2 : Int) := by omega
  have hRs : R.size = s2 := by rw [← hR, ba_size, List.length_append, ca_len]; simp [hn, hm, hs2]
  have HD : Hid (∀ (i : Nat) (h1 : i < S.size) (h2 : i < R.size), (R[i]'h2) = caB 0 i (S[i]'h1)) := by
    intro i h1 h2
    subst hR
    refine ba_get ?_ h2
    rw [List.getElem?_append_left (by rw [ca_len]; simpa using h1), ca_get, List.getElem?_eq_getElem (by simpa using h1)]
    rfl
  have HX : Hid (R.extract n R.size = U) := ba_tail _ U hR (by rw [ca_len]; simpa using hn)
  have hex : R.extract n s2 = U := by have := HX.out; rw [hRs] at this; exact this
  have HR : Hid (R.size = s2 ∧ S.size = n ∧ U.size = m ∧ n ≤ s2) := ⟨hRs, hn, hm, by omega⟩
  have b1 : n ≤ s2 := by omega
  have b2 : s2 ≤ 400 := by omega
  clear hR hS hU hq HX hs2
  go_enter Try.func7, Try.ntmps7
  go_upto_region 3 with (go_at_call 8; refine Calls.mono (oknown_any w) ?_; rintro e w1 ⟨rfl, k1⟩; have HK1 : Hid (Kp w w1) := k1; clear k1)
  have c4 : (w1.alloc (.cells #[.int .u8 117, .int .u8 108, .int .u8 85, .int .u8 76] 5)).cell? ⟨w1.heap.size, 0, none⟩ = some (.int .u8 117) := (Lc.new w1 [.int .u8 117, .int .u8 108, .int .u8 85, .int .u8 76] 5).at rfl
  obtain ⟨W1, hW1⟩ : ∃ W1, w1.alloc (.cells #[.int .u8 117, .int .u8 108, .int .u8 85, .int .u8 76] 5) = W1 := ⟨_, rfl⟩
  have H1 : Hid (Kp w W1) := by rw [← hW1]; exact kp_trans HK1.out (kp_alloc _ _)
  rw [hW1] at c4
  go_upto_region 4 with fail
  clear hW1 c4 HK1
  obtain ⟨p, hp⟩ : ∃ p, W1.heap.size = p := ⟨_, rfl⟩
  obtain ⟨W2, hW2⟩ : ∃ W2, W1.alloc (.cells #[.int .u8 4, .string ⟨#[]⟩, .int .i64 0, .int .u8 117, .int .u8 1, .string S, .int .i64 0, .int .u8 0, .int .u8 4, .string ⟨#[]⟩, .int .i64 0, .int .u8 69, .int .u8 1, .string U, .int .i64 0, .int .u8 0] 29) = W2 := ⟨_, rfl⟩
  have H2 : Hid (Tms (.slice (some ⟨p, 0, none⟩) 4 4) (caP 0 S.data.toList U.data.toList) W2 ∧ Kp w W2) := by
    rw [← hW2, ← hp]
    exact ⟨tms_new (caP 0 S.data.toList U.data.toList) W1 (by simp [caP]), kp_trans H1.out (kp_alloc _ _)⟩
  go_upto_region 5 with (go_at_call 9; refine Calls.mono (HC.out _ _ H2.out.1) ?_; rintro e w5 ⟨a, nn, cap, rfl, ⟨g, rfl, c0⟩, rfl, l1, q2⟩; have H5 : Hid (Kp w w5) := kp_trans H2.out.2 q2; clear q2)
  clear hW2 hp HC H1 H2
  have es : ((s2 : Int) != (s2 : Int)) = false := by simp
  go_wp2_with fail
  go_loopw [9, 10, 11] (fun v9 v10 v11 wr => ∃ i : Nat, i ≤ n ∧ v9 = .int .i64 i ∧ wr = w5) (fun v9 _ _ _ => n - (intOf v9).toNat)
  case atStart => exact ⟨0, Nat.zero_le _, rfl, rfl⟩
  case round =>
    obtain ⟨i, hi, rfl, rfl⟩ := hrel
    by_cases hlt : i < n
    · have dl : decide ((i : Int) < (n : Int)) = true := decide_eq_true (by omega)
      have hil : i < S.size := by rw [HR.out.2.1]; exact hlt
      have hir : i < R.size := by have := HR.out.2.2.2; rw [HR.out.1]; omega
      obtain ⟨c, hc⟩ : ∃ c, S[i]'hil = c := ⟨_, rfl⟩
      obtain ⟨d, hd⟩ : ∃ d, R[i]'hir = d := ⟨_, rfl⟩
      have hcd : d = caB 0 i c := by rw [← hd, ← hc]; exact HD.out i hil hir
      obtain ⟨C, hC⟩ : ∃ C, c.toNat = C := ⟨_, rfl⟩
      obtain ⟨D, hDD⟩ : ∃ D, d.toNat = D := ⟨_, rfl⟩
      have hcc : (S[i]'hil).toNat = C := by rw [hc]; exact hC
      have hdd : (R[i]'hir).toNat = D := by rw [hd]; exact hDD
      have hC256 : C < 256 := by rw [← hC]; exact c.toNat_lt
      clear hc hd
      by_cases h0 : i = 0
      · subst h0
        by_cases ka : C < 97
        · have g1 : decide ((C : Int) ≥ 97) = false := decide_eq_false (by omega)
          have g1' : decide ((97 : Int) ≤ (C : Int)) = false := decide_eq_false (by omega)
          have g2 : decide ((C : Int) ≤ 122) = true := decide_eq_true (by omega)
          have eD : D = C := by rw [← hDD, ← hC, hcd]; simp only [caB, grB]; simp; rw [if_neg (by omega)]
          subst eD
          have ee : ((D : Int) != (D : Int)) = false := by simp
          clear hcd hDD hC
          go_wp2_with fail
          go_roundw
          case rel => exact ⟨1, by omega, by go_num, trivial⟩
          case measure => simp only [intOf]; omega
        by_cases kb : 122 < C
        · have g1 : decide ((C : Int) ≥ 97) = true := decide_eq_true (by omega)
          have g1' : decide ((97 : Int) ≤ (C : Int)) = true := decide_eq_true (by omega)
          have g2 : decide ((C : Int) ≤ 122) = false := decide_eq_false (by omega)
          have eD : D = C := by rw [← hDD, ← hC, hcd]; simp only [caB, grB]; simp; rw [if_neg (by omega)]
          subst eD
          have ee : ((D : Int) != (D : Int)) = false := by simp
          clear hcd hDD hC
          go_wp2_with fail
          go_roundw
          case rel => exact ⟨1, by omega, by go_num, trivial⟩
          case measure => simp only [intOf]; omega
        have g1 : decide ((C : Int) ≥ 97) = true := decide_eq_true (by omega)
        have g1' : decide ((97 : Int) ≤ (C : Int)) = true := decide_eq_true (by omega)
        have g2 : decide ((C : Int) ≤ 122) = true := decide_eq_true (by omega)
        have eD : D = C - 32 := by rw [← hDD, ← hC, hcd]; simp only [caB, grB]; simp; rw [if_pos (by omega), UInt8.toNat_sub_of_le _ _ (by rw [UInt8.le_iff_toNat_le]; show 32 ≤ _; omega)]; rfl
        have hsb : (C : Int) - 32 = (D : Int) := by omega
        have hD2 : D < 256 := by omega
        clear eD
        have ee : ((D : Int) != (D : Int)) = false := by simp
        clear hcd hDD hC
        go_wp2_with fail
        go_roundw
        case rel => exact ⟨1, by omega, by go_num, trivial⟩
        case measure => simp only [intOf]; omega
      have eD : D = C := by rw [← hDD, ← hC, hcd]; simp [caB, h0]
      subst eD
      have hc2 : (decide (i = 0)) = false := decide_eq_false h0
      have hc3 : ((i : Int) == 0) = false := by simp; omega
      clear hcd hDD hC
      have ee : ((D : Int) != (D : Int)) = false := by simp
      go_wp2_with fail
      go_roundw
      case rel => exact ⟨i + 1, by omega, by go_num, trivial⟩
      case measure => simp only [intOf]; omega
    · obtain rfl : i = n := by omega
      have dl : decide ((i : Int) < (i : Int)) = false := by simp
      go_wp2_with fail
      go_ret
      exact ⟨rfl, H5.out⟩
set_option maxHeartbeats 4000000 in
set_option maxRecDepth 100000 in
theorem cases_walk1 (S U : ByteArray) (hS : ¬ 200 < S.size) (hU : ¬ 200 < U.size) (q : Nat) (hq : q % 4 = 1) (hq2 : q < 256) (w : World) : Calls Try.prog 7 #[.string S, .string U, .int .u8 q] w fun e w' => e = .returned (.bool true) ∧ Kp w w' := by
  obtain ⟨n, hn⟩ : ∃ n, S.size = n := ⟨_, rfl⟩
  obtain ⟨m, hm⟩ : ∃ m, U.size = m := ⟨_, rfl⟩
  have d1 : decide ((n : Int) > 200) = false := decide_eq_false (by omega)
  have d1' : decide ((200 : Int) < (n : Int)) = false := decide_eq_false (by omega)
  have d2 : decide ((m : Int) > 200) = false := decide_eq_false (by omega)
  have d2' : decide ((200 : Int) < (m : Int)) = false := decide_eq_false (by omega)
  have r1 : (q : Int) % 4 = 1 := by omega
  have r2 : (q : Int).tmod 4 = 1 := by rw [Int.tmod_eq_emod_of_nonneg (by omega)]; exact r1
  have r3 : (q : Int) % 2 = 1 := by omega
  have r4 : (q : Int).tmod 2 = 1 := by rw [Int.tmod_eq_emod_of_nonneg (by omega)]; exact r3
  obtain ⟨R, hR⟩ : ∃ R : ByteArray, (⟨(caL 1 S.data.toList ++ U.data.toList).toArray⟩ : ByteArray) = R := ⟨_, rfl⟩
  have HC : Hid (∀ v w, Tms v (caP 1 S.data.toList U.data.toList) w → Calls Try.prog 9 #[v, .string ⟨#[]⟩, .agg #[.int .i64 0, .int .i64 0, .int .i64 0, .int .i64 0, .int .i64 0, .int .i64 0, .int .i64 0, .int .i64 0, .int .i64 0, .int .i64 0, .int .i64 0, .int .i64 0, .int .i64 0, .int .i64 0, .int .i64 0, .int .i64 0, .int .i64 0, .int .i64 0, .int .i64 0, .int .i64 0, .int .i64 0, .int .i64 0]] w fun e w' => ∃ a n cap, e = .returned (.slice a n cap) ∧ (∃ g, a = some ⟨g, 0, none⟩ ∧ w'.cell? ⟨g, 0, none⟩ = some (.string R)) ∧ 1 = n ∧ n ≤ cap ∧ Kp w w') := fun v w h => cases_call (by decide) S U (by omega) (by omega) hR v w h
  obtain ⟨s2, hs2⟩ : ∃ s2, n + m = s2 := ⟨_, rfl⟩
  have hsum : (n : Int) + (m : Int) = (s2 : Int) := by omega
  have hRs : R.size = s2 := by rw [← hR, ba_size, List.length_append, ca_len]; simp [hn, hm, hs2]
  have HD : Hid (∀ (i : Nat) (h1 : i < S.size) (h2 : i < R.size), (R[i]'h2) = caB 1 i (S[i]'h1)) := by
    intro i h1 h2
    subst hR
    refine ba_get ?_ h2
    rw [List.getElem?_append_left (by rw [ca_len]; simpa using h1), ca_get, List.getElem?_eq_getElem (by simpa using h1)]
    rfl
  have HX : Hid (R.extract n R.size = U) := ba_tail _ U hR (by rw [ca_len]; simpa using hn)
  have hex : R.extract n s2 = U := by have := HX.out; rw [hRs] at this; exact this
  have HR : Hid (R.size = s2 ∧ S.size = n ∧ U.size = m ∧ n ≤ s2) := ⟨hRs, hn, hm, by omega⟩
  have b1 : n ≤ s2 := by omega
  have b2 : s2 ≤ 400 := by omega
  clear hR hS hU hq HX hs2
  go_enter Try.func7, Try.ntmps7
  go_upto_region 3 with (go_at_call 8; refine Calls.mono (oknown_any w) ?_; rintro e w1 ⟨rfl, k1⟩; have HK1 : Hid (Kp w w1) := k1; clear k1)
  have c4 : (w1.alloc (.cells #[.int .u8 117, .int .u8 108, .int .u8 85, .int .u8 76] 5)).cell? ⟨w1.heap.size, 1, none⟩ = some (.int .u8 108) := (Lc.new w1 [.int .u8 117, .int .u8 108, .int .u8 85, .int .u8 76] 5).at rfl
  obtain ⟨W1, hW1⟩ : ∃ W1, w1.alloc (.cells #[.int .u8 117, .int .u8 108, .int .u8 85, .int .u8 76] 5) = W1 := ⟨_, rfl⟩
  have H1 : Hid (Kp w W1) := by rw [← hW1]; exact kp_trans HK1.out (kp_alloc _ _)
  rw [hW1] at c4
  go_upto_region 4 with fail
  clear hW1 c4 HK1
  obtain ⟨p, hp⟩ : ∃ p, W1.heap.size = p := ⟨_, rfl⟩
  obtain ⟨W2, hW2⟩ : ∃ W2, W1.alloc (.cells #[.int .u8 4, .string ⟨#[]⟩, .int .i64 0, .int .u8 108, .int .u8 1, .string S, .int .i64 0, .int .u8 0, .int .u8 4, .string ⟨#[]⟩, .int .i64 0, .int .u8 69, .int .u8 1, .string U, .int .i64 0, .int .u8 0] 29) = W2 := ⟨_, rfl⟩
  have H2 : Hid (Tms (.slice (some ⟨p, 0, none⟩) 4 4) (caP 1 S.data.toList U.data.toList) W2 ∧ Kp w W2) := by
    rw [← hW2, ← hp]
    exact ⟨tms_new (caP 1 S.data.toList U.data.toList) W1 (by simp [caP]), kp_trans H1.out (kp_alloc _ _)⟩
  go_upto_region 5 with (go_at_call 9; refine Calls.mono (HC.out _ _ H2.out.1) ?_; rintro e w5 ⟨a, nn, cap, rfl, ⟨g, rfl, c0⟩, rfl, l1, q2⟩; have H5 : Hid (Kp w w5) := kp_trans H2.out.2 q2; clear q2)
  clear hW2 hp HC H1 H2
  have es : ((s2 : Int) != (s2 : Int)) = false := by simp
  go_wp2_with fail
  go_loopw [9, 10, 11] (fun v9 v10 v11 wr => ∃ i : Nat, i ≤ n ∧ v9 = .int .i64 i ∧ wr = w5) (fun v9 _ _ _ => n - (intOf v9).toNat)
  case atStart => exact ⟨0, Nat.zero_le _, rfl, rfl⟩
  case round =>
    obtain ⟨i, hi, rfl, rfl⟩ := hrel
    by_cases hlt : i < n
    · have dl : decide ((i : Int) < (n : Int)) = true := decide_eq_true (by omega)
      have hil : i < S.size := by rw [HR.out.2.1]; exact hlt
      have hir : i < R.size := by have := HR.out.2.2.2; rw [HR.out.1]; omega
      obtain ⟨c, hc⟩ : ∃ c, S[i]'hil = c := ⟨_, rfl⟩
      obtain ⟨d, hd⟩ : ∃ d, R[i]'hir = d := ⟨_, rfl⟩
      have hcd : d = caB 1 i c := by rw [← hd, ← hc]; exact HD.out i hil hir
      obtain ⟨C, hC⟩ : ∃ C, c.toNat = C := ⟨_, rfl⟩
      obtain ⟨D, hDD⟩ : ∃ D, d.toNat = D := ⟨_, rfl⟩
      have hcc : (S[i]'hil).toNat = C := by rw [hc]; exact hC
      have hdd : (R[i]'hir).toNat = D := by rw [hd]; exact hDD
      have hC256 : C < 256 := by rw [← hC]; exact c.toNat_lt
      clear hc hd
      by_cases h0 : i = 0
      · subst h0
        by_cases ka : C < 65
        · have g1 : decide ((C : Int) ≥ 65) = false := decide_eq_false (by omega)
          have g1' : decide ((65 : Int) ≤ (C : Int)) = false := decide_eq_false (by omega)
          have g2 : decide ((C : Int) ≤ 90) = true := decide_eq_true (by omega)
          have eD : D = C := by rw [← hDD, ← hC, hcd]; simp only [caB, smB]; simp; rw [if_neg (by omega)]
          subst eD
          have ee : ((D : Int) != (D : Int)) = false := by simp
          clear hcd hDD hC
          go_wp2_with fail
          go_roundw
          case rel => exact ⟨1, by omega, by go_num, trivial⟩
          case measure => simp only [intOf]; omega
        by_cases kb : 90 < C
        · have g1 : decide ((C : Int) ≥ 65) = true := decide_eq_true (by omega)
          have g1' : decide ((65 : Int) ≤ (C : Int)) = true := decide_eq_true (by omega)
          have g2 : decide ((C : Int) ≤ 90) = false := decide_eq_false (by omega)
          have eD : D = C := by rw [← hDD, ← hC, hcd]; simp only [caB, smB]; simp; rw [if_neg (by omega)]
          subst eD
          have ee : ((D : Int) != (D : Int)) = false := by simp
          clear hcd hDD hC
          go_wp2_with fail
          go_roundw
          case rel => exact ⟨1, by omega, by go_num, trivial⟩
          case measure => simp only [intOf]; omega
        have g1 : decide ((C : Int) ≥ 65) = true := decide_eq_true (by omega)
        have g1' : decide ((65 : Int) ≤ (C : Int)) = true := decide_eq_true (by omega)
        have g2 : decide ((C : Int) ≤ 90) = true := decide_eq_true (by omega)
        have eD : D = C + 32 := by rw [← hDD, ← hC, hcd]; simp only [caB, smB]; simp; rw [if_pos (by omega), UInt8.toNat_add]; show (c.toNat + 32) % 256 = _; omega
        have hsb : (C : Int) + 32 = (D : Int) := by omega
        have hD2 : D < 256 := by omega
        have ee : ((D : Int) != (D : Int)) = false := by simp
        clear eD
        clear hcd hDD hC
        go_wp2_with fail
        go_roundw
        case rel => exact ⟨1, by omega, by go_num, trivial⟩
        case measure => simp only [intOf]; omega
      have eD : D = C := by rw [← hDD, ← hC, hcd]; simp [caB, h0]
      subst eD
      have hc2 : (decide (i = 0)) = false := decide_eq_false h0
      have hc3 : ((i : Int) == 0) = false := by simp; omega
      clear hcd hDD hC
      have ee : ((D : Int) != (D : Int)) = false := by simp
      go_wp2_with fail
      go_roundw
      case rel => exact ⟨i + 1, by omega, by go_num, trivial⟩
      case measure => simp only [intOf]; omega
    · obtain rfl : i = n := by omega
      have dl : decide ((i : Int) < (i : Int)) = false := by simp
      go_wp2_with fail
      go_ret
      exact ⟨rfl, H5.out⟩
set_option maxHeartbeats 4000000 in
set_option maxRecDepth 100000 in
theorem cases_walk2 (S U : ByteArray) (hS : ¬ 200 < S.size) (hU : ¬ 200 < U.size) (q : Nat) (hq : q % 4 = 2) (hq2 : q < 256) (w : World) : Calls Try.prog 7 #[.string S, .string U, .int .u8 q] w fun e w' => e = .returned (.bool true) ∧ Kp w w' := by
  obtain ⟨n, hn⟩ : ∃ n, S.size = n := ⟨_, rfl⟩
  obtain ⟨m, hm⟩ : ∃ m, U.size = m := ⟨_, rfl⟩
  have d1 : decide ((n : Int) > 200) = false := decide_eq_false (by omega)
  have d1' : decide ((200 : Int) < (n : Int)) = false := decide_eq_false (by omega)
  have d2 : decide ((m : Int) > 200) = false := decide_eq_false (by omega)
  have d2' : decide ((200 : Int) < (m : Int)) = false := decide_eq_false (by omega)
  have r1 : (q : Int) % 4 = 2 := by omega
  have r2 : (q : Int).tmod 4 = 2 := by rw [Int.tmod_eq_emod_of_nonneg (by omega)]; exact r1
  have r3 : (q : Int) % 2 = 0 := by omega
  have r4 : (q : Int).tmod 2 = 0 := by rw [Int.tmod_eq_emod_of_nonneg (by omega)]; exact r3
  obtain ⟨R, hR⟩ : ∃ R : ByteArray, (⟨(caL 2 S.data.toList ++ U.data.toList).toArray⟩ : ByteArray) = R := ⟨_, rfl⟩
  have HC : Hid (∀ v w, Tms v (caP 2 S.data.toList U.data.toList) w → Calls Try.prog 9 #[v, .string ⟨#[]⟩, .agg #[.int .i64 0, .int .i64 0, .int .i64 0, .int .i64 0, .int .i64 0, .int .i64 0, .int .i64 0, .int .i64 0, .int .i64 0, .int .i64 0, .int .i64 0, .int .i64 0, .int .i64 0, .int .i64 0, .int .i64 0, .int .i64 0, .int .i64 0, .int .i64 0, .int .i64 0, .int .i64 0, .int .i64 0, .int .i64 0]] w fun e w' => ∃ a n cap, e = .returned (.slice a n cap) ∧ (∃ g, a = some ⟨g, 0, none⟩ ∧ w'.cell? ⟨g, 0, none⟩ = some (.string R)) ∧ 1 = n ∧ n ≤ cap ∧ Kp w w') := fun v w h => cases_call (by decide) S U (by omega) (by omega) hR v w h
  obtain ⟨s2, hs2⟩ : ∃ s2, n + m = s2 := ⟨_, rfl⟩
  have hsum : (n : Int) + (m : Int) = (s2 : Int) := by omega
  have hRs : R.size = s2 := by rw [← hR, ba_size, List.length_append, ca_len]; simp [hn, hm, hs2]
  have HD : Hid (∀ (i : Nat) (h1 : i < S.size) (h2 : i < R.size), (R[i]'h2) = caB 2 i (S[i]'h1)) := by
    intro i h1 h2
    subst hR
    refine ba_get ?_ h2
    rw [List.getElem?_append_left (by rw [ca_len]; simpa using h1), ca_get, List.getElem?_eq_getElem (by simpa using h1)]
    rfl
  have HX : Hid (R.extract n R.size = U) := ba_tail _ U hR (by rw [ca_len]; simpa using hn)
  have hex : R.extract n s2 = U := by have := HX.out; rw [hRs] at this; exact this
  have HR : Hid (R.size = s2 ∧ S.size = n ∧ U.size = m ∧ n ≤ s2) := ⟨hRs, hn, hm, by omega⟩
  have b1 : n ≤ s2 := by omega
  have b2 : s2 ≤ 400 := by omega
  clear hR hS hU hq HX hs2
  go_enter Try.func7, Try.ntmps7
  go_upto_region 3 with (go_at_call 8; refine Calls.mono (oknown_any w) ?_; rintro e w1 ⟨rfl, k1⟩; have HK1 : Hid (Kp w w1) := k1; clear k1)
  have c4 : (w1.alloc (.cells #[.int .u8 117, .int .u8 108, .int .u8 85, .int .u8 76] 5)).cell? ⟨w1.heap.size, 2, none⟩ = some (.int .u8 85) := (Lc.new w1 [.int .u8 117, .int .u8 108, .int .u8 85, .int .u8 76] 5).at rfl
  obtain ⟨W1, hW1⟩ : ∃ W1, w1.alloc (.cells #[.int .u8 117, .int .u8 108, .int .u8 85, .int .u8 76] 5) = W1 := ⟨_, rfl⟩
  have H1 : Hid (Kp w W1) := by rw [← hW1]; exact kp_trans HK1.out (kp_alloc _ _)
  rw [hW1] at c4
  go_upto_region 4 with fail
  clear hW1 c4 HK1
  obtain ⟨p, hp⟩ : ∃ p, W1.heap.size = p := ⟨_, rfl⟩
  obtain ⟨W2, hW2⟩ : ∃ W2, W1.alloc (.cells #[.int .u8 4, .string ⟨#[]⟩, .int .i64 0, .int .u8 85, .int .u8 1, .string S, .int .i64 0, .int .u8 0, .int .u8 4, .string ⟨#[]⟩, .int .i64 0, .int .u8 69, .int .u8 1, .string U, .int .i64 0, .int .u8 0] 29) = W2 := ⟨_, rfl⟩
  have H2 : Hid (Tms (.slice (some ⟨p, 0, none⟩) 4 4) (caP 2 S.data.toList U.data.toList) W2 ∧ Kp w W2) := by
    rw [← hW2, ← hp]
    exact ⟨tms_new (caP 2 S.data.toList U.data.toList) W1 (by simp [caP]), kp_trans H1.out (kp_alloc _ _)⟩
  go_upto_region 5 with (go_at_call 9; refine Calls.mono (HC.out _ _ H2.out.1) ?_; rintro e w5 ⟨a, nn, cap, rfl, ⟨g, rfl, c0⟩, rfl, l1, q2⟩; have H5 : Hid (Kp w w5) := kp_trans H2.out.2 q2; clear q2)
  clear hW2 hp HC H1 H2
  have es : ((s2 : Int) != (s2 : Int)) = false := by simp
  go_wp2_with fail
  go_loopw [9, 10, 11] (fun v9 v10 v11 wr => ∃ i : Nat, i ≤ n ∧ v9 = .int .i64 i ∧ wr = w5) (fun v9 _ _ _ => n - (intOf v9).toNat)
  case atStart => exact ⟨0, Nat.zero_le _, rfl, rfl⟩
  case round =>
    obtain ⟨i, hi, rfl, rfl⟩ := hrel
    by_cases hlt : i < n
    · have dl : decide ((i : Int) < (n : Int)) = true := decide_eq_true (by omega)
      have hil : i < S.size := by rw [HR.out.2.1]; exact hlt
      have hir : i < R.size := by have := HR.out.2.2.2; rw [HR.out.1]; omega
      obtain ⟨c, hc⟩ : ∃ c, S[i]'hil = c := ⟨_, rfl⟩
      obtain ⟨d, hd⟩ : ∃ d, R[i]'hir = d := ⟨_, rfl⟩
      have hcd : d = caB 2 i c := by rw [← hd, ← hc]; exact HD.out i hil hir
      obtain ⟨C, hC⟩ : ∃ C, c.toNat = C := ⟨_, rfl⟩
      obtain ⟨D, hDD⟩ : ∃ D, d.toNat = D := ⟨_, rfl⟩
      have hcc : (S[i]'hil).toNat = C := by rw [hc]; exact hC
      have hdd : (R[i]'hir).toNat = D := by rw [hd]; exact hDD
      have hC256 : C < 256 := by rw [← hC]; exact c.toNat_lt
      clear hc hd
      by_cases ka : C < 97
      · have g1 : decide ((C : Int) ≥ 97) = false := decide_eq_false (by omega)
        have g1' : decide ((97 : Int) ≤ (C : Int)) = false := decide_eq_false (by omega)
        have g2 : decide ((C : Int) ≤ 122) = true := decide_eq_true (by omega)
        have eD : D = C := by rw [← hDD, ← hC, hcd]; simp only [caB, grB]; simp; rw [if_neg (by omega)]
        subst eD
        have ee : ((D : Int) != (D : Int)) = false := by simp
        clear hcd hDD hC
        go_wp2_with fail
        go_roundw
        case rel => exact ⟨i + 1, by omega, by go_num, trivial⟩
        case measure => simp only [intOf]; omega
      by_cases kb : 122 < C
      · have g1 : decide ((C : Int) ≥ 97) = true := decide_eq_true (by omega)
        have g1' : decide ((97 : Int) ≤ (C : Int)) = true := decide_eq_true (by omega)
        have g2 : decide ((C : Int) ≤ 122) = false := decide_eq_false (by omega)
        have eD : D = C := by rw [← hDD, ← hC, hcd]; simp only [caB, grB]; simp; rw [if_neg (by omega)]
        subst eD
        have ee : ((D : Int) != (D : Int)) = false := by simp
        clear hcd hDD hC
        go_wp2_with fail
        go_roundw
        case rel => exact ⟨i + 1, by omega, by go_num, trivial⟩
        case measure => simp only [intOf]; omega
      have g1 : decide ((C : Int) ≥ 97) = true := decide_eq_true (by omega)
      have g1' : decide ((97 : Int) ≤ (C : Int)) = true := decide_eq_true (by omega)
      have g2 : decide ((C : Int) ≤ 122) = true := decide_eq_true (by omega)
      have eD : D = C - 32 := by rw [← hDD, ← hC, hcd]; simp only [caB, grB]; simp; rw [if_pos (by omega), UInt8.toNat_sub_of_le _ _ (by rw [UInt8.le_iff_toNat_le]; show 32 ≤ _; omega)]; rfl
      have hsb : (C : Int) - 32 = (D : Int) := by omega
      have hD2 : D < 256 := by omega
      clear eD
      have ee : ((D : Int) != (D : Int)) = false := by simp
      clear hcd hDD hC
      go_wp2_with fail
      go_roundw
      case rel => exact ⟨i + 1, by omega, by go_num, trivial⟩
      case measure => simp only [intOf]; omega
    · obtain rfl : i = n := by omega
      have dl : decide ((i : Int) < (i : Int)) = false := by simp
      go_wp2_with fail
      go_ret
      exact ⟨rfl, H5.out⟩
set_option maxHeartbeats 4000000 in
set_option maxRecDepth 100000 in
theorem cases_walk3 (S U : ByteArray) (hS : ¬ 200 < S.size) (hU : ¬ 200 < U.size) (q : Nat) (hq : q % 4 = 3) (hq2 : q < 256) (w : World) : Calls Try.prog 7 #[.string S, .string U, .int .u8 q] w fun e w' => e = .returned (.bool true) ∧ Kp w w' := by
  obtain ⟨n, hn⟩ : ∃ n, S.size = n := ⟨_, rfl⟩
  obtain ⟨m, hm⟩ : ∃ m, U.size = m := ⟨_, rfl⟩
  have d1 : decide ((n : Int) > 200) = false := decide_eq_false (by omega)
  have d1' : decide ((200 : Int) < (n : Int)) = false := decide_eq_false (by omega)
  have d2 : decide ((m : Int) > 200) = false := decide_eq_false (by omega)
  have d2' : decide ((200 : Int) < (m : Int)) = false := decide_eq_false (by omega)
  have r1 : (q : Int) % 4 = 3 := by omega
  have r2 : (q : Int).tmod 4 = 3 := by rw [Int.tmod_eq_emod_of_nonneg (by omega)]; exact r1
  have r3 : (q : Int) % 2 = 1 := by omega
  have r4 : (q : Int).tmod 2 = 1 := by rw [Int.tmod_eq_emod_of_nonneg (by omega)]; exact r3
  obtain ⟨R, hR⟩ : ∃ R : ByteArray, (⟨(caL 3 S.data.toList ++ U.data.toList).toArray⟩ : ByteArray) = R := ⟨_, rfl⟩
  have HC : Hid (∀ v w, Tms v (caP 3 S.data.toList U.data.toList) w → Calls Try.prog 9 #[v, .string ⟨#[]⟩, .agg #[.int .i64 0, .int .i64 0, .int .i64 0, .int .i64 0, .int .i64 0, .int .i64 0, .int .i64 0, .int .i64 0, .int .i64 0, .int .i64 0, .int .i64 0, .int .i64 0, .int .i64 0, .int .i64 0, .int .i64 0, .int .i64 0, .int .i64 0, .int .i64 0, .int .i64 0, .int .i64 0, .int .i64 0, .int .i64 0]] w fun e w' => ∃ a n cap, e = .returned (.slice a n cap) ∧ (∃ g, a = some ⟨g, 0, none⟩ ∧ w'.cell? ⟨g, 0, none⟩ = some (.string R)) ∧ 1 = n ∧ n ≤ cap ∧ Kp w w') := fun v w h => cases_call (by decide) S U (by omega) (by omega) hR v w h
  obtain ⟨s2, hs2⟩ : ∃ s2, n + m = s2 := ⟨_, rfl⟩
  have hsum : (n : Int) + (m : Int) = (s2 : Int) := by omega
  have hRs : R.size = s2 := by rw [← hR, ba_size, List.length_append, ca_len]; simp [hn, hm, hs2]
  have HD : Hid (∀ (i : Nat) (h1 : i < S.size) (h2 : i < R.size), (R[i]'h2) = caB 3 i (S[i]'h1)) := by
    intro i h1 h2
    subst hR
    refine ba_get ?_ h2
    rw [List.getElem?_append_left (by rw [ca_len]; simpa using h1), ca_get, List.getElem?_eq_getElem (by simpa using h1)]
    rfl
  have HX : Hid (R.extract n R.size = U) := ba_tail _ U hR (by rw [ca_len]; simpa using hn)
  have hex : R.extract n s2 = U := by have := HX.out; rw [hRs] at this; exact this
  have HR : Hid (R.size = s2 ∧ S.size = n ∧ U.size = m ∧ n ≤ s2) := ⟨hRs, hn, hm, by omega⟩
  have b1 : n ≤ s2 := by omega
  have b2 : s2 ≤ 400 := by omega
  clear hR hS hU hq HX hs2
  go_enter Try.func7, Try.ntmps7
  go_upto_region 3 with (go_at_call 8; refine Calls.mono (oknown_any w) ?_; rintro e w1 ⟨rfl, k1⟩; have HK1 : Hid (Kp w w1) := k1; clear k1)
  have c4 : (w1.alloc (.cells #[.int .u8 117, .int .u8 108, .int .u8 85, .int .u8 76] 5)).cell? ⟨w1.heap.size, 3, none⟩ = some (.int .u8 76) := (Lc.new w1 [.int .u8 117, .int .u8 108, .int .u8 85, .int .u8 76] 5).at rfl
  obtain ⟨W1, hW1⟩ : ∃ W1, w1.alloc (.cells #[.int .u8 117, .int .u8 108, .int .u8 85, .int .u8 76] 5) = W1 := ⟨_, rfl⟩
  have H1 : Hid (Kp w W1) := by rw [← hW1]; exact kp_trans HK1.out (kp_alloc _ _)
  rw [hW1] at c4
  go_upto_region 4 with fail
  clear hW1 c4 HK1
  obtain ⟨p, hp⟩ : ∃ p, W1.heap.size = p := ⟨_, rfl⟩
  obtain ⟨W2, hW2⟩ : ∃ W2, W1.alloc (.cells #[.int .u8 4, .string ⟨#[]⟩, .int .i64 0, .int .u8 76, .int .u8 1, .string S, .int .i64 0, .int .u8 0, .int .u8 4, .string ⟨#[]⟩, .int .i64 0, .int .u8 69, .int .u8 1, .string U, .int .i64 0, .int .u8 0] 29) = W2 := ⟨_, rfl⟩
  have H2 : Hid (Tms (.slice (some ⟨p, 0, none⟩) 4 4) (caP 3 S.data.toList U.data.toList) W2 ∧ Kp w W2) := by
    rw [← hW2, ← hp]
    exact ⟨tms_new (caP 3 S.data.toList U.data.toList) W1 (by simp [caP]), kp_trans H1.out (kp_alloc _ _)⟩
  go_upto_region 5 with (go_at_call 9; refine Calls.mono (HC.out _ _ H2.out.1) ?_; rintro e w5 ⟨a, nn, cap, rfl, ⟨g, rfl, c0⟩, rfl, l1, q2⟩; have H5 : Hid (Kp w w5) := kp_trans H2.out.2 q2; clear q2)
  clear hW2 hp HC H1 H2
  have es : ((s2 : Int) != (s2 : Int)) = false := by simp
  go_wp2_with fail
  go_loopw [9, 10, 11] (fun v9 v10 v11 wr => ∃ i : Nat, i ≤ n ∧ v9 = .int .i64 i ∧ wr = w5) (fun v9 _ _ _ => n - (intOf v9).toNat)
  case atStart => exact ⟨0, Nat.zero_le _, rfl, rfl⟩
  case round =>
    obtain ⟨i, hi, rfl, rfl⟩ := hrel
    by_cases hlt : i < n
    · have dl : decide ((i : Int) < (n : Int)) = true := decide_eq_true (by omega)
      have hil : i < S.size := by rw [HR.out.2.1]; exact hlt
      have hir : i < R.size := by have := HR.out.2.2.2; rw [HR.out.1]; omega
      obtain ⟨c, hc⟩ : ∃ c, S[i]'hil = c := ⟨_, rfl⟩
      obtain ⟨d, hd⟩ : ∃ d, R[i]'hir = d := ⟨_, rfl⟩
      have hcd : d = caB 3 i c := by rw [← hd, ← hc]; exact HD.out i hil hir
      obtain ⟨C, hC⟩ : ∃ C, c.toNat = C := ⟨_, rfl⟩
      obtain ⟨D, hDD⟩ : ∃ D, d.toNat = D := ⟨_, rfl⟩
      have hcc : (S[i]'hil).toNat = C := by rw [hc]; exact hC
      have hdd : (R[i]'hir).toNat = D := by rw [hd]; exact hDD
      have hC256 : C < 256 := by rw [← hC]; exact c.toNat_lt
      clear hc hd
      by_cases ka : C < 65
      · have g1 : decide ((C : Int) ≥ 65) = false := decide_eq_false (by omega)
        have g1' : decide ((65 : Int) ≤ (C : Int)) = false := decide_eq_false (by omega)
        have g2 : decide ((C : Int) ≤ 90) = true := decide_eq_true (by omega)
        have eD : D = C := by rw [← hDD, ← hC, hcd]; simp only [caB, smB]; simp; rw [if_neg (by omega)]
        subst eD
        have ee : ((D : Int) != (D : Int)) = false := by simp
        clear hcd hDD hC
        go_wp2_with fail
        go_roundw
        case rel => exact ⟨i + 1, by omega, by go_num, trivial⟩
        case measure => simp only [intOf]; omega
      by_cases kb : 90 < C
      · have g1 : decide ((C : Int) ≥ 65) = true := decide_eq_true (by omega)
        have g1' : decide ((65 : Int) ≤ (C : Int)) = true := decide_eq_true (by omega)
        have g2 : decide ((C : Int) ≤ 90) = false := decide_eq_false (by omega)
        have eD : D = C := by rw [← hDD, ← hC, hcd]; simp only [caB, smB]; simp; rw [if_neg (by omega)]
        subst eD
        have ee : ((D : Int) != (D : Int)) = false := by simp
        clear hcd hDD hC
        go_wp2_with fail
        go_roundw
        case rel => exact ⟨i + 1, by omega, by go_num, trivial⟩
        case measure => simp only [intOf]; omega
      have g1 : decide ((C : Int) ≥ 65) = true := decide_eq_true (by omega)
      have g1' : decide ((65 : Int) ≤ (C : Int)) = true := decide_eq_true (by omega)
      have g2 : decide ((C : Int) ≤ 90) = true := decide_eq_true (by omega)
      have eD : D = C + 32 := by rw [← hDD, ← hC, hcd]; simp only [caB, smB]; simp; rw [if_pos (by omega), UInt8.toNat_add]; show (c.toNat + 32) % 256 = _; omega
      have hsb : (C : Int) + 32 = (D : Int) := by omega
      have hD2 : D < 256 := by omega
      have ee : ((D : Int) != (D : Int)) = false := by simp
      clear eD
      clear hcd hDD hC
      go_wp2_with fail
      go_roundw
      case rel => exact ⟨i + 1, by omega, by go_num, trivial⟩
      case measure => simp only [intOf]; omega
    · obtain rfl : i = n := by omega
      have dl : decide ((i : Int) < (i : Int)) = false := by simp
      go_wp2_with fail
      go_ret
      exact ⟨rfl, H5.out⟩
set_option maxHeartbeats 4000000 in
theorem cases_walk (S U : ByteArray) (q : Nat) (hq : q < 256) (w : World) : Calls Try.prog 7 #[.string S, .string U, .int .u8 q] w fun e w' => e = .returned (.bool true) ∧ Kp w w' := by
  by_cases h1 : 200 < S.size
  · obtain ⟨n, hn⟩ : ∃ n, S.size = n := ⟨_, rfl⟩
    have d1 : decide ((n : Int) > 200) = true := decide_eq_true (by omega)
    have d1' : decide ((200 : Int) < (n : Int)) = true := decide_eq_true (by omega)
    go_enter Try.func7, Try.ntmps7
    go_wp2_with fail
    refine Calls.mono (oknown_any w) ?_
    rintro e w1 ⟨rfl, k1⟩
    go_wp2_with fail
    go_ret
    exact ⟨rfl, k1⟩
  by_cases h2 : 200 < U.size
  · obtain ⟨n, hn⟩ : ∃ n, S.size = n := ⟨_, rfl⟩
    obtain ⟨m, hm⟩ : ∃ m, U.size = m := ⟨_, rfl⟩
    have d1 : decide ((n : Int) > 200) = false := decide_eq_false (by omega)
    have d1' : decide ((200 : Int) < (n : Int)) = false := decide_eq_false (by omega)
    have d2 : decide ((m : Int) > 200) = true := decide_eq_true (by omega)
    have d2' : decide ((200 : Int) < (m : Int)) = true := decide_eq_true (by omega)
    go_enter Try.func7, Try.ntmps7
    go_wp2_with fail
    refine Calls.mono (oknown_any w) ?_
    rintro e w1 ⟨rfl, k1⟩
    go_wp2_with fail
    go_ret
    exact ⟨rfl, k1⟩
  have : q % 4 = 0 ∨ q % 4 = 1 ∨ q % 4 = 2 ∨ q % 4 = 3 := by omega
  rcases this with h | h | h | h
  · exact cases_walk0 S U h1 h2 q h hq w
  · exact cases_walk1 S U h1 h2 q h hq w
  · exact cases_walk2 S U h1 h2 q h hq w
  · exact cases_walk3 S U h1 h2 q h hq w
end Go.Proofs.Ythkodldldipimaa
/- ExpandSplits: the walk. -/
namespace Go.Proofs.Ythkodldldipimaa
open Go.ChangeShapes Go.WideShapes Go.ChangeAt Go.RowKit
set_option linter.unusedVariables false
set_option linter.unusedSimpArgs false
theorem ba_list (S : ByteArray) : (⟨S.data.toList.toArray⟩ : ByteArray) = S := by cases S; simp
theorem infoTm : (Try.prog.info? 29).map (fun i => (i.zero, i.size, i.bytes)) = some (some (.agg #[.int .u8 0, .string ⟨#[]⟩, .int .i64 0, .int .u8 0]), 4, 40) := by kernel_rfl
theorem bel_grown {n0 : Nat} {w w1 : World} {v : Value} {e : TypeId} {size n : Nat} {xs : List Value} (hr : w.ownsRow n0 e size v n xs) (hn : n0 ≤ w.heap.size) (hg : w.grownBy w1 v.ownBlock) : Below n0 w w1 :=
  ⟨hg.os, hg.tape, hg.output, hg.size, fun k hk => hg.block k (by omega) fun e => by have := (hr.lt k e.symm).1; omega⟩
theorem flatT_snoc (l : List Tm) (t : Tm) : flatT (l ++ [t]) = flatT l ++ t.cells := by simp [flatT]
theorem tm_one (t : Tm) : ∀ u ∈ t.cells, u.oneCell' = true := by
  intro u hu
  simp only [Tm.cells, List.mem_cons, List.not_mem_nil, or_false] at hu
  rcases hu with rfl | rfl | rfl | rfl <;> rfl
theorem tm_news (t : Tm) (w : World) : ∀ j u, t.cells[j]? = some u → (w.alloc (.cells t.cells.toArray 29)).cell? ((⟨w.heap.size, 0, none⟩ : Addr).add j) = some u := by
  intro j u h
  rw [addr_add, (Lc.new w t.cells 29).cell]
  exact h
/-- Pieces that the call itself lays in a row. -/
structure Tr (w0 : World) (v : Value) (l : List Tm) (w : World) : Prop where
  row : w.ownsRow w0.heap.size 29 4 v l.length (flatT l)
  kp : Kp w0 w
theorem Tr.kpp {w0 w w1 : World} {v : Value} {l : List Tm} (h : Tr w0 v l w) (k : Kp w w1) : Tr w0 v l w1 := ⟨row_kp h.row k, kp_trans h.kp k⟩
theorem Tr.tms {w0 w : World} {v : Value} {l : List Tm} (h : Tr w0 v l w) : Tms v l w := tms_row rfl h.row
theorem Tr.snoc {w0 w w1 : World} {v v' : Value} {l : List Tm} {t : Tm} (h : Tr w0 v l w) (h1 : w1.ownsRow w0.heap.size 29 4 v' (l.length + 1) (flatT l ++ t.cells)) (hg : w.grownBy w1 v.ownBlock) : Tr w0 v' (l ++ [t]) w1 :=
  ⟨by rw [List.length_append, flatT_snoc]; exact h1, h.kp.trans (bel_grown h.row h.kp.size hg)⟩
def spB (b : Bool) (k : Nat) (s : List UInt8) : List Tm := if b then [⟨3, s, 0, 0⟩, ⟨k, s, 0, 0⟩] else [⟨3, s, 0, 0⟩]
def spP (b : Bool) (k : Nat) (s : List UInt8) : Nat → List Tm
  | 0 => []
  | i + 1 => spP b k s i ++ spB b k s
theorem sp_len (b : Bool) (k : Nat) (s : List UInt8) (i : Nat) : (spP b k s i).length ≤ 2 * i := by
  induction i with
  | zero => simp [spP]
  | succ i ih =>
    have : (spB b k s).length ≤ 2 := by cases b <;> simp [spB]
    simp only [spP, List.length_append]
    omega
theorem sp_mem (b : Bool) (k : Nat) (s : List UInt8) (i : Nat) : ∀ t ∈ spP b k s i, t.tx = s ∧ (t.kd = 3 ∨ t.kd = k) ∧ t.c = 0 := by
  induction i with
  | zero => intro t ht; cases ht
  | succ i ih =>
    intro t ht
    simp only [spP, List.mem_append] at ht
    rcases ht with ht | ht
    · exact ih t ht
    · cases b <;> simp [spB] at ht
      · subst ht; exact ⟨rfl, .inl rfl, rfl⟩
      · rcases ht with rfl | rfl
        · exact ⟨rfl, .inl rfl, rfl⟩
        · exact ⟨rfl, .inr rfl, rfl⟩
theorem sp_page (b : Bool) (k : Nat) (hk : b = true → 4 < k ∨ k = 0) (s line : List UInt8) (m : Mt) (i : Nat) : pageF line m (spP b k s i) = ⟨.as, .as, List.replicate i [], []⟩ := by
  induction i with
  | zero => rfl
  | succ i ih =>
    have e : List.replicate (i + 1) ([] : List UInt8) = List.replicate i [] ++ [[]] := by rw [List.replicate_succ']
    unfold pageF at ih ⊢
    simp only [spP, List.foldl_append, ih]
    cases b with
    | false => rw [e]; rfl
    | true =>
      have hk' := hk rfl
      simp only [spB, if_true, List.foldl_cons, List.foldl_nil]
      rw [e]
      have : ∀ p : Pg, stepX line m p ⟨k, s, 0, 0⟩ = p := fun p => by
        unfold stepX
        rw [if_neg (by show k ≠ 1; omega), if_neg (by show k ≠ 2; omega), if_neg (by show k ≠ 3; omega), if_neg (by show k ≠ 4; omega)]
      rw [this]
      rfl
theorem sp_lines (b : Bool) (k : Nat) (hk : b = true → 4 < k ∨ k = 0) (s line : List UInt8) (m : Mt) (i : Nat) : linesF (spP b k s i) line m = List.replicate (i + 1) [] := by
  unfold linesF
  rw [sp_page b k hk, List.replicate_succ']
  rfl
set_option maxHeartbeats 4000000 in
set_option maxRecDepth 100000 in
theorem splits_big (S : ByteArray) (hS : ¬ 100 < S.size) (q k : Nat) (hq : q < 256) (hk : k < 256) (hb : 4 < k) (w : World) : Calls Try.prog 4 #[.int .u8 q, .int .u8 k, .string S] w fun e w' => e = .returned (.bool true) ∧ Kp w w' := by
  obtain ⟨i9, hi9, z0, z1, z2⟩ := info_parts infoTm
  obtain ⟨n, hn⟩ : ∃ n, S.size = n := ⟨_, rfl⟩
  have d1 : decide ((n : Int) > 100) = false := decide_eq_false (by omega)
  have d1' : decide ((100 : Int) < (n : Int)) = false := decide_eq_false (by omega)
  obtain ⟨N, hN⟩ : ∃ N : Nat, q % 50 = N := ⟨_, rfl⟩
  have r1 : (q : Int) % 50 = (N : Int) := by omega
  have r2 : (q : Int).tmod 50 = (N : Int) := by rw [Int.tmod_eq_emod_of_nonneg (by omega)]; exact r1
  have hN50 : N < 50 := by omega
  have HC : Hid (∀ v w, Tms v (spP true k S.data.toList N) w → Calls Try.prog 9 #[v, .string S, .agg #[.int .i64 0, .int .i64 0, .int .i64 0, .int .i64 0, .int .i64 0, .int .i64 0, .int .i64 0, .int .i64 0, .int .i64 0, .int .i64 0, .int .i64 0, .int .i64 0, .int .i64 0, .int .i64 0, .int .i64 0, .int .i64 0, .int .i64 0, .int .i64 0, .int .i64 0, .int .i64 0, .int .i64 0, .int .i64 0]] w fun e w' => ∃ a n cap, e = .returned (.slice a n cap) ∧ Sl a n cap (List.replicate (N + 1) []) w' ∧ Kp w w') := fun v w h =>
    lines_sl h S ⟨0, 0, zer10, zer10⟩ ⟨rfl, rfl⟩ ⟨fun t ht => by obtain ⟨a, b, c⟩ := sp_mem _ _ _ _ t ht; rw [a, c]; exact ⟨by simp; omega, by rcases b with b | b <;> omega, by omega⟩, by simp; omega, by have := sp_len true k S.data.toList N; omega⟩ (sp_lines true k (by intro q; exact .inl hb) _ _ _ _)
  have HSL : Hid (∀ i, (spP true k S.data.toList i).length ≤ 2 * i) := sp_len _ _ _
  have e1 : decide ((k : Int) > 4) = true := decide_eq_true (by omega)
  have e2 : decide ((4 : Int) < (k : Int)) = true := decide_eq_true (by omega)
  clear hN hS hq hb
  go_enter Try.func4, Try.ntmps4
  go_upto_region 3 with (go_at_call 8; refine Calls.mono (oknown_any w) ?_; rintro e w1 ⟨rfl, k1⟩; have HK1 : Hid (Kp w w1) := k1; clear k1)
  go_wp2_with fail
  go_loopw [7, 8] (fun v7 v8 wr => ∃ (i : Nat) (a : Option Addr) (c : Nat), i ≤ N ∧ v8 = .int .i64 i ∧ v7 = .slice a (spP true k S.data.toList i).length c ∧ Hid (Tr w (.slice a (spP true k S.data.toList i).length c) (spP true k S.data.toList i) wr)) (fun _ v8 _ => N - (intOf v8).toNat)
  case atStart => exact ⟨0, none, 0, Nat.zero_le _, rfl, rfl, ⟨World.ownsRow_nil _ _ _ _, HK1.out⟩⟩
  case round =>
    obtain ⟨i, a, c, hi, rfl, rfl, HI⟩ := hrel
    by_cases hlt : i < N
    · have dl : decide ((i : Int) < (N : Int)) = true := decide_eq_true (by omega)
      have hsl := HSL.out i
      obtain ⟨K, hK⟩ : ∃ K, (spP true k S.data.toList i).length = K := ⟨_, rfl⟩
      have HKL : Hid ((spP true k S.data.toList i).length = K) := hK
      rw [hK] at hsl HI ⊢
      clear hK
      obtain ⟨bt, hbt⟩ : ∃ bt, wr.heap.size = bt := ⟨_, rfl⟩
      obtain ⟨W1, hW1⟩ : ∃ W1, wr.alloc (.cells #[.int .u8 3, .string S, .int .i64 0, .int .u8 0] 29) = W1 := ⟨_, rfl⟩
      have HA : Hid (Tr w (.slice a K c) (spP true k S.data.toList i) W1 ∧ W1.ownsRow w.heap.size 29 4 (.slice a K c) K (flatT (spP true k S.data.toList i)) ∧ (∀ j u, (Tm.cells ⟨3, S.data.toList, 0, 0⟩)[j]? = some u → W1.cell? ((⟨bt, 0, none⟩ : Addr).add j) = some u) ∧ w.heap.size ≤ W1.heap.size ∧ W1.heap.size = bt + 1) := by
        have h1 := HI.out.kpp (kp_alloc wr (.cells #[.int .u8 3, .string S, .int .i64 0, .int .u8 0] 29))
        rw [hW1] at h1
        refine ⟨h1, by have := h1.row; rw [HKL.out] at this; exact this, ?_, h1.kp.size, by rw [← hW1, ← hbt]; exact alloc_size _ _⟩
        rw [← hW1, ← hbt]
        have := tm_news ⟨3, S.data.toList, 0, 0⟩ wr
        simp only [Tm.cells] at this
        rw [ba_list S] at this
        simp only [Tm.cells]
        rw [ba_list S]
        exact this
      go_upto_region 8 with (at_builtin; refine wpList_append_lies _ rfl (.tmp 26) (.tmp 29) 30 rfl w.heap.size 29 i9 _ 4 40 Try.underlying30 hi9 z0 z1 z2 rfl (by decide) (.slice a K c) K (flatT (spP true k S.data.toList i)) rfl HA.out.2.1 ⟨bt, 0, none⟩ 1 1 (Tm.cells ⟨3, S.data.toList, 0, 0⟩) rfl rfl HA.out.2.2.1 (tm_one _) (by omega) (by unfold maxLen; omega) (by omega) HA.out.2.2.2.1 (bt + 1) HA.out.2.2.2.2 ?_; intro g' cap' w2 r1' r2' r3' r4'; have HI2 : Hid (Tr w (.slice (some ⟨g', 0, none⟩) (K + 1) cap') (spP true k S.data.toList i ++ [(⟨3, S.data.toList, 0, 0⟩ : Tm)]) w2) := HA.out.1.snoc (by rw [HKL.out]; exact r1') r2'; clear r1' r2' r3' r4')
      clear HA hW1 hbt HI
      obtain ⟨bt2, hbt2⟩ : ∃ bt2, w2.heap.size = bt2 := ⟨_, rfl⟩
      obtain ⟨W3, hW3⟩ : ∃ W3, w2.alloc (.cells #[.int .u8 k, .string S, .int .i64 0, .int .u8 0] 29) = W3 := ⟨_, rfl⟩
      have HKL2 : Hid ((spP true k S.data.toList i ++ [(⟨3, S.data.toList, 0, 0⟩ : Tm)]).length = K + 1) := by show _ = _; rw [List.length_append, HKL.out]; rfl
      have HA : Hid (Tr w (.slice (some ⟨g', 0, none⟩) (K + 1) cap') (spP true k S.data.toList i ++ [(⟨3, S.data.toList, 0, 0⟩ : Tm)]) W3 ∧ W3.ownsRow w.heap.size 29 4 (.slice (some ⟨g', 0, none⟩) (K + 1) cap') (K + 1) (flatT (spP true k S.data.toList i ++ [(⟨3, S.data.toList, 0, 0⟩ : Tm)])) ∧ (∀ j u, (Tm.cells ⟨k, S.data.toList, 0, 0⟩)[j]? = some u → W3.cell? ((⟨bt2, 0, none⟩ : Addr).add j) = some u) ∧ w.heap.size ≤ W3.heap.size ∧ W3.heap.size = bt2 + 1) := by
        have h1 := HI2.out.kpp (kp_alloc w2 (.cells #[.int .u8 k, .string S, .int .i64 0, .int .u8 0] 29))
        rw [hW3] at h1
        refine ⟨h1, by have := h1.row; rw [HKL2.out] at this; exact this, ?_, h1.kp.size, by rw [← hW3, ← hbt2]; exact alloc_size _ _⟩
        rw [← hW3, ← hbt2]
        have := tm_news ⟨k, S.data.toList, 0, 0⟩ w2
        simp only [Tm.cells] at this
        rw [ba_list S] at this
        simp only [Tm.cells]
        rw [ba_list S]
        exact this
      go_wp2_with (at_builtin; refine wpList_append_lies _ rfl (.tmp 37) (.tmp 41) 30 rfl w.heap.size 29 i9 _ 4 40 Try.underlying30 hi9 z0 z1 z2 rfl (by decide) (.slice (some ⟨g', 0, none⟩) (K + 1) cap') (K + 1) (flatT (spP true k S.data.toList i ++ [(⟨3, S.data.toList, 0, 0⟩ : Tm)])) rfl HA.out.2.1 ⟨bt2, 0, none⟩ 1 1 (Tm.cells ⟨k, S.data.toList, 0, 0⟩) rfl rfl HA.out.2.2.1 (tm_one _) (by omega) (by unfold maxLen; omega) (by omega) HA.out.2.2.2.1 (bt2 + 1) HA.out.2.2.2.2 ?_; intro g2 cap2 w4 r1' r2' r3' r4'; have HI3 : Hid (Tr w (.slice (some ⟨g2, 0, none⟩) (K + 1 + 1) cap2) (spP true k S.data.toList i ++ [(⟨3, S.data.toList, 0, 0⟩ : Tm)] ++ [(⟨k, S.data.toList, 0, 0⟩ : Tm)]) w4) := HA.out.1.snoc (by rw [HKL2.out]; exact r1') r2'; clear r1' r2' r3' r4')
      clear HA hW3 hbt2
      have HP : Hid (spP true k S.data.toList (i + 1) = spP true k S.data.toList i ++ [(⟨3, S.data.toList, 0, 0⟩ : Tm)] ++ [(⟨k, S.data.toList, 0, 0⟩ : Tm)] ∧ (spP true k S.data.toList (i + 1)).length = K + 1 + 1) := ⟨by simp [spP, spB], by simp [spP, spB, HKL.out]⟩
      go_roundw
      case rel => exact ⟨i + 1, some ⟨g2, 0, none⟩, cap2, by omega, by go_num, by rw [HP.out.2], by rw [HP.out.2, HP.out.1]; exact HI3.out⟩
      case measure => simp only [intOf]; omega
    · obtain rfl : i = N := by omega
      have dl : decide ((i : Int) < (i : Int)) = false := by simp
      have hsl := HSL.out i
      obtain ⟨K, hK⟩ : ∃ K, (spP true k S.data.toList i).length = K := ⟨_, rfl⟩
      rw [hK] at hsl HI ⊢
      clear hK
      go_wp2_with fail
      refine Calls.mono (HC.out _ _ HI.out.tms) ?_
      rintro e w3 ⟨a3, n3, c3, rfl, q1, q2⟩
      have H3 : Hid (Kp w w3 ∧ Sl a3 n3 c3 (List.replicate (i + 1) []) w3) := ⟨kp_trans HI.out.kp q2, q1⟩
      have hn3 : i + 1 = n3 := by have := q1.len; rw [List.length_replicate] at this; exact this
      subst hn3
      have le3 := q1.le
      have cp3 := q1.cap
      unfold maxLen at cp3
      clear q1 q2
      go_wp2_with fail
      clear HI HC
      go_loopw [10] (fun v10 wr2 => ∃ (j : Nat), j ≤ i + 1 ∧ v10 = .int .i64 j ∧ wr2 = w3) (fun v10 _ => (i + 1) - (intOf v10).toNat)
      case atStart => exact ⟨0, Nat.zero_le _, rfl, rfl⟩
      case round =>
        obtain ⟨j, hj, rfl, rfl⟩ := hrel
        by_cases hjl : j < i + 1
        · have dj : decide ((j : Int) < (i : Int) + 1) = true := decide_eq_true (by omega)
          have dj' : decide ((j : Int) < ((i + 1 : Nat) : Int)) = true := decide_eq_true (by omega)
          obtain ⟨g, rfl, _, cj⟩ := H3.out.2.at_ j [] (by rw [List.getElem?_replicate, if_pos hjl])
          go_wp2_with fail
          go_roundw
          case rel => exact ⟨j + 1, by omega, by go_num, trivial⟩
          case measure => simp only [intOf]; omega
        · obtain rfl : j = i + 1 := by omega
          have dj : decide (((i + 1 : Nat) : Int) < (i : Int) + 1) = false := decide_eq_false (by omega)
          have dj' : decide (((i + 1 : Nat) : Int) < ((i + 1 : Nat) : Int)) = false := decide_eq_false (by omega)
          have dj2 : decide ((i : Int) + 1 < (i : Int) + 1) = false := decide_eq_false (by omega)
          go_wp2_with fail
          go_ret
          exact ⟨rfl, H3.out.1⟩
set_option maxHeartbeats 4000000 in
set_option maxRecDepth 100000 in
theorem splits_none (S : ByteArray) (hS : ¬ 100 < S.size) (q k : Nat) (hq : q < 256) (hk : k < 256) (hb : ¬ (4 < k ∨ k = 0)) (w : World) : Calls Try.prog 4 #[.int .u8 q, .int .u8 k, .string S] w fun e w' => e = .returned (.bool true) ∧ Kp w w' := by
  obtain ⟨i9, hi9, z0, z1, z2⟩ := info_parts infoTm
  obtain ⟨n, hn⟩ : ∃ n, S.size = n := ⟨_, rfl⟩
  have d1 : decide ((n : Int) > 100) = false := decide_eq_false (by omega)
  have d1' : decide ((100 : Int) < (n : Int)) = false := decide_eq_false (by omega)
  obtain ⟨N, hN⟩ : ∃ N : Nat, q % 50 = N := ⟨_, rfl⟩
  have r1 : (q : Int) % 50 = (N : Int) := by omega
  have r2 : (q : Int).tmod 50 = (N : Int) := by rw [Int.tmod_eq_emod_of_nonneg (by omega)]; exact r1
  have hN50 : N < 50 := by omega
  have HC : Hid (∀ v w, Tms v (spP false k S.data.toList N) w → Calls Try.prog 9 #[v, .string S, .agg #[.int .i64 0, .int .i64 0, .int .i64 0, .int .i64 0, .int .i64 0, .int .i64 0, .int .i64 0, .int .i64 0, .int .i64 0, .int .i64 0, .int .i64 0, .int .i64 0, .int .i64 0, .int .i64 0, .int .i64 0, .int .i64 0, .int .i64 0, .int .i64 0, .int .i64 0, .int .i64 0, .int .i64 0, .int .i64 0]] w fun e w' => ∃ a n cap, e = .returned (.slice a n cap) ∧ Sl a n cap (List.replicate (N + 1) []) w' ∧ Kp w w') := fun v w h =>
    lines_sl h S ⟨0, 0, zer10, zer10⟩ ⟨rfl, rfl⟩ ⟨fun t ht => by obtain ⟨a, b, c⟩ := sp_mem _ _ _ _ t ht; rw [a, c]; exact ⟨by simp; omega, by rcases b with b | b <;> omega, by omega⟩, by simp; omega, by have := sp_len false k S.data.toList N; omega⟩ (sp_lines false k (by intro q; cases q) _ _ _ _)
  have HSL : Hid (∀ i, (spP false k S.data.toList i).length ≤ 2 * i) := sp_len _ _ _
  have e1 : decide ((k : Int) > 4) = false := decide_eq_false (by omega)
  have e2 : decide ((4 : Int) < (k : Int)) = false := decide_eq_false (by omega)
  have e3 : ((k : Int) == 0) = false := by simp; omega
  clear hN hS hq hb
  go_enter Try.func4, Try.ntmps4
  go_upto_region 3 with (go_at_call 8; refine Calls.mono (oknown_any w) ?_; rintro e w1 ⟨rfl, k1⟩; have HK1 : Hid (Kp w w1) := k1; clear k1)
  go_wp2_with fail
  go_loopw [7, 8] (fun v7 v8 wr => ∃ (i : Nat) (a : Option Addr) (c : Nat), i ≤ N ∧ v8 = .int .i64 i ∧ v7 = .slice a (spP false k S.data.toList i).length c ∧ Hid (Tr w (.slice a (spP false k S.data.toList i).length c) (spP false k S.data.toList i) wr)) (fun _ v8 _ => N - (intOf v8).toNat)
  case atStart => exact ⟨0, none, 0, Nat.zero_le _, rfl, rfl, ⟨World.ownsRow_nil _ _ _ _, HK1.out⟩⟩
  case round =>
    obtain ⟨i, a, c, hi, rfl, rfl, HI⟩ := hrel
    by_cases hlt : i < N
    · have dl : decide ((i : Int) < (N : Int)) = true := decide_eq_true (by omega)
      have hsl := HSL.out i
      obtain ⟨K, hK⟩ : ∃ K, (spP false k S.data.toList i).length = K := ⟨_, rfl⟩
      have HKL : Hid ((spP false k S.data.toList i).length = K) := hK
      rw [hK] at hsl HI ⊢
      clear hK
      obtain ⟨bt, hbt⟩ : ∃ bt, wr.heap.size = bt := ⟨_, rfl⟩
      obtain ⟨W1, hW1⟩ : ∃ W1, wr.alloc (.cells #[.int .u8 3, .string S, .int .i64 0, .int .u8 0] 29) = W1 := ⟨_, rfl⟩
      have HA : Hid (Tr w (.slice a K c) (spP false k S.data.toList i) W1 ∧ W1.ownsRow w.heap.size 29 4 (.slice a K c) K (flatT (spP false k S.data.toList i)) ∧ (∀ j u, (Tm.cells ⟨3, S.data.toList, 0, 0⟩)[j]? = some u → W1.cell? ((⟨bt, 0, none⟩ : Addr).add j) = some u) ∧ w.heap.size ≤ W1.heap.size ∧ W1.heap.size = bt + 1) := by
        have h1 := HI.out.kpp (kp_alloc wr (.cells #[.int .u8 3, .string S, .int .i64 0, .int .u8 0] 29))
        rw [hW1] at h1
        refine ⟨h1, by have := h1.row; rw [HKL.out] at this; exact this, ?_, h1.kp.size, by rw [← hW1, ← hbt]; exact alloc_size _ _⟩
        rw [← hW1, ← hbt]
        have := tm_news ⟨3, S.data.toList, 0, 0⟩ wr
        simp only [Tm.cells] at this
        rw [ba_list S] at this
        simp only [Tm.cells]
        rw [ba_list S]
        exact this
      go_upto_region 8 with (at_builtin; refine wpList_append_lies _ rfl (.tmp 26) (.tmp 29) 30 rfl w.heap.size 29 i9 _ 4 40 Try.underlying30 hi9 z0 z1 z2 rfl (by decide) (.slice a K c) K (flatT (spP false k S.data.toList i)) rfl HA.out.2.1 ⟨bt, 0, none⟩ 1 1 (Tm.cells ⟨3, S.data.toList, 0, 0⟩) rfl rfl HA.out.2.2.1 (tm_one _) (by omega) (by unfold maxLen; omega) (by omega) HA.out.2.2.2.1 (bt + 1) HA.out.2.2.2.2 ?_; intro g' cap' w2 r1' r2' r3' r4'; have HI2 : Hid (Tr w (.slice (some ⟨g', 0, none⟩) (K + 1) cap') (spP false k S.data.toList i ++ [(⟨3, S.data.toList, 0, 0⟩ : Tm)]) w2) := HA.out.1.snoc (by rw [HKL.out]; exact r1') r2'; clear r1' r2' r3' r4')
      clear HA hW1 hbt HI
      have HP : Hid (spP false k S.data.toList (i + 1) = spP false k S.data.toList i ++ [(⟨3, S.data.toList, 0, 0⟩ : Tm)] ∧ (spP false k S.data.toList (i + 1)).length = K + 1) := ⟨by simp [spP, spB], by simp [spP, spB, HKL.out]⟩
      go_wp2_with fail
      go_roundw
      case rel => exact ⟨i + 1, some ⟨g', 0, none⟩, cap', by omega, by go_num, by rw [HP.out.2], by rw [HP.out.2, HP.out.1]; exact HI2.out⟩
      case measure => simp only [intOf]; omega
    · obtain rfl : i = N := by omega
      have dl : decide ((i : Int) < (i : Int)) = false := by simp
      have hsl := HSL.out i
      obtain ⟨K, hK⟩ : ∃ K, (spP false k S.data.toList i).length = K := ⟨_, rfl⟩
      rw [hK] at hsl HI ⊢
      clear hK
      go_wp2_with fail
      refine Calls.mono (HC.out _ _ HI.out.tms) ?_
      rintro e w3 ⟨a3, n3, c3, rfl, q1, q2⟩
      have H3 : Hid (Kp w w3 ∧ Sl a3 n3 c3 (List.replicate (i + 1) []) w3) := ⟨kp_trans HI.out.kp q2, q1⟩
      have hn3 : i + 1 = n3 := by have := q1.len; rw [List.length_replicate] at this; exact this
      subst hn3
      have le3 := q1.le
      have cp3 := q1.cap
      unfold maxLen at cp3
      clear q1 q2
      go_wp2_with fail
      clear HI HC
      go_loopw [10] (fun v10 wr2 => ∃ (j : Nat), j ≤ i + 1 ∧ v10 = .int .i64 j ∧ wr2 = w3) (fun v10 _ => (i + 1) - (intOf v10).toNat)
      case atStart => exact ⟨0, Nat.zero_le _, rfl, rfl⟩
      case round =>
        obtain ⟨j, hj, rfl, rfl⟩ := hrel
        by_cases hjl : j < i + 1
        · have dj : decide ((j : Int) < (i : Int) + 1) = true := decide_eq_true (by omega)
          have dj' : decide ((j : Int) < ((i + 1 : Nat) : Int)) = true := decide_eq_true (by omega)
          obtain ⟨g, rfl, _, cj⟩ := H3.out.2.at_ j [] (by rw [List.getElem?_replicate, if_pos hjl])
          go_wp2_with fail
          go_roundw
          case rel => exact ⟨j + 1, by omega, by go_num, trivial⟩
          case measure => simp only [intOf]; omega
        · obtain rfl : j = i + 1 := by omega
          have dj : decide (((i + 1 : Nat) : Int) < (i : Int) + 1) = false := decide_eq_false (by omega)
          have dj' : decide (((i + 1 : Nat) : Int) < ((i + 1 : Nat) : Int)) = false := decide_eq_false (by omega)
          have dj2 : decide ((i : Int) + 1 < (i : Int) + 1) = false := decide_eq_false (by omega)
          go_wp2_with fail
          go_ret
          exact ⟨rfl, H3.out.1⟩
set_option maxHeartbeats 4000000 in
set_option maxRecDepth 100000 in
theorem splits_zero (S : ByteArray) (hS : ¬ 100 < S.size) (q k : Nat) (hq : q < 256) (hk : k < 256) (hb : k = 0) (w : World) : Calls Try.prog 4 #[.int .u8 q, .int .u8 k, .string S] w fun e w' => e = .returned (.bool true) ∧ Kp w w' := by
  subst hb
  obtain ⟨i9, hi9, z0, z1, z2⟩ := info_parts infoTm
  obtain ⟨n, hn⟩ : ∃ n, S.size = n := ⟨_, rfl⟩
  have d1 : decide ((n : Int) > 100) = false := decide_eq_false (by omega)
  have d1' : decide ((100 : Int) < (n : Int)) = false := decide_eq_false (by omega)
  obtain ⟨N, hN⟩ : ∃ N : Nat, q % 50 = N := ⟨_, rfl⟩
  have r1 : (q : Int) % 50 = (N : Int) := by omega
  have r2 : (q : Int).tmod 50 = (N : Int) := by rw [Int.tmod_eq_emod_of_nonneg (by omega)]; exact r1
  have hN50 : N < 50 := by omega
  have HC : Hid (∀ v w, Tms v (spP true 0 S.data.toList N) w → Calls Try.prog 9 #[v, .string S, .agg #[.int .i64 0, .int .i64 0, .int .i64 0, .int .i64 0, .int .i64 0, .int .i64 0, .int .i64 0, .int .i64 0, .int .i64 0, .int .i64 0, .int .i64 0, .int .i64 0, .int .i64 0, .int .i64 0, .int .i64 0, .int .i64 0, .int .i64 0, .int .i64 0, .int .i64 0, .int .i64 0, .int .i64 0, .int .i64 0]] w fun e w' => ∃ a n cap, e = .returned (.slice a n cap) ∧ Sl a n cap (List.replicate (N + 1) []) w' ∧ Kp w w') := fun v w h =>
    lines_sl h S ⟨0, 0, zer10, zer10⟩ ⟨rfl, rfl⟩ ⟨fun t ht => by obtain ⟨a, b, c⟩ := sp_mem _ _ _ _ t ht; rw [a, c]; exact ⟨by simp; omega, by rcases b with b | b <;> omega, by omega⟩, by simp; omega, by have := sp_len true 0 S.data.toList N; omega⟩ (sp_lines true 0 (by intro q; exact .inr rfl) _ _ _ _)
  have HSL : Hid (∀ i, (spP true 0 S.data.toList i).length ≤ 2 * i) := sp_len _ _ _
  clear hN hS hq
  go_enter Try.func4, Try.ntmps4
  go_upto_region 3 with (go_at_call 8; refine Calls.mono (oknown_any w) ?_; rintro e w1 ⟨rfl, k1⟩; have HK1 : Hid (Kp w w1) := k1; clear k1)
  go_wp2_with fail
  go_loopw [7, 8] (fun v7 v8 wr => ∃ (i : Nat) (a : Option Addr) (c : Nat), i ≤ N ∧ v8 = .int .i64 i ∧ v7 = .slice a (spP true 0 S.data.toList i).length c ∧ Hid (Tr w (.slice a (spP true 0 S.data.toList i).length c) (spP true 0 S.data.toList i) wr)) (fun _ v8 _ => N - (intOf v8).toNat)
  case atStart => exact ⟨0, none, 0, Nat.zero_le _, rfl, rfl, ⟨World.ownsRow_nil _ _ _ _, HK1.out⟩⟩
  case round =>
    obtain ⟨i, a, c, hi, rfl, rfl, HI⟩ := hrel
    by_cases hlt : i < N
    · have dl : decide ((i : Int) < (N : Int)) = true := decide_eq_true (by omega)
      have hsl := HSL.out i
      obtain ⟨K, hK⟩ : ∃ K, (spP true 0 S.data.toList i).length = K := ⟨_, rfl⟩
      have HKL : Hid ((spP true 0 S.data.toList i).length = K) := hK
      rw [hK] at hsl HI ⊢
      clear hK
      obtain ⟨bt, hbt⟩ : ∃ bt, wr.heap.size = bt := ⟨_, rfl⟩
      obtain ⟨W1, hW1⟩ : ∃ W1, wr.alloc (.cells #[.int .u8 3, .string S, .int .i64 0, .int .u8 0] 29) = W1 := ⟨_, rfl⟩
      have HA : Hid (Tr w (.slice a K c) (spP true 0 S.data.toList i) W1 ∧ W1.ownsRow w.heap.size 29 4 (.slice a K c) K (flatT (spP true 0 S.data.toList i)) ∧ (∀ j u, (Tm.cells ⟨3, S.data.toList, 0, 0⟩)[j]? = some u → W1.cell? ((⟨bt, 0, none⟩ : Addr).add j) = some u) ∧ w.heap.size ≤ W1.heap.size ∧ W1.heap.size = bt + 1) := by
        have h1 := HI.out.kpp (kp_alloc wr (.cells #[.int .u8 3, .string S, .int .i64 0, .int .u8 0] 29))
        rw [hW1] at h1
        refine ⟨h1, by have := h1.row; rw [HKL.out] at this; exact this, ?_, h1.kp.size, by rw [← hW1, ← hbt]; exact alloc_size _ _⟩
        rw [← hW1, ← hbt]
        have := tm_news ⟨3, S.data.toList, 0, 0⟩ wr
        simp only [Tm.cells] at this
        rw [ba_list S] at this
        simp only [Tm.cells]
        rw [ba_list S]
        exact this
      go_upto_region 8 with (at_builtin; refine wpList_append_lies _ rfl (.tmp 26) (.tmp 29) 30 rfl w.heap.size 29 i9 _ 4 40 Try.underlying30 hi9 z0 z1 z2 rfl (by decide) (.slice a K c) K (flatT (spP true 0 S.data.toList i)) rfl HA.out.2.1 ⟨bt, 0, none⟩ 1 1 (Tm.cells ⟨3, S.data.toList, 0, 0⟩) rfl rfl HA.out.2.2.1 (tm_one _) (by omega) (by unfold maxLen; omega) (by omega) HA.out.2.2.2.1 (bt + 1) HA.out.2.2.2.2 ?_; intro g' cap' w2 r1' r2' r3' r4'; have HI2 : Hid (Tr w (.slice (some ⟨g', 0, none⟩) (K + 1) cap') (spP true 0 S.data.toList i ++ [(⟨3, S.data.toList, 0, 0⟩ : Tm)]) w2) := HA.out.1.snoc (by rw [HKL.out]; exact r1') r2'; clear r1' r2' r3' r4')
      clear HA hW1 hbt HI
      obtain ⟨bt2, hbt2⟩ : ∃ bt2, w2.heap.size = bt2 := ⟨_, rfl⟩
      obtain ⟨W3, hW3⟩ : ∃ W3, w2.alloc (.cells #[.int .u8 0, .string S, .int .i64 0, .int .u8 0] 29) = W3 := ⟨_, rfl⟩
      have HKL2 : Hid ((spP true 0 S.data.toList i ++ [(⟨3, S.data.toList, 0, 0⟩ : Tm)]).length = K + 1) := by show _ = _; rw [List.length_append, HKL.out]; rfl
      have HA : Hid (Tr w (.slice (some ⟨g', 0, none⟩) (K + 1) cap') (spP true 0 S.data.toList i ++ [(⟨3, S.data.toList, 0, 0⟩ : Tm)]) W3 ∧ W3.ownsRow w.heap.size 29 4 (.slice (some ⟨g', 0, none⟩) (K + 1) cap') (K + 1) (flatT (spP true 0 S.data.toList i ++ [(⟨3, S.data.toList, 0, 0⟩ : Tm)])) ∧ (∀ j u, (Tm.cells ⟨0, S.data.toList, 0, 0⟩)[j]? = some u → W3.cell? ((⟨bt2, 0, none⟩ : Addr).add j) = some u) ∧ w.heap.size ≤ W3.heap.size ∧ W3.heap.size = bt2 + 1) := by
        have h1 := HI2.out.kpp (kp_alloc w2 (.cells #[.int .u8 0, .string S, .int .i64 0, .int .u8 0] 29))
        rw [hW3] at h1
        refine ⟨h1, by have := h1.row; rw [HKL2.out] at this; exact this, ?_, h1.kp.size, by rw [← hW3, ← hbt2]; exact alloc_size _ _⟩
        rw [← hW3, ← hbt2]
        have := tm_news ⟨0, S.data.toList, 0, 0⟩ w2
        simp only [Tm.cells] at this
        rw [ba_list S] at this
        simp only [Tm.cells]
        rw [ba_list S]
        exact this
      go_wp2_with (at_builtin; refine wpList_append_lies _ rfl (.tmp 37) (.tmp 41) 30 rfl w.heap.size 29 i9 _ 4 40 Try.underlying30 hi9 z0 z1 z2 rfl (by decide) (.slice (some ⟨g', 0, none⟩) (K + 1) cap') (K + 1) (flatT (spP true 0 S.data.toList i ++ [(⟨3, S.data.toList, 0, 0⟩ : Tm)])) rfl HA.out.2.1 ⟨bt2, 0, none⟩ 1 1 (Tm.cells ⟨0, S.data.toList, 0, 0⟩) rfl rfl HA.out.2.2.1 (tm_one _) (by omega) (by unfold maxLen; omega) (by omega) HA.out.2.2.2.1 (bt2 + 1) HA.out.2.2.2.2 ?_; intro g2 cap2 w4 r1' r2' r3' r4'; have HI3 : Hid (Tr w (.slice (some ⟨g2, 0, none⟩) (K + 1 + 1) cap2) (spP true 0 S.data.toList i ++ [(⟨3, S.data.toList, 0, 0⟩ : Tm)] ++ [(⟨0, S.data.toList, 0, 0⟩ : Tm)]) w4) := HA.out.1.snoc (by rw [HKL2.out]; exact r1') r2'; clear r1' r2' r3' r4')
      clear HA hW3 hbt2
      have HP : Hid (spP true 0 S.data.toList (i + 1) = spP true 0 S.data.toList i ++ [(⟨3, S.data.toList, 0, 0⟩ : Tm)] ++ [(⟨0, S.data.toList, 0, 0⟩ : Tm)] ∧ (spP true 0 S.data.toList (i + 1)).length = K + 1 + 1) := ⟨by simp [spP, spB], by simp [spP, spB, HKL.out]⟩
      go_roundw
      case rel => exact ⟨i + 1, some ⟨g2, 0, none⟩, cap2, by omega, by go_num, by rw [HP.out.2], by rw [HP.out.2, HP.out.1]; exact HI3.out⟩
      case measure => simp only [intOf]; omega
    · obtain rfl : i = N := by omega
      have dl : decide ((i : Int) < (i : Int)) = false := by simp
      have hsl := HSL.out i
      obtain ⟨K, hK⟩ : ∃ K, (spP true 0 S.data.toList i).length = K := ⟨_, rfl⟩
      rw [hK] at hsl HI ⊢
      clear hK
      go_wp2_with fail
      refine Calls.mono (HC.out _ _ HI.out.tms) ?_
      rintro e w3 ⟨a3, n3, c3, rfl, q1, q2⟩
      have H3 : Hid (Kp w w3 ∧ Sl a3 n3 c3 (List.replicate (i + 1) []) w3) := ⟨kp_trans HI.out.kp q2, q1⟩
      have hn3 : i + 1 = n3 := by have := q1.len; rw [List.length_replicate] at this; exact this
      subst hn3
      have le3 := q1.le
      have cp3 := q1.cap
      unfold maxLen at cp3
      clear q1 q2
      go_wp2_with fail
      clear HI HC
      go_loopw [10] (fun v10 wr2 => ∃ (j : Nat), j ≤ i + 1 ∧ v10 = .int .i64 j ∧ wr2 = w3) (fun v10 _ => (i + 1) - (intOf v10).toNat)
      case atStart => exact ⟨0, Nat.zero_le _, rfl, rfl⟩
      case round =>
        obtain ⟨j, hj, rfl, rfl⟩ := hrel
        by_cases hjl : j < i + 1
        · have dj : decide ((j : Int) < (i : Int) + 1) = true := decide_eq_true (by omega)
          have dj' : decide ((j : Int) < ((i + 1 : Nat) : Int)) = true := decide_eq_true (by omega)
          obtain ⟨g, rfl, _, cj⟩ := H3.out.2.at_ j [] (by rw [List.getElem?_replicate, if_pos hjl])
          go_wp2_with fail
          go_roundw
          case rel => exact ⟨j + 1, by omega, by go_num, trivial⟩
          case measure => simp only [intOf]; omega
        · obtain rfl : j = i + 1 := by omega
          have dj : decide (((i + 1 : Nat) : Int) < (i : Int) + 1) = false := decide_eq_false (by omega)
          have dj' : decide (((i + 1 : Nat) : Int) < ((i + 1 : Nat) : Int)) = false := decide_eq_false (by omega)
          have dj2 : decide ((i : Int) + 1 < (i : Int) + 1) = false := decide_eq_false (by omega)
          go_wp2_with fail
          go_ret
          exact ⟨rfl, H3.out.1⟩
set_option maxHeartbeats 4000000 in
theorem splits_walk (q : Nat) (hq : q < 256) (k : Nat) (hk : k < 256) (S : ByteArray) (w : World) : Calls Try.prog 4 #[.int .u8 q, .int .u8 k, .string S] w fun e w' => e = .returned (.bool true) ∧ Kp w w' := by
  by_cases h1 : 100 < S.size
  · obtain ⟨n, hn⟩ : ∃ n, S.size = n := ⟨_, rfl⟩
    have d1 : decide ((n : Int) > 100) = true := decide_eq_true (by omega)
    have d1' : decide ((100 : Int) < (n : Int)) = true := decide_eq_true (by omega)
    go_enter Try.func4, Try.ntmps4
    go_wp2_with fail
    refine Calls.mono (oknown_any w) ?_
    rintro e w1 ⟨rfl, k1⟩
    go_wp2_with fail
    go_ret
    exact ⟨rfl, k1⟩
  by_cases h2 : 4 < k
  · exact splits_big S h1 q k hq hk h2 w
  by_cases h3 : k = 0
  · exact splits_zero S h1 q k hq hk h3 w
  · exact splits_none S h1 q k hq hk (by omega) w
end Go.Proofs.Ythkodldldipimaa
/- Pieces and a match that are handed in. -/
namespace Go.Proofs.Ythkodldldipimaa
open Go.ChangeShapes Go.WideShapes Go.ChangeAt Go.RowKit
set_option linter.unusedVariables false
set_option linter.unusedSimpArgs false
set_option maxRecDepth 100000
structure TmOk (t : Tm) : Prop where
  kd : t.kd < 256
  c : t.c < 256
theorem fU8 {a : Int} (w : (Lit.int .u8 a).wf = true) : 0 ≤ a ∧ a < 256 := by
  have h : (decide (IntKind.u8.min ≤ a) && decide (a ≤ IntKind.u8.max)) = true := w
  rw [Bool.and_eq_true, decide_eq_true_eq, decide_eq_true_eq] at h
  have e1 : IntKind.u8.min = 0 := by decide
  have e2 : IntKind.u8.max = 255 := by decide
  omega
theorem underTm : (Try.prog.underlying 29).map (fun | .struct fs => fs.toList.map (fun f => (f.type, f.offset)) | _ => []) = some [(5, 0), (9, 1), (3, 2), (5, 3)] := by kernel_rfl
theorem underMt : (Try.prog.underlying 25).map (fun | .struct fs => fs.toList.map (fun f => (f.type, f.offset)) | _ => []) = some [(3, 0), (3, 1), (23, 2), (23, 12)] := by kernel_rfl
theorem underA10 : Try.prog.underlying 23 = some (.array 10 3) := by kernel_rfl
theorem cTm : Try.prog.cellsOf 29 = 4 := by kernel_rfl
theorem cMt : Try.prog.cellsOf 25 = 22 := by kernel_rfl
theorem cUB : Try.prog.cellsOf 5 = 1 := by kernel_rfl
theorem cInt : Try.prog.cellsOf 3 = 1 := by kernel_rfl
theorem cStr : Try.prog.cellsOf 9 = 1 := by kernel_rfl
theorem cA10 : Try.prog.cellsOf 23 = 10 := by kernel_rfl
theorem weights_mem {H : Type} {P : Program} {e : TypeId} {ds : List (DataW H)} {d : DataW H} {n : Nat} (hd : d ∈ ds) (hn : n ∈ d.weights P e) : n ∈ DataW.weightsAll P e ds := by
  induction ds with
  | nil => cases hd
  | cons a r ih =>
    simp only [DataW.weightsAll, List.mem_append]
    rcases List.mem_cons.1 hd with rfl | hd
    · exact .inl hn
    · exact .inr (ih hd)
theorem weights_all {H : Type} {P : Program} {ts : List TypeId} {ds : List (DataW H)} (h : (DataW.weightsEach P ts ds).all (· ≤ reachBytes) = true) {j : Nat} {t : TypeId} {d : DataW H} (ht : ts[j]? = some t) (hd : ds[j]? = some d) : ∀ n ∈ d.weights P t, n ≤ reachBytes := fun n hn => by
  have := List.all_eq_true.1 h _ (DataW.weights_mem_each ht hd n hn)
  simpa using this
theorem str_sized {H : Type} {bs : ByteArray} (h : ∀ n ∈ (DataW.lit (.string bs.data.toList) : DataW H).weights Try.prog 9, n ≤ reachBytes) : bs.size ≤ reachBytes := by
  refine h _ ?_
  simp only [DataW.weights, List.mem_singleton]
  show bs.data.size = _
  rw [Array.length_toList]
theorem tm_cells {H : Type} {enc : TypeId × Value → H} {W : World} {fuel : Nat} {cs : List Value} {x : DataW H × List MemPlace} (h : DataW.trod enc Try.prog W 0 (fun _ => true) true fuel 29 cs = some x) :
    ∃ t : Tm, cs = t.cells ∧ TmOk t ∧ ((∀ n ∈ x.1.weights Try.prog 29, n ≤ reachBytes) → t.tx.length ≤ reachBytes) := by
  have hu := underTm
  rw [Option.map_eq_some_iff] at hu
  obtain ⟨ty, hty, hfs⟩ := hu
  match ty, hty, hfs with
  | .struct fs, hty, hfs =>
    simp only at hfs
    obtain ⟨xs, n, _, rfl, hcl, hxl, hf⟩ := DataW.trod_struct hty h
    rw [cTm] at hcl
    match cs, hcl with
    | [k0, k1, k2, k3], _ =>
      obtain ⟨fl⟩ := fs
      match fl, hfs with
      | [f0, f1, f2, f3], hfs =>
        simp only [List.map_cons, List.map_nil, List.cons.injEq, Prod.mk.injEq, and_true] at hfs
        obtain ⟨⟨t0, o0⟩, ⟨t1, o1⟩, ⟨t2, o2⟩, ⟨t3, o3⟩⟩ := hfs
        match xs, hxl with
        | [y0, y1, y2, y3], _ =>
          have g0 := hf 0 f0 rfl
          have g1 := hf 1 f1 rfl
          have g2 := hf 2 f2 rfl
          have g3 := hf 3 f3 rfl
          rw [t0, o0, cUB] at g0
          rw [t1, o1, cStr] at g1
          rw [t2, o2, cInt] at g2
          rw [t3, o3, cUB] at g3
          obtain ⟨a0, e0, r0, w0⟩ := DataW.trod_int Try.underlying5 g0
          obtain ⟨a1, e1, r1, w1⟩ := DataW.trod_string Try.underlying9 g1
          obtain ⟨a2, e2, r2, w2⟩ := DataW.trod_int Try.underlying3 g2
          obtain ⟨a3, e3, r3, w3⟩ := DataW.trod_int Try.underlying5 g3
          simp at e0 e1 e2 e3
          have u0 := fU8 w0
          have u3 := fU8 w3
          refine ⟨⟨a0.toNat, a1.data.toList, a2, a3.toNat⟩, ?_, ⟨by show a0.toNat < 256; omega, by show a3.toNat < 256; omega⟩, fun hw => ?_⟩
          · simp only [Tm.cells, Int.toNat_of_nonneg u0.1, Int.toNat_of_nonneg u3.1]
            rw [e0, e1, e2, e3]
          · have hw' : ∀ n ∈ (DataW.agg [y0.1, y1.1, y2.1, y3.1] : DataW H).weights Try.prog 29, n ≤ reachBytes := hw
            simp only [DataW.weights, hty, List.map_cons, List.map_nil, DataW.weightsEach, List.mem_append, t0, t1, t2, t3] at hw'
            have := str_sized (H := H) (bs := a1) (fun m hm => hw' m (by rw [r1]; exact .inr (.inl hm)))
            simpa using this
theorem tms_form {H : Type} {enc : TypeId × Value → H} {W : World} {base : Nat} {v : Value} {d : DataW H} {p : List MemPlace} (hval : Value.okWide Try.prog W .any base 30 v) (h : DataW.Trod enc Try.prog W 0 (fun _ => true) true 30 v d p) :
    ∃ l : List Tm, Tms v l W ∧ (∀ t ∈ l, TmOk t) ∧ ((∀ n ∈ d.weights Try.prog 30, n ≤ reachBytes) → ∀ t ∈ l, t.tx.length ≤ reachBytes) := by
  obtain ⟨a0, len0, cap0, rfl⟩ := okWide_slice Try.underlying30 hval
  obtain ⟨fuel, hf⟩ := h
  rcases Deep.open_slice Try.underlying30 hf with ⟨hcs, hx⟩ | ⟨a, len, cap, m, n, D, Pl, hcs, _, hl, hm, hmm, hx, hcell⟩
  · simp [Value.cells] at hcs
    obtain ⟨rfl, rfl, rfl⟩ := hcs
    exact ⟨[], ⟨none, 0, rfl, by simp, by simp [maxLen], fun i t hi => by cases hi⟩, (fun t ht => by cases ht), (fun _ t ht => by cases ht)⟩
  · simp [Value.cells] at hcs
    obtain ⟨rfl, rfl, rfl⟩ := hcs
    simp only [if_true] at hmm
    subst hmm
    simp only [Prod.mk.injEq] at hx
    rw [cTm] at hcell
    have each : ∀ i, i < m → ∃ t : Tm, (∀ j, j < 4 → W.cell? ((a.add (i * 4)).add j) = t.cells[j]?) ∧ TmOk t ∧ ((∀ n ∈ (D i).weights Try.prog 29, n ≤ reachBytes) → t.tx.length ≤ reachBytes) := fun i hi => by
      obtain ⟨cs', h1, h2⟩ := hcell i hi
      obtain ⟨t, e, r1, r2⟩ := tm_cells h2
      obtain ⟨_, hlen, hc⟩ := World.cells?_some h1
      refine ⟨t, fun j hj => ?_, r1, r2⟩
      rw [hc j hj, e]
    haveI : Inhabited Tm := ⟨⟨0, [], 0, 0⟩⟩
    obtain ⟨F, hF⟩ := Deep.choose_lt each
    have hspot : 0 < m → a.spot = none := fun h0 => by
      have := (hF 0 h0).1 0 (by omega)
      have e : (F 0).cells[0]? = some (.int .u8 (F 0).kd) := rfl
      rw [e] at this
      simpa [Addr.add] using World.cell?_spot this
    refine ⟨(List.range len0).map F, ⟨some a, m, by simp, by simpa using hl, hm, fun i t hi => ?_⟩, fun t ht => ?_, fun hw t ht => ?_⟩
    · simp only [List.getElem?_map, Option.map_eq_some_iff] at hi
      obtain ⟨k, hk, rfl⟩ := hi
      obtain ⟨hlt, hk⟩ := List.getElem?_eq_some_iff.1 hk
      simp at hk hlt
      subst hk
      obtain ⟨b, off, spot⟩ := a
      have hs : spot = none := hspot (by omega)
      subst hs
      have hc : ∀ j, j < 4 → W.cell? ⟨b, off + i * 4 + j, none⟩ = (F i).cells[j]? := fun j hj => by
        have := (hF i (by omega)).1 j hj
        rw [Addr.add_lit, Addr.add_lit] at this
        exact this
      exact ⟨b, off, rfl, World.block_lt_of_cell? _ _ (hc 0 (by omega)), hc⟩
    · obtain ⟨k, hk, rfl⟩ := List.mem_map.1 ht
      rw [List.mem_range] at hk
      exact (hF k (by omega)).2.1
    · obtain ⟨k, hk, rfl⟩ := List.mem_map.1 ht
      have hk' : k < len0 := by simpa using hk
      refine (hF k (by omega)).2.2 fun n hn => ?_
      rw [hx.1] at hw
      refine hw n ?_
      simp only [DataW.weights, Try.underlying30]
      exact List.mem_cons_of_mem _ (List.mem_append_left _ (weights_mem (List.mem_map.2 ⟨k, hk, rfl⟩) hn))
theorem ints_of {c : List Value} (hl : c.length = 10) (h : ∀ i, i < 10 → ∃ b : Int, (c.drop (i * 1)).take 1 = [.int .i64 b]) : ∃ l : List Int, c = nums l ∧ l.length = 10 := by
  haveI : Inhabited Int := ⟨0⟩
  obtain ⟨F, hF⟩ := Deep.choose_lt h
  refine ⟨(List.range 10).map F, ?_, by simp⟩
  apply List.ext_getElem?
  intro i
  by_cases hi : i < 10
  · have := hF i hi
    rw [Nat.mul_one] at this
    have e : c[i]? = some (.int .i64 (F i)) := by
      have q : ((c.drop i).take 1)[0]? = some (.int .i64 (F i)) := by rw [this]; rfl
      simpa [List.getElem?_take, List.getElem?_drop] using q
    rw [e]
    simp [nums, hi]
  · rw [List.getElem?_eq_none (by omega), List.getElem?_eq_none (by simp [nums]; omega)]
theorem match_form {H : Type} {enc : TypeId × Value → H} {W : World} {base : Nat} {v : Value} {d : DataW H} {p : List MemPlace} (hval : Value.okWide Try.prog W .any base 25 v) (h : DataW.Trod enc Try.prog W 0 (fun _ => true) true 25 v d p) :
    ∃ m : Mt, v = .agg m.cells.toArray ∧ m.fit := by
  have hu := underMt
  rw [Option.map_eq_some_iff] at hu
  obtain ⟨ty, hty, hfs⟩ := hu
  match ty, hty, hfs with
  | .struct fs, hty, hfs =>
    simp only at hfs
    obtain ⟨cs, rfl, hsz⟩ := okWide_struct hty hval
    obtain ⟨fuel, hf0⟩ := h
    obtain ⟨xs, n, _, _, hcl, hxl, hf⟩ := DataW.trod_struct hty hf0
    obtain ⟨cl⟩ := cs
    rw [cMt] at hcl
    have hcl' : cl.length = 22 := hcl
    obtain ⟨fl⟩ := fs
    match fl, hfs with
    | [f0, f1, f2, f3], hfs =>
      simp only [List.map_cons, List.map_nil, List.cons.injEq, Prod.mk.injEq, and_true] at hfs
      obtain ⟨⟨t0, o0⟩, ⟨t1, o1⟩, ⟨t2, o2⟩, ⟨t3, o3⟩⟩ := hfs
      match xs, hxl with
      | [y0, y1, y2, y3], _ =>
        have g0 := hf 0 f0 rfl
        have g1 := hf 1 f1 rfl
        have g2 := hf 2 f2 rfl
        have g3 := hf 3 f3 rfl
        rw [t0, o0, cInt] at g0
        rw [t1, o1, cInt] at g1
        rw [t2, o2, cA10] at g2
        rw [t3, o3, cA10] at g3
        obtain ⟨a0, e0, _, _⟩ := DataW.trod_int Try.underlying3 g0
        obtain ⟨a1, e1, _, _⟩ := DataW.trod_int Try.underlying3 g1
        obtain ⟨zs, m2, _, _, _, hzl, hz⟩ := DataW.trod_array underA10 g2
        obtain ⟨zs', m3, _, _, _, hzl', hz'⟩ := DataW.trod_array underA10 g3
        have e0' : (cl.drop 0).take 1 = [.int .i64 a0] := e0
        have e1' : (cl.drop 1).take 1 = [.int .i64 a1] := e1
        obtain ⟨bg, hb, hbl⟩ := ints_of (c := (cl.drop 2).take 10) (by simp; omega) fun i hi => by
          have q := hz i hi
          rw [cInt] at q
          have hlt : i < zs.length := by omega
          rw [List.getElem?_eq_getElem hlt] at q
          obtain ⟨b, e, _, _⟩ := DataW.trod_int Try.underlying3 q
          exact ⟨b, e⟩
        obtain ⟨ed, he, hel⟩ := ints_of (c := (cl.drop 12).take 10) (by simp; omega) fun i hi => by
          have q := hz' i hi
          rw [cInt] at q
          have hlt : i < zs'.length := by omega
          rw [List.getElem?_eq_getElem hlt] at q
          obtain ⟨b, e, _, _⟩ := DataW.trod_int Try.underlying3 q
          exact ⟨b, e⟩
        refine ⟨⟨a0, a1, bg, ed⟩, ?_, hbl, hel⟩
        congr 2
        show cl = Value.int .i64 a0 :: Value.int .i64 a1 :: (nums bg ++ nums ed)
        rw [← hb, ← he]
        have s0 : cl = (cl.drop 0).take 1 ++ ((cl.drop 1).take 1 ++ ((cl.drop 2).take 10 ++ (cl.drop 12).take 10)) := by
          rw [List.take_of_length_le (l := cl.drop 12) (by simp; omega)]
          rw [show cl.drop 12 = (cl.drop 2).drop 10 by rw [List.drop_drop], List.take_append_drop]
          rw [show cl.drop 2 = (cl.drop 1).drop 1 by rw [List.drop_drop], List.take_append_drop]
          rw [show cl.drop 1 = (cl.drop 0).drop 1 by rw [List.drop_drop], List.take_append_drop]
          rfl
        rw [e0', e1'] at s0
        exact s0
end Go.Proofs.Ythkodldldipimaa
/- heavy: more than is looked at. -/
namespace Go.Proofs.Ythkodldldipimaa
open Go.ChangeShapes Go.WideShapes Go.ChangeAt Go.RowKit
set_option linter.unusedVariables false
set_option linter.unusedSimpArgs false
def sumT (l : List Tm) : Nat := (l.map fun t => t.tx.length).sum
def hvF (l : List Tm) (n : Nat) : Bool := decide (40 < l.length) || decide (1000 < n + sumT l)
theorem sumT_snoc (l : List Tm) (t : Tm) : sumT (l ++ [t]) = sumT l + t.tx.length := by simp [sumT]
theorem sumT_le {l : List Tm} {b : Nat} (h : ∀ t ∈ l, t.tx.length ≤ b) : sumT l ≤ l.length * b := by
  induction l with
  | nil => simp [sumT]
  | cons t l ih =>
    have := ih fun x hx => h x (List.mem_cons_of_mem _ hx)
    have := h t (by simp)
    simp only [sumT, List.map_cons, List.sum_cons, List.length_cons, Nat.add_mul] at *
    omega
theorem sumT_mem {l : List Tm} {t : Tm} (h : t ∈ l) : t.tx.length ≤ sumT l := by
  induction l with
  | nil => cases h
  | cons a l ih =>
    simp only [sumT, List.map_cons, List.sum_cons] at *
    rcases List.mem_cons.1 h with rfl | h
    · omega
    · have := ih h; omega
theorem reach_eq : reachBytes = 140737488351232 := by decide
set_option maxHeartbeats 2000000 in
theorem heavy_many {v : Value} {l : List Tm} {w : World} (h : Tms v l w) (L : ByteArray) (hb : 40 < l.length) :
    Calls Try.prog 10 #[v, .string L] w fun e w' => e = .returned (.bool true) ∧ w' = w := by
  obtain ⟨va, vc, rfl, v1, v2, hc⟩ := h
  obtain ⟨N, hN⟩ : ∃ N, l.length = N := ⟨_, rfl⟩
  have HN : Hid (l.length = N) := hN
  have HC : Hid _ := hc
  rw [hN] at v1 hb ⊢
  unfold maxLen at v2
  have d1 : decide ((40 : Int) < (N : Int)) = true := decide_eq_true (by omega)
  have d2 : decide ((N : Int) > 40) = true := decide_eq_true (by omega)
  clear hc hN
  go_enter Try.func10, Try.ntmps10
  go_wp2_with fail
  go_loopw [5, 6] (fun v5 v6 wr => ∃ (i : Nat) (z : Int), i ≤ N ∧ v6 = .int .i64 i ∧ v5 = .int .i64 z ∧ wr = w) (fun _ v6 _ => N - (intOf v6).toNat)
  case atStart => exact ⟨0, _, Nat.zero_le _, rfl, rfl, rfl⟩
  case round =>
    obtain ⟨i, z, hi, rfl, rfl, rfl⟩ := hrel
    by_cases hlt : i < N
    · have dl : decide ((i : Int) < (N : Int)) = true := decide_eq_true (by omega)
      obtain ⟨t, ht⟩ : ∃ t, l[i]? = some t := ⟨_, List.getElem?_eq_getElem (by rw [HN.out]; exact hlt)⟩
      obtain ⟨B, o, rfl, hB, hc⟩ := HC.out i t ht
      have c1 := hc 1 (by omega)
      obtain ⟨kd, tx, n, cc⟩ := t
      simp only [Tm.cells, List.getElem?_cons_zero, List.getElem?_cons_succ] at c1
      clear hc hB ht
      go_wp2_with fail
      go_roundw
      case rel => exact ⟨i + 1, _, by omega, by go_num, rfl, trivial⟩
      case measure => simp only [intOf]; omega
    · obtain rfl : i = N := by omega
      have dl : decide ((i : Int) < (i : Int)) = false := by simp
      go_wp2_with fail
      go_ret
      exact ⟨rfl, rfl⟩
set_option maxHeartbeats 2000000 in
theorem heavy_few {v : Value} {l : List Tm} {w : World} (h : Tms v l w) (L : ByteArray) (hb : l.length ≤ 40) (hL : L.size ≤ reachBytes) (ht : ∀ t ∈ l, t.tx.length ≤ reachBytes) :
    Calls Try.prog 10 #[v, .string L] w fun e w' => e = .returned (.bool (decide (1000 < L.size + sumT l))) ∧ w' = w := by
  obtain ⟨va, vc, rfl, v1, v2, hc⟩ := h
  obtain ⟨N, hN⟩ : ∃ N, l.length = N := ⟨_, rfl⟩
  have HN : Hid (l.length = N) := hN
  have HC : Hid _ := hc
  have HB : Hid (∀ i, i ≤ N → L.size + sumT (l.take i) ≤ 6000000000000000) := by
    intro i hi
    have h1 := sumT_le (l := l.take i) (b := reachBytes) fun t q => ht t (List.mem_of_mem_take q)
    have h2 : (l.take i).length ≤ 40 := by simp; omega
    have h3 : (l.take i).length * reachBytes ≤ 40 * reachBytes := Nat.mul_le_mul_right _ h2
    rw [reach_eq] at *
    omega
  obtain ⟨M, hM⟩ : ∃ M, L.size = M := ⟨_, rfl⟩
  rw [hM] at HB ⊢
  rw [hN] at v1 hb ⊢
  unfold maxLen at v2
  have d1 : decide ((40 : Int) < (N : Int)) = false := decide_eq_false (by omega)
  have d2 : decide ((N : Int) > 40) = false := decide_eq_false (by omega)
  clear hc hN ht hL
  go_enter Try.func10, Try.ntmps10
  go_wp2_with fail
  go_loopw [5, 6] (fun v5 v6 wr => ∃ (i : Nat), i ≤ N ∧ v6 = .int .i64 i ∧ v5 = .int .i64 ((M + sumT (l.take i) : Nat) : Int) ∧ wr = w) (fun _ v6 _ => N - (intOf v6).toNat)
  case atStart => exact ⟨0, Nat.zero_le _, rfl, rfl, rfl⟩
  case round =>
    obtain ⟨i, hi, rfl, rfl, rfl⟩ := hrel
    by_cases hlt : i < N
    · have dl : decide ((i : Int) < (N : Int)) = true := decide_eq_true (by omega)
      obtain ⟨t, ht⟩ : ∃ t, l[i]? = some t := ⟨_, List.getElem?_eq_getElem (by rw [HN.out]; exact hlt)⟩
      obtain ⟨B, o, rfl, hB, hc⟩ := HC.out i t ht
      have c1 := hc 1 (by omega)
      obtain ⟨kd, tx, n, cc⟩ := t
      simp only [Tm.cells, List.getElem?_cons_zero, List.getElem?_cons_succ] at c1
      have hs : M + sumT (l.take (i + 1)) = M + sumT (l.take i) + tx.length := by
        rw [List.take_add_one, ht, Option.toList_some, sumT_snoc, Nat.add_assoc]
      have b1 := HB.out i hi
      have b2 := HB.out (i + 1) (by omega)
      obtain ⟨A, hA⟩ : ∃ A, M + sumT (l.take i) = A := ⟨_, rfl⟩
      obtain ⟨A', hA'⟩ : ∃ A', M + sumT (l.take (i + 1)) = A' := ⟨_, rfl⟩
      obtain ⟨X, hX⟩ : ∃ X : ByteArray, (⟨tx.toArray⟩ : ByteArray) = X := ⟨_, rfl⟩
      have hXs : X.size = tx.length := by rw [← hX]; simp [ByteArray.size]
      obtain ⟨K, hK⟩ : ∃ K, X.size = K := ⟨_, rfl⟩
      rw [hA'] at hs b2
      rw [hX] at c1
      rw [hA] at hs b1 ⊢
      have hsum : (A : Int) + (K : Int) = (A' : Int) := by omega
      have HAA : Hid (M + sumT (l.take (i + 1)) = A') := hA'
      clear hc hB ht hs hA hA' hX hXs
      go_wp2_with fail
      go_roundw
      case rel => exact ⟨i + 1, by omega, by go_num, by rw [HAA.out], trivial⟩
      case measure => simp only [intOf]; omega
    · obtain rfl : i = N := by omega
      have dl : decide ((i : Int) < (i : Int)) = false := by simp
      rw [List.take_of_length_le (by rw [HN.out]; exact Nat.le_refl _)]
      obtain ⟨A, hA⟩ : ∃ A, M + sumT l = A := ⟨_, rfl⟩
      rw [hA]
      by_cases hbig : 1000 < A
      · have e1 : decide ((1000 : Int) < (A : Int)) = true := decide_eq_true (by omega)
        have e2 : decide ((A : Int) > 1000) = true := decide_eq_true (by omega)
        have HE : Hid (decide (1000 < M + sumT l) = true) := decide_eq_true (by omega)
        clear hA
        go_wp2_with fail
        go_ret
        exact ⟨by rw [HE.out]; rfl, rfl⟩
      · have e1 : decide ((1000 : Int) < (A : Int)) = false := decide_eq_false (by omega)
        have e2 : decide ((A : Int) > 1000) = false := decide_eq_false (by omega)
        have HE : Hid (decide (1000 < M + sumT l) = false) := decide_eq_false (by omega)
        clear hA
        go_wp2_with fail
        go_ret
        exact ⟨by rw [HE.out]; rfl, rfl⟩
theorem heavy_any {v : Value} {l : List Tm} {w : World} (h : Tms v l w) (L : ByteArray) (hL : L.size ≤ reachBytes) (ht : ∀ t ∈ l, t.tx.length ≤ reachBytes) :
    Calls Try.prog 10 #[v, .string L] w fun e w' => e = .returned (.bool (hvF l L.size)) ∧ w' = w := by
  unfold hvF
  by_cases hb : 40 < l.length
  · rw [decide_eq_true hb, Bool.true_or]
    exact heavy_many h L hb
  · rw [decide_eq_false hb, Bool.false_or]
    exact heavy_few h L (by omega) hL ht
/-- What is not heavy is moderate. -/
theorem mod_of {l : List Tm} {L : List UInt8} (h : hvF l L.length = false) (hk : ∀ t ∈ l, TmOk t) : Mod l L := by
  unfold hvF at h
  rw [Bool.or_eq_false_iff, decide_eq_false_iff_not, decide_eq_false_iff_not] at h
  refine ⟨fun t ht => ⟨?_, (hk t ht).kd, (hk t ht).c⟩, by omega, by omega⟩
  have := sumT_mem ht
  omega
end Go.Proofs.Ythkodldldipimaa
/- ExpandParts: what is laid of pieces that say nothing of letters. -/
namespace Go.Proofs.Ythkodldldipimaa
open Go.ChangeShapes Go.WideShapes Go.ChangeAt Go.RowKit
set_option linter.unusedVariables false
set_option linter.unusedSimpArgs false
def noC (l : List Tm) : Prop := ∀ t ∈ l, t.kd ≠ 4
def cnt3 (l : List Tm) : Nat := (l.filter fun t => t.kd == 3).length
theorem cnt3_snoc (l : List Tm) (t : Tm) : cnt3 (l ++ [t]) = cnt3 l + if t.kd = 3 then 1 else 0 := by
  simp only [cnt3, List.filter_append, List.length_append]
  by_cases h : t.kd = 3 <;> simp [h]
theorem cnt3_le (l : List Tm) : cnt3 l ≤ l.length := List.length_filter_le _ _
/-- A page on which nothing is said of letters. -/
def Pl (p : Pg) : Prop := p.nx = .as ∧ p.al = .as
theorem step_pl {line : List UInt8} {m : Mt} {p : Pg} {t : Tm} (h : Pl p) (ht : t.kd ≠ 4) : Pl (stepX line m p t) := by
  unfold stepX
  split
  · rw [lay_as p h.1 h.2]; exact h
  split
  · rw [lay_as p h.1 h.2]; exact h
  split
  · exact h
  exact h
theorem page_cnt (line : List UInt8) (m : Mt) (l : List Tm) (h : noC l) : ∀ p, Pl p → (l.foldl (stepX line m) p).ls.length = p.ls.length + cnt3 l ∧ Pl (l.foldl (stepX line m) p) := by
  induction l with
  | nil => intro p hp; exact ⟨rfl, hp⟩
  | cons t l ih =>
    intro p hp
    have ht := h t (by simp)
    obtain ⟨h1, h2⟩ := ih (fun x hx => h x (List.mem_cons_of_mem _ hx)) _ (step_pl (line := line) (m := m) hp ht)
    refine ⟨?_, h2⟩
    rw [List.foldl_cons, h1]
    have e : cnt3 (t :: l) = (if t.kd = 3 then 1 else 0) + cnt3 l := by
      simp only [cnt3, List.filter_cons]
      by_cases q : t.kd = 3 <;> simp [q]; omega
    rw [e]
    unfold stepX
    by_cases k1 : t.kd = 1
    · rw [if_pos k1, lay_ls, if_neg (by omega)]; omega
    rw [if_neg k1]
    by_cases k2 : t.kd = 2
    · rw [if_pos k2, lay_ls, if_neg (by omega)]; omega
    rw [if_neg k2]
    by_cases k3 : t.kd = 3
    · rw [if_pos k3, if_pos k3]; simp [Pg.fin]; omega
    rw [if_neg k3, if_neg ht, if_neg k3]; omega
/-- Two pages, one begun behind what was there. -/
def Rel (pre : List (List UInt8)) (x : List UInt8) (p p0 : Pg) : Prop :=
  Pl p ∧ Pl p0 ∧ ((p0.ls = [] ∧ p.ls = pre ∧ p.op = x ++ p0.op) ∨ (∃ y ys, p0.ls = y :: ys ∧ p.ls = pre ++ (x ++ y) :: ys ∧ p.op = p0.op))
theorem rel_put {pre : List (List UInt8)} {x : List UInt8} {p p0 : Pg} (h : Rel pre x p p0) (s : List UInt8) : Rel pre x (p.lay s) (p0.lay s) := by
  obtain ⟨h1, h2, h3⟩ := h
  rw [lay_as p h1.1 h1.2, lay_as p0 h2.1 h2.2]
  refine ⟨h1, h2, ?_⟩
  rcases h3 with ⟨a, b, c⟩ | ⟨y, ys, a, b, c⟩
  · exact .inl ⟨a, b, by simp [c]⟩
  · exact .inr ⟨y, ys, a, b, by simp [c]⟩
theorem rel_step {pre : List (List UInt8)} {x line : List UInt8} {m : Mt} {p p0 : Pg} {t : Tm} (h : Rel pre x p p0) (ht : t.kd ≠ 4) : Rel pre x (stepX line m p t) (stepX line m p0 t) := by
  unfold stepX
  by_cases k1 : t.kd = 1
  · rw [if_pos k1, if_pos k1]; exact rel_put h _
  rw [if_neg k1, if_neg k1]
  by_cases k2 : t.kd = 2
  · rw [if_pos k2, if_pos k2]; exact rel_put h _
  rw [if_neg k2, if_neg k2]
  by_cases k3 : t.kd = 3
  · rw [if_pos k3, if_pos k3]
    obtain ⟨h1, h2, h3⟩ := h
    refine ⟨h1, h2, ?_⟩
    rcases h3 with ⟨a, b, c⟩ | ⟨y, ys, a, b, c⟩
    · exact .inr ⟨p0.op, [], by simp [Pg.fin, a], by simp [Pg.fin, b, c], rfl⟩
    · exact .inr ⟨y, ys ++ [p0.op], by simp [Pg.fin, a], by simp [Pg.fin, b, c], rfl⟩
  rw [if_neg k3, if_neg k3, if_neg ht, if_neg ht]
  exact h
theorem rel_fold {pre : List (List UInt8)} {x line : List UInt8} {m : Mt} (l : List Tm) (hl : noC l) : ∀ p p0, Rel pre x p p0 → Rel pre x (l.foldl (stepX line m) p) (l.foldl (stepX line m) p0) := by
  induction l with
  | nil => intro p p0 h; exact h
  | cons t l ih =>
    intro p p0 h
    exact ih (fun y hy => hl y (List.mem_cons_of_mem _ hy)) _ _ (rel_step h (hl t (by simp)))
theorem parts_pure {l more : List Tm} (hl : noC l) (hm : noC more) (line : List UInt8) (m : Mt) : ∃ pre x b0 bs, linesF l line m = pre ++ [x] ∧ linesF more line m = b0 :: bs ∧ linesF (l ++ more) line m = pre ++ (x ++ b0) :: bs := by
  have h0 : Pl pg0 := ⟨rfl, rfl⟩
  obtain ⟨_, h1⟩ := page_cnt line m l hl pg0 h0
  have R := rel_fold (line := line) (m := m) more hm (l.foldl (stepX line m) pg0) pg0 (pre := (pageF line m l).ls) (x := (pageF line m l).op) ⟨h1, h0, .inl ⟨rfl, rfl, by simp [pg0, pageF]⟩⟩
  obtain ⟨_, _, R⟩ := R
  have e1 : linesF l line m = (pageF line m l).ls ++ [(pageF line m l).op] := rfl
  have e2 : linesF more line m = (pageF line m more).ls ++ [(pageF line m more).op] := rfl
  have e3 : linesF (l ++ more) line m = (more.foldl (stepX line m) (l.foldl (stepX line m) pg0)).ls ++ [(more.foldl (stepX line m) (l.foldl (stepX line m) pg0)).op] := by
    simp [linesF, pageF, Pg.fin]
  rw [e1, e2, e3]
  have ep : pageF line m more = more.foldl (stepX line m) pg0 := rfl
  rw [ep]
  rcases R with ⟨a, b, c⟩ | ⟨y, ys, a, b, c⟩
  · exact ⟨_, _, (more.foldl (stepX line m) pg0).op, [], rfl, by rw [a]; rfl, by rw [b, c]⟩
  · exact ⟨_, _, y, ys ++ [(more.foldl (stepX line m) pg0).op], rfl, by rw [a]; rfl, by rw [b, c]; simp⟩
theorem parts_cnt {l : List Tm} (hl : noC l) (line : List UInt8) (m : Mt) : (linesF l line m).length = cnt3 l + 1 := by
  obtain ⟨h1, _⟩ := page_cnt line m l hl pg0 ⟨rfl, rfl⟩
  show ((l.foldl (stepX line m) pg0).ls ++ [_]).length = _
  rw [List.length_append, h1]
  simp [pg0]
theorem page_all {line : List UInt8} {l : List Tm} (h : Mod l line) (m : Mt) : ∀ i, i ≤ l.length → ∀ s ∈ (pageF line m (l.take i)).ls, s.length ≤ 1000000 := by
  intro i
  induction i with
  | zero => intro _ s hs; cases hs
  | succ i ih =>
    intro hi
    have a := ih (by omega)
    have b := (page_len h m i (by omega)).1
    have hn := h.n
    obtain ⟨t, ht⟩ : ∃ t, l[i]? = some t := ⟨_, List.getElem?_eq_getElem (by omega)⟩
    rw [List.take_add_one, ht, Option.toList_some, page_snoc]
    generalize pageF line m (l.take i) = p at a b
    unfold stepX
    split
    · rw [lay_ls]; exact a
    split
    · rw [lay_ls]; exact a
    split
    · intro s hs
      simp only [Pg.fin, List.mem_append, List.mem_singleton] at hs
      rcases hs with hs | rfl
      · exact a s hs
      · have : 1000 * i ≤ 1000 * 1000 := Nat.mul_le_mul_left _ (by omega)
        omega
    split
    · rw [(say_ls p t.c).1]; exact a
    · exact a
theorem lines_small {line : List UInt8} {l : List Tm} (h : Mod l line) (m : Mt) : (∀ s ∈ linesF l line m, s.length ≤ 1000000) ∧ (linesF l line m).length ≤ 1001 := by
  have a := page_all h m l.length (Nat.le_refl _)
  have b := page_len h m l.length (Nat.le_refl _)
  have hn := h.n
  rw [List.take_length] at a b
  refine ⟨fun s hs => ?_, ?_⟩
  · have hs' : s ∈ (pageF line m l).ls ++ [(pageF line m l).op] := hs
    rw [List.mem_append, List.mem_singleton] at hs'
    rcases hs' with hs' | rfl
    · exact a s hs'
    · have : 1000 * l.length ≤ 1000 * 1000 := Nat.mul_le_mul_left _ (by omega)
      omega
  · show ((pageF line m l).ls ++ [_]).length ≤ _
    rw [List.length_append]
    simp only [List.length_singleton]
    omega
end Go.Proofs.Ythkodldldipimaa
