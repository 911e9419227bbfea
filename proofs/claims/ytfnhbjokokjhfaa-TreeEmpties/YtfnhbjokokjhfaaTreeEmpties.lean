/- For every list of lines and every list of numbers the statement TreeEmpties returns true; no condition. -/
import Derived.Test.YtfnhbjokokjhfaaLaw2
import Derived.ShutString
import Derived.ChangeOld
namespace Go.Proofs.Ytfnhbjokokjhfaa.treeEmpties
open Go.ChangeShapes Go.WideShapes Go.ChangeAt Go.RowKit
open Go.ChangeMaps (open_string shut_string)
set_option linter.unusedVariables false

theorem own : ownKnob Try.prog.godebug = none := by kernel_rfl
theorem laidOut : laidOutB Try.prog = true := by kernel_rfl

theorem walk_out (W : World) (a a' : Option Addr) (L cap P cap' : Nat) (h : 200 < L ∨ P = 0 ∨ 200 < P) :
    Calls Try.prog 4 #[.slice a L cap, .slice a' P cap'] W fun e w' => e = .returned (.bool true) ∧ Below W.heap.size W w' := by
  by_cases h3 : 200 < L
  · have hd : decide ((200 : Int) < (L : Int)) = true := by simp; omega
    go_enter Try.func4, Try.ntmps4
    go_wp2_with fail
    refine (known_any _).mono ?_
    rintro e x1 ⟨rfl, hb1⟩
    go_wp2_with fail
    go_ret
    exact ⟨rfl, hb1⟩
  · have hd : decide ((200 : Int) < (L : Int)) = false := by simp; omega
    by_cases h0 : P = 0
    · subst h0
      go_enter Try.func4, Try.ntmps4
      go_wp2_with fail
      refine (known_any _).mono ?_
      rintro e x1 ⟨rfl, hb1⟩
      go_wp2_with fail
      go_ret
      exact ⟨rfl, hb1⟩
    · have hd1 : ((P : Int) == 0) = false := by simp; omega
      have hd2 : decide ((200 : Int) < (P : Int)) = true := by simp; omega
      go_enter Try.func4, Try.ntmps4
      go_wp2_with fail
      refine (known_any _).mono ?_
      rintro e x1 ⟨rfl, hb1⟩
      go_wp2_with fail
      go_ret
      exact ⟨rfl, hb1⟩
theorem shp0 {wss : List (List Nat)} (h : Shp wss 0) : wss = [[0]] := by
  obtain ⟨a, ha⟩ := h.one
  match wss, ha, h with
  | [ws], ha, h =>
    have : ws = [a] := by simpa using ha
    subst this
    have := h.last [a] rfl
    simp at this; rw [this]
  | ws :: ws' :: r, ha, h =>
    have h3 := h.deep (by simp)
    have h5 : 4 ^ 1 ≤ 4 ^ ((ws :: ws' :: r).length - 1) := Nat.pow_le_pow_right (by omega) (by simp)
    omega
set_option maxHeartbeats 8000000 in
set_option maxRecDepth 100000 in
theorem walk_in (W : World) (ms : List ByteArray) (zs : List Nat) (v v' : Value) (hv : Lies nobody W v ms) (hv' : Picks W v' zs) (h : ms.length ≤ 200) (h' : zs.length ≤ 200) (hp : 0 < zs.length) (hb : sizes ms < 2 ^ 60) :
    Calls Try.prog 4 #[v, v'] W fun e w' => e = .returned (.bool true) ∧ Below W.heap.size W w' := by
  obtain ⟨a, cap, rfl, c1, c2⟩ := hv.form
  have HM : Hid (sizes ms < 2 ^ 60) := hb
  have HV : Hid (Lies nobody W (.slice a ms.length cap) ms) := hv
  have HP : Hid (Picks W v' zs) := hv'
  obtain ⟨a', cap', rfl, p1, p2, _⟩ := hv'
  obtain ⟨L, hL⟩ : ∃ L, ms.length = L := ⟨_, rfl⟩
  obtain ⟨P, hP⟩ : ∃ P, zs.length = P := ⟨_, rfl⟩
  have HL : Hid (ms.length = L ∧ zs.length = P) := ⟨hL, hP⟩
  rw [hL] at c1 h HV ⊢
  rw [hP] at p1 h' hp HP ⊢
  have hd : decide ((200 : Int) < (L : Int)) = false := by simp; omega
  have hd1 : ((P : Int) == 0) = false := by simp; omega
  have hd' : decide ((200 : Int) < (P : Int)) = false := by simp; omega
  unfold maxLen at c2 p2
  clear hv hb hL hP
  go_enter Try.func4, Try.ntmps4
  go_wp2_with fail
  refine (known_any _).mono ?_
  rintro e x1 ⟨rfl, hb1⟩
  have HB1 : Hid (Below W.heap.size W x1) := hb1
  clear hb1
  go_wp2_with fail
  refine (new_any (HV.out.below HB1.out (Nat.le_refl _)) (by rw [HL.out.1]; omega) (by have := HM.out; omega)).mono ?_
  rintro e x2 ⟨rfl, ha⟩
  generalize x1.heap.size = t at *
  have H0 : Hid (One W.heap.size W x2 t ms 10000 []) := (one_new HB1.out (Nat.le_refl _) (by intro x hx; cases hx) rfl ha).mono (by rw [HL.out.1]; omega)
  clear ha HB1 HV
  go_wp2_with fail
  go_loopw [6] (fun vi wr => ∃ (i : Nat) (ls : List ByteArray), i ≤ L ∧ vi = .int .i64 i ∧ ls.length = L - i ∧ sizes ls ≤ sizes ms ∧ One W.heap.size W wr t ls (10000 + 22 * i) []) (fun vi _ => L - (intOf vi).toNat)
  case atStart => exact ⟨0, ms, Nat.zero_le _, rfl, by rw [HL.out.1]; rfl, Nat.le_refl _, H0.out⟩
  case round =>
    obtain ⟨i, ls, hi, rfl, hll, hsz, hO⟩ := hrel
    by_cases hlt : i < L
    · obtain ⟨J, hJ⟩ : ∃ J : Nat, J = i % P := ⟨_, rfl⟩
      have hJP : J < P := by rw [hJ]; exact Nat.mod_lt _ hp
      have hJi : (i : Int).tmod (P : Int) = (J : Int) := by rw [hJ]; exact (Int.ofNat_tmod i P).symm
      have hP0 : ¬ (P = 0) := by omega
      have hz : zs[J]? = some (zs[J]'(by rw [HL.out.2]; exact hJP)) := List.getElem?_eq_getElem _
      generalize zs[J]'(by rw [HL.out.2]; exact hJP) = z at hz
      obtain ⟨pb, off, ea, hz16, hcell⟩ := HP.out.cell hz
      subst ea
      obtain ⟨R, hR⟩ : ∃ R, ls.length = R := ⟨_, rfl⟩
      obtain ⟨K, hK⟩ : ∃ K : Nat, K = z % R := ⟨_, rfl⟩
      have hR0 : 0 < R := by omega
      have hKR : K < R := by rw [hK]; exact Nat.mod_lt _ hR0
      have hKi : (z : Int).tmod (R : Int) = (K : Int) := by rw [hK]; exact (Int.ofNat_tmod z R).symm
      have hR00 : ¬ (R = 0) := by omega
      have hTc : wr.drew.cell? ⟨pb, off + J, none⟩ = some (.int .u16 z) := hcell _ ((hO.drewN 1).below)
      have HC : Hid (∀ W', Below W.heap.size W W' → W'.cell? ⟨pb, off + J, none⟩ = some (.int .u16 z)) := hcell
      have rule : ∀ w', Tc ⟨pb, off + J, none⟩ (.int .u16 z) w' → w'.cell? ⟨pb, off + J, none⟩ = some (.int .u16 z) := fun _ h => h
      obtain ⟨X, hX⟩ : ∃ X : Nat, X = L - 1 - i := ⟨_, rfl⟩
      have hw1 : IntKind.i64.wrap ((L : Int) - 1) = (L : Int) - 1 := by rw [IntKind.wrap_i64]; omega
      have hw2 : IntKind.i64.wrap ((L : Int) - 1 - (i : Int)) = (X : Int) := by rw [IntKind.wrap_i64]; omega
      have hX2 : (L : Int) - 1 - (i : Int) = (X : Int) := by omega
      have hwz : IntKind.i64.wrap (z : Int) = (z : Int) := by rw [IntKind.wrap_i64]; omega
      have hwX : IntKind.i64.wrap (X : Int) = (X : Int) := by rw [IntKind.wrap_i64]; omega
      have HLs : Hid (Calls Try.prog 18 #[.pointer (some ⟨t, 0, none⟩)] wr.drew fun e w' => e = .returned (.int .i64 R) ∧ ∃ q, w' = wr.drew.drewN q) := by rw [← hR]; exact (hO.drewN 1).len
      have HDel : Hid (∀ q, Calls Try.prog 17 #[.pointer (some ⟨t, 0, none⟩), .int .i64 K] (wr.drew.drewN q) fun e w' => e = .returned (.bool true) ∧ ∃ ls', ls'.length = X ∧ sizes ls' ≤ sizes ms ∧ One W.heap.size W w' t ls' (10000 + 22 * (i + 1)) []) := by
        intro q
        have hc := ((hO.drewN 1).drewN q).delete (i := K) (by omega) (by omega) (by have := HM.out; omega) (by omega)
        refine hc.mono ?_
        rintro e w' ⟨rfl, q⟩
        refine ⟨rfl, _, ?_, ?_, q⟩
        · simp; omega
        · have := Edit.del.size ls K
          have e : Edit.del.more = 0 := rfl
          simp only [Edit.run] at this
          omega
      have HIn : Hid (ls.length = R ∧ R = L - i ∧ X = L - 1 - i ∧ X < 300) := ⟨hR, by omega, hX, by omega⟩
      have hd2 : decide ((i : Int) < (L : Int)) = true := by simp; omega
      have HDr : Hid (∀ q, Below W.heap.size W (wr.drew.drewN q)) := fun q => ((hO.drewN 1).drewN q).below
      clear hO hz hcell hJ hK hll hsz hR hX
      go_wp2_with fail
      refine wp_region_noPanic ?_
      refine wp_region_held_drew (S := Tc ⟨pb, off + J, none⟩ (.int .u16 z)) (by kernel_rfl) (hTc) (fun hHeld => ?_)
      refine takeAt 0 (some 36) ?_ rfl rfl (by kernel_rfl) (by kernel_rfl) (by kernel_rfl) (fun _ _ _ h => h) (Or.inl ⟨by rfl, ?_⟩) hHeld ?_
      rotate_left
      · intro w hSw
        go_simp <;> with_reducible rfl
      try simp only [Act.put, List.setIfInBounds_toArray, List.set_cons_zero, List.set_cons_succ]
      refine takeAt 1 (some 37) ?_ rfl rfl (by kernel_rfl) (by kernel_rfl) (by kernel_rfl) (fun _ _ _ h => h) (Or.inl ⟨by rfl, ?_⟩) hHeld ?_
      rotate_left
      · intro w hSw
        go_simp <;> with_reducible rfl
      try simp only [Act.put, List.setIfInBounds_toArray, List.set_cons_zero, List.set_cons_succ]
      refine takeAt 2 (some 38) ?_ rfl rfl (by kernel_rfl) (by kernel_rfl) (by kernel_rfl) (fun _ _ _ h => h) (Or.inl ⟨by rfl, ?_⟩) hHeld ?_
      rotate_left
      · intro w hSw
        go_simp <;> with_reducible rfl
      try simp only [Act.put, List.setIfInBounds_toArray, List.set_cons_zero, List.set_cons_succ]
      refine takeAt 3 (some 39) ?_ rfl rfl (by kernel_rfl) (by kernel_rfl) (by kernel_rfl) (fun _ _ _ h => h) (Or.inl ⟨by rfl, ?_⟩) hHeld ?_
      rotate_left
      · intro w hSw
        go_simp <;> with_reducible rfl
      try simp only [Act.put, List.setIfInBounds_toArray, List.set_cons_zero, List.set_cons_succ]
      refine takeAt 4 (some 40) ?_ rfl rfl (by kernel_rfl) (by kernel_rfl) (by kernel_rfl) (fun _ _ _ h => h) (Or.inl ⟨by rfl, ?_⟩) hHeld ?_
      rotate_left
      · intro w hSw
        go_simp <;> with_reducible rfl
      try simp only [Act.put, List.setIfInBounds_toArray, List.set_cons_zero, List.set_cons_succ]
      refine takeAt 5 (some 41) ?_ rfl rfl (by kernel_rfl) (by kernel_rfl) (by kernel_rfl) (fun _ _ _ h => h) (Or.inl ⟨by rfl, ?_⟩) hHeld ?_
      rotate_left
      · intro w hSw
        go_simp <;> with_reducible rfl
      try simp only [Act.put, List.setIfInBounds_toArray, List.set_cons_zero, List.set_cons_succ]
      refine takeAt 6 (some 42) ?_ rfl rfl (by kernel_rfl) (by kernel_rfl) (by kernel_rfl) (fun _ _ _ h => h) (Or.inl ⟨by rfl, ?_⟩) hHeld ?_
      rotate_left
      · intro w hSw
        go_simp <;> with_reducible rfl
      try simp only [Act.put, List.setIfInBounds_toArray, List.set_cons_zero, List.set_cons_succ]
      refine takeAt 7 (some 43) ?_ rfl rfl (by kernel_rfl) (by kernel_rfl) (by kernel_rfl) (fun _ _ _ h => h) (Or.inl ⟨by rfl, ?_⟩) hHeld ?_
      rotate_left
      · intro w hSw
        go_simp <;> with_reducible rfl
      try simp only [Act.put, List.setIfInBounds_toArray, List.set_cons_zero, List.set_cons_succ]
      refine takeAt 8 (some 44) ?_ rfl rfl (by kernel_rfl) (by kernel_rfl) (by kernel_rfl) (fun _ _ _ h => h) (Or.inl ⟨by rfl, ?_⟩) hHeld ?_
      rotate_left
      · intro w hSw
        go_simp <;> with_reducible rfl
      try simp only [Act.put, List.setIfInBounds_toArray, List.set_cons_zero, List.set_cons_succ]
      refine takeAt 9 (some 45) ?_ rfl rfl (by kernel_rfl) (by kernel_rfl) (by kernel_rfl) (fun _ _ _ h => h) (Or.inl ⟨by rfl, ?_⟩) hHeld ?_
      rotate_left
      · intro w hSw
        go_simp <;> with_reducible rfl
      try simp only [Act.put, List.setIfInBounds_toArray, List.set_cons_zero, List.set_cons_succ]
      refine callAt 10 46 18 (vals := #[.pointer (some ⟨t, 0, none⟩)]) (by kernel_rfl) rfl rfl rfl rfl (by simp [Act.eval]) Try.func18 (by kernel_rfl) (by kernel_rfl) ?_
      refine HLs.out.mono ?_
      rintro e w1 ⟨rfl, q, rfl⟩
      refine ⟨_, rfl, show Tc _ _ _ from HC.out _ (HDr.out q), fun hHeld => ?_⟩
      try simp only [Act.put, List.setIfInBounds_toArray, List.set_cons_zero, List.set_cons_succ]
      refine takeAt 11 (some 47) ?_ rfl rfl (by kernel_rfl) (by kernel_rfl) (by kernel_rfl) (fun _ _ _ h => h) (Or.inl ⟨by rfl, ?_⟩) hHeld ?_
      rotate_left
      · intro w hSw
        go_simp <;> with_reducible rfl
      try simp only [Act.put, List.setIfInBounds_toArray, List.set_cons_zero, List.set_cons_succ]
      refine callAt 12 48 17 (vals := #[.pointer (some ⟨t, 0, none⟩), .int .i64 K]) (by kernel_rfl) rfl rfl rfl rfl (by simp [Act.eval]) Try.func17 (by kernel_rfl) (by kernel_rfl) ?_
      refine (HDel.out q).mono ?_
      rintro e w2 ⟨rfl, ls', hl', hs', hO'⟩
      have H2 : Hid (ls'.length = X ∧ sizes ls' ≤ sizes ms ∧ One W.heap.size W w2 t ls' (10000 + 22 * (i + 1)) []) := ⟨hl', hs', hO'⟩
      clear hl' hs' hO'
      refine ⟨_, rfl, show Tc _ _ _ from HC.out _ H2.out.2.2.below, fun hHeld => ?_⟩
      try simp only [Act.put, List.setIfInBounds_toArray, List.set_cons_zero, List.set_cons_succ]
      refine takeAt 13 (some 49) ?_ rfl rfl (by kernel_rfl) (by kernel_rfl) (by kernel_rfl) (fun _ _ _ h => h) (Or.inl ⟨by rfl, ?_⟩) hHeld ?_
      rotate_left
      · intro w hSw
        go_simp <;> with_reducible rfl
      try simp only [Act.put, List.setIfInBounds_toArray, List.set_cons_zero, List.set_cons_succ]
      refine takeAt 14 (some 50) ?_ rfl rfl (by kernel_rfl) (by kernel_rfl) (by kernel_rfl) (fun _ _ _ h => h) (Or.inl ⟨by rfl, ?_⟩) hHeld ?_
      rotate_left
      · intro w hSw
        go_simp <;> with_reducible rfl
      try simp only [Act.put, List.setIfInBounds_toArray, List.set_cons_zero, List.set_cons_succ]
      refine takeAt 15 (some 51) ?_ rfl rfl (by kernel_rfl) (by kernel_rfl) (by kernel_rfl) (fun _ _ _ h => h) (Or.inl ⟨by rfl, ?_⟩) hHeld ?_
      rotate_left
      · intro w hSw
        go_simp <;> with_reducible rfl
      try simp only [Act.put, List.setIfInBounds_toArray, List.set_cons_zero, List.set_cons_succ]
      refine takeAt 17 (some 53) ?_ rfl rfl (by kernel_rfl) (by kernel_rfl) (by kernel_rfl) (fun _ _ _ h => h) (Or.inl ⟨by rfl, ?_⟩) hHeld ?_
      rotate_left
      · intro w hSw
        go_simp <;> with_reducible rfl
      try simp only [Act.put, List.setIfInBounds_toArray, List.set_cons_zero, List.set_cons_succ]
      refine takeAt 18 (some 54) ?_ rfl rfl (by kernel_rfl) (by kernel_rfl) (by kernel_rfl) (fun _ _ _ h => h) (Or.inl ⟨by rfl, ?_⟩) hHeld ?_
      rotate_left
      · intro w hSw
        go_simp <;> with_reducible rfl
      try simp only [Act.put, List.setIfInBounds_toArray, List.set_cons_zero, List.set_cons_succ]
      refine takeAt 19 (some 55) ?_ rfl rfl (by kernel_rfl) (by kernel_rfl) (by kernel_rfl) (fun _ _ _ h => h) (Or.inl ⟨by rfl, ?_⟩) hHeld ?_
      rotate_left
      · intro w hSw
        go_simp <;> with_reducible rfl
      try simp only [Act.put, List.setIfInBounds_toArray, List.set_cons_zero, List.set_cons_succ]
      refine takeAt 20 (some 56) ?_ rfl rfl (by kernel_rfl) (by kernel_rfl) (by kernel_rfl) (fun _ _ _ h => h) (Or.inl ⟨by rfl, ?_⟩) hHeld ?_
      rotate_left
      · intro w hSw
        go_simp <;> with_reducible rfl
      try simp only [Act.put, List.setIfInBounds_toArray, List.set_cons_zero, List.set_cons_succ]
      refine takeAt 21 (some 57) ?_ rfl rfl (by kernel_rfl) (by kernel_rfl) (by kernel_rfl) (fun _ _ _ h => h) (Or.inl ⟨by rfl, ?_⟩) hHeld ?_
      rotate_left
      · intro w hSw
        go_simp <;> with_reducible rfl
      try simp only [Act.put, List.setIfInBounds_toArray, List.set_cons_zero, List.set_cons_succ]
      refine callAtG 16 52 16 (vals := #[.pointer (some ⟨t, 0, none⟩)]) (by kernel_rfl) rfl rfl rfl (by rfl) (by simp [Act.eval]) Try.func16 (by kernel_rfl) (by kernel_rfl) ?_
      refine (H2.out.2.2.shape (by have := H2.out.1; have := HIn.out; omega)).mono ?_
      rintro e w3 ⟨sv, rfl, hSh, hO3⟩
      rw [H2.out.1] at hSh
      have H3 : Hid (Shaped w2 X sv w3 ∧ One W.heap.size W w3 t ls' (10000 + 22 * (i + 1)) []) := ⟨hSh, hO3⟩
      clear hSh hO3
      refine ⟨_, rfl, show Tc _ _ _ from HC.out _ H3.out.2.below, fun hHeld => ?_⟩
      try simp only [Act.put, List.setIfInBounds_toArray, List.set_cons_zero, List.set_cons_succ]
      refine callAtG 22 58 15 (vals := #[sv, .int .i64 X]) (by kernel_rfl) rfl rfl rfl (by rfl) (by simp [Act.eval]) Try.func15 (by kernel_rfl) (by kernel_rfl) ?_
      refine (H3.out.1.shaped (by have := HIn.out; omega)).mono ?_
      rintro e w4 ⟨rfl, q4, rfl⟩
      have H4 : Hid (One W.heap.size W (w3.drewN q4) t ls' (10000 + 22 * (i + 1)) []) := H3.out.2.drewN q4
      refine ⟨_, rfl, show Tc _ _ _ from HC.out _ H4.out.below, fun hHeld => ?_⟩
      try simp only [Act.put, List.setIfInBounds_toArray, List.set_cons_zero, List.set_cons_succ]
      refine takeAt 23 (some 59) ?_ rfl rfl (by kernel_rfl) (by kernel_rfl) (by kernel_rfl) (fun _ _ _ h => h) (Or.inl ⟨by rfl, ?_⟩) hHeld ?_
      rotate_left
      · intro w hSw
        go_simp <;> with_reducible rfl
      try simp only [Act.put, List.setIfInBounds_toArray, List.set_cons_zero, List.set_cons_succ]
      refine takeAt 24 (some 60) ?_ rfl rfl (by kernel_rfl) (by kernel_rfl) (by kernel_rfl) (fun _ _ _ h => h) (Or.inl ⟨by rfl, ?_⟩) hHeld ?_
      rotate_left
      · intro w hSw
        go_simp <;> with_reducible rfl
      try simp only [Act.put, List.setIfInBounds_toArray, List.set_cons_zero, List.set_cons_succ]
      refine wpAnyH_done (by kernel_rfl) ?_ _
      refine NoPanic.normal ?_
      go_wp2_with fail
      go_roundw
      case rel => exact ⟨i + 1, ls', by omega, by go_num, by have := H2.out.1; have := HIn.out; omega, H2.out.2.1, H4.out⟩
      case measure => simp [intOf]; omega
    · obtain rfl : i = L := by omega
      have hd2 : decide ((i : Int) < (i : Int)) = false := by simp
      have hnil : ls = [] := List.eq_nil_of_length_eq_zero (by omega)
      subst hnil
      have H1 : Hid (One W.heap.size W wr t [] (10000 + 22 * i) []) := hO
      clear hO hll hsz
      go_wp2_with fail
      refine (H1.out.shape (by simp)).mono ?_
      rintro e w2 ⟨sv, rfl, hSh, hO2⟩
      have H2 : Hid (One W.heap.size W w2 t [] (10000 + 22 * i) []) := hO2
      obtain ⟨p, wss, svs, g1, g2⟩ := hSh
      have := shp0 g2
      subst this
      obtain ⟨ob, ocap, rfl, hG⟩ := g1.grid (by simp)
      obtain ⟨ra, rc, e0, hc0, hm0, f0⟩ := hG.row 0 [0] rfl
      obtain ⟨i0, rfl, e00⟩ := f0 0 0 rfl
      have HCL : Hid (∀ W', Below w2.heap.size w2 W' → W'.cell? ⟨ob, 0, none⟩ = some (.slice (some ⟨i0, 0, none⟩) 1 rc) ∧ W'.cell? ⟨i0, 0, none⟩ = some (.int .i64 0)) := by
        intro W' hb
        have l1 := World.block_lt_of_cell? _ _ e0
        have l2 := World.block_lt_of_cell? _ _ e00
        constructor
        · have : w2.cell? ⟨ob, 0, none⟩ = some (.slice (some ⟨i0, 0, none⟩) 1 rc) := e0
          simp only [World.cell?, hb.block ob l1] at this ⊢; exact this
        · have : w2.cell? ⟨i0, 0, none⟩ = some (.int .i64 0) := e00
          simp only [World.cell?, hb.block i0 l2] at this ⊢; exact this
      have hle : 1 ≤ ocap := hG.le
      have hmx := hG.mx
      unfold maxLen at hmx
      clear hO2 g1 g2 hG e0 e00 f0 hc0 hm0 H1
      simp only [List.length_cons, List.length_nil, Nat.zero_add]
      go_wp2_with fail
      refine Calls.mono H2.out.len ?_
      rintro e w3 ⟨rfl, q3, rfl⟩
      have H3 : Hid (One W.heap.size W (w2.drewN q3) t [] (10000 + 22 * i) [] ∧ Below w2.heap.size w2 (w2.drewN q3)) := ⟨H2.out.drewN q3, below_drewN _ _⟩
      clear H2
      generalize w2.drewN q3 = w3 at *
      go_wp2_with fail
      refine Calls.mono H3.out.1.bytes ?_
      rintro e w4 ⟨rfl, q4, rfl⟩
      have H4 : Hid (One W.heap.size W (w3.drewN q4) t [] (10000 + 22 * i) [] ∧ Below w2.heap.size w2 (w3.drewN q4)) := ⟨H3.out.1.drewN q4, below_then H3.out.2 (below_drewN _ _)⟩
      clear H3
      generalize w3.drewN q4 = w4 at *
      go_wp2_with fail
      have hlin := H4.out.1.lines (by simp)
      obtain ⟨o4, t4, _⟩ := H4.out.1.ex
      refine Calls.mono (lines_any t4 (by simp)) ?_
      rintro e w5 ⟨lv, rfl, hT⟩
      have H5 : Hid (One W.heap.size W w5 t [] (10000 + 22 * i) [] ∧ Below w2.heap.size w2 w5) := ⟨H4.out.1.under hT.1, below_then H4.out.2 hT.1⟩
      obtain ⟨gb, rfl, _⟩ := hT.2
      obtain ⟨k1, k2⟩ := HCL.out w5 H5.out.2
      clear hT hlin t4
      simp only [List.length_nil]
      go_wp2_with fail
      refine Calls.mono (show Calls Try.prog 17 #[.pointer (some ⟨t, 0, none⟩), .int .i64 0] w5 _ from H5.out.1.deleteNo (by simp) 0 (by omega) (by simp)) ?_
      rintro e w6 ⟨rfl, q6⟩
      have H6 : Hid (Below W.heap.size W w6) := q6.below
      clear q6
      go_wp2_with fail
      go_ret
      exact ⟨rfl, H6.out⟩
theorem walk (W : World) (v : Value) (ms : List ByteArray) (hv : Lies nobody W v ms) (hb : ∀ y ∈ ms, y.size ≤ reachBytes) (v' : Value) (zs : List Nat) (hv' : Picks W v' zs) (_ : True) : Calls Try.prog 4 #[v, v'] W fun e w' => e = .returned (.bool true) ∧ Below W.heap.size W w' := by
  have h2 := reachBytes_lt
  by_cases h : ms.length ≤ 200 ∧ 0 < zs.length ∧ zs.length ≤ 200
  · have h3 := sizes_le hb
    have : ms.length * reachBytes ≤ 200 * reachBytes := Nat.mul_le_mul_right _ h.1
    exact walk_in W ms zs v v' hv hv' h.1 h.2.2 h.2.1 (by omega)
  · obtain ⟨a, cap, rfl, c1, c2⟩ := hv.form
    obtain ⟨a', cap', rfl, p1, p2, _⟩ := hv'
    exact walk_out W a a' _ cap _ cap' (by omega)

set_option maxRecDepth 100000 in
theorem lifted (os : Os) (started : os.Started) (H : Type) (enc : TypeId × Value → H) :
    ReturnsInHanded {} Try.checked os 4 .any (Rows.treeEmptiesSpec.pre6 enc Try.prog Try.f4 Rows.treeEmptiesRow.domain false) (Rows.treeEmptiesSpec.post enc Try.prog Try.f4 false true false false) := by
  refine returnsInHanded_of_change_sized (C := Try.checked) own started (by kernel_rfl) Try.func4
    (ChangeSpec.witness6 (enc := enc) (C := Try.checked) false ⟨#[], #[.slice none 0 0, .slice none 0 0], []⟩ 8 (by kernel_rfl) (by kernel_rfl) (by kernel_rfl) (by kernel_rfl)) ?_
  intro W base args ds gs before hval0 hW hcnd hsized0 _
  have hval : ∀ (j : Nat) t v, Try.f4.params[j]? = some t → args[j]? = some v → Value.okWide Try.prog W .any base t v := hval0
  have hW' := hW
  obtain ⟨p, q, hA0, hV, rfl, hfz, hnd⟩ := hW
  have hA : DataW.TrodAll enc Try.prog W 0 (fun _ => true) true Try.f4.params.toList args.toList ds p := hA0
  have hsized : (DataW.weightsEach Try.prog (Try.f4.params.toList ++ Rows.treeEmptiesSpec.plain.varTypes Try.prog) (ds ++ gs)).all (· ≤ reachBytes) = true := hsized0
  rw [Try.params4] at hA hval hsized
  obtain ⟨v0, vs0, d0, ds0, p0, q0, hargs, rfl, rfl, h0, r0⟩ := trodAll_cons hA
  obtain ⟨v1, vs1, d1, ds1, p1, q1, rfl, rfl, rfl, h1, r1⟩ := trodAll_cons r0
  obtain ⟨rfl, rfl, rfl⟩ := trodAll_nil r1
  obtain rfl : args = #[v0, v1] := by cases args; simp_all
  obtain ⟨rfl, rfl⟩ := trodVars_none hV
  have s0 := weights_all hsized (j := 0) rfl rfl
  have s1 := weights_all hsized (j := 1) rfl rfl
  have k0 := h0
  have lt0 : ∀ x ∈ p0, x.block < W.heap.size := by obtain ⟨m, hm⟩ := k0; exact DataW.trod_lt m _ _ _ hm
  obtain ⟨a0, w0, z0⟩ := strs_form (hval 0 22 v0 rfl rfl) h0
  have k1 := h1
  have lt1 : ∀ x ∈ p1, x.block < W.heap.size := by obtain ⟨m, hm⟩ := k1; exact DataW.trod_lt m _ _ _ hm
  obtain ⟨a1, w1, z1⟩ := picks_form (hval 1 34 v1 rfl rfl) h1
  clear hA0 hval0 hsized0
  refine (walk W v0 a0 w0 (z0 s0) v1 a1 w1 (z1 s1)).mono fun e W' ⟨he, bel⟩ => ?_
  subst he
  exact ⟨_, rfl, _, _, _, [], _, [], hW', trodAll_mk1 (shut_bool Try.underlying4 _), (trodAll_cons_mk (Below.trod laidOut (by kernel_rfl) (of_decide_eq_true (by kernel_rfl)) k0 bel lt0) (trodAll_cons_mk (Below.trod laidOut (by kernel_rfl) (of_decide_eq_true (by kernel_rfl)) k1 bel lt1) trodAll_mk0)), rfl, bel.frame _, fun h => by cases h⟩

theorem over : Rows.treeEmptiesRow.holds Try.pinned (OpenSpec.ofChange Rows.treeEmptiesSpec) :=
  OpenClaim.holds_of_wide 4 Try.f4 rfl rfl rfl rfl rfl rfl rfl ⟨rfl, rfl, rfl, rfl, rfl⟩ rfl rfl rfl rfl rfl (by kernel_rfl) Try.func4 (by kernel_rfl)
    (of_decide_eq_true (by kernel_rfl)) (by unfold Func.isWrapper; first | (rw [if_pos (by decide +kernel)]; kernel_rfl) | (rw [if_neg (by decide +kernel)]; exact ⟨rfl, rfl⟩))
    (fun os started H enc _ => lifted os started H enc)

end Go.Proofs.Ytfnhbjokokjhfaa.treeEmpties
namespace Go.Proofs.Ytfnhbjokokjhfaa
theorem treeEmpties_holds : Rows.TreeEmptiesSaid := treeEmpties.over
#print axioms treeEmpties_holds
end Go.Proofs.Ytfnhbjokokjhfaa
