/- Texts that the proof of the law stands on: AB, AShelf, AC, AD, AE, AF. -/
import Derived.Test.YtfgapmfjfienhaaGreatDoorPartA
import Derived.Deep.RegionWith
import Derived.Ground.NamesProg
import Derived.Shelf.Strconv.Atoi
import Derived.Test.YtfgapmfjfienhaaGreatDoorProg
import Derived.Lib.SmallJoins
/- The bytes that come, up to one that is not such. -/
namespace Go.Proofs.YtfgapmfjfienhaaGreatDoor
open Go.ChangeShapes Go.WideShapes Go.ChangeAt Go.RowKit Go.Maps Go.MapKept
set_option linter.unusedVariables false
set_option linter.unusedSimpArgs false
set_option maxRecDepth 100000
theorem tw_in {p : UInt8 → Bool} : ∀ (l : List UInt8) (i : Nat), i < (l.takeWhile p).length → ∃ c, l[i]? = some c ∧ p c = true
  | [], i, h => by simp at h
  | a :: r, i, h => by
    by_cases q : p a = true
    · rw [List.takeWhile_cons, if_pos q] at h
      cases i with
      | zero => exact ⟨a, rfl, q⟩
      | succ i =>
        obtain ⟨c, h1, h2⟩ := tw_in r i (by simpa using h)
        exact ⟨c, h1, h2⟩
    · rw [List.takeWhile_cons, if_neg q] at h; simp at h
theorem tw_out {p : UInt8 → Bool} : ∀ (l : List UInt8) (c : UInt8), l[(l.takeWhile p).length]? = some c → p c = false
  | [], c, h => by simp at h
  | a :: r, c, h => by
    by_cases q : p a = true
    · rw [List.takeWhile_cons, if_pos q] at h
      exact tw_out r c (by simpa using h)
    · rw [List.takeWhile_cons, if_neg q] at h
      simp at h; subst h; simpa using q
theorem tw_le {p : UInt8 → Bool} : ∀ (l : List UInt8), (l.takeWhile p).length ≤ l.length
  | [] => by simp
  | a :: r => by
    rw [List.takeWhile_cons]
    split
    · have := tw_le (p := p) r; simp; omega
    · simp
/-- Where the bytes that are such end. -/
def spanE (f : Nat → Bool) (s : ByteArray) (k : Nat) : Nat := k + ((s.data.toList.drop k).takeWhile fun c => f c.toNat).length
section
variable {f : Nat → Bool} {s : ByteArray} {k j : Nat}
theorem byteAt_some {c : UInt8} (h : s.data.toList[k]? = some c) : byteAt s k = c.toNat := by unfold byteAt; rw [h]; rfl
theorem spanE_ge : k ≤ spanE f s k := Nat.le_add_right _ _
theorem spanE_le (hk : k ≤ s.size) : spanE f s k ≤ s.size := by
  have := tw_le (p := fun c => f c.toNat) (s.data.toList.drop k)
  rw [List.length_drop, ← Lib.size_eq] at this
  unfold spanE; omega
theorem spanE_in (h1 : k ≤ j) (h2 : j < spanE f s k) : f (byteAt s j) = true := by
  unfold spanE at h2
  obtain ⟨c, q1, q2⟩ := tw_in (p := fun c => f c.toNat) (s.data.toList.drop k) (j - k) (by omega)
  rw [List.getElem?_drop, show k + (j - k) = j by omega] at q1
  rw [byteAt_some q1]; exact q2
theorem spanE_out (h : spanE f s k < s.size) : f (byteAt s (spanE f s k)) = false := by
  have hl : spanE f s k < s.data.toList.length := by rw [← Lib.size_eq]; exact h
  have e : s.data.toList[spanE f s k]? = some (s.data.toList[spanE f s k]) := List.getElem?_eq_getElem hl
  rw [byteAt_some e]
  refine tw_out (p := fun c => f c.toNat) (s.data.toList.drop k) _ ?_
  rw [List.getElem?_drop]; exact e
end
def plOf (b : Nat) (w : World) : Nat := match w.cell? ⟨b, 1, none⟩ with
  | some v => (intOf v).toNat
  | none => 0
theorem Plc.pl {T : TypeId} {s : ByteArray} {at_ b : Nat} {w : World} (h : Plc T s at_ b w) : plOf b w = at_ := by unfold plOf; rw [h.c1]; simp [intOf]
def digF (c : Nat) : Bool := isB 100 c
def blkF (c : Nat) : Bool := isB 115 c
def aheF (c : Nat) : Bool := blkF c || c == 58
theorem ablk_any (c : Int) (w : World) : Calls Tryz.prog 128 #[.int .u8 c] w fun e w' => e = .returned (.bool (isB 115 c)) ∧ Kp w w' := by
  have HK : Hid _ := kIs_any (k := 115) (c := c) (w := w)
  go_enter Tryz.func128, Tryz.ntmps128
  go_wp2_with fail
  refine Calls.mono HK.out ?_
  rintro e w2 ⟨rfl, k⟩
  have HX : Hid _ := k
  clear HK k
  go_wp2_with fail
  go_ret
  exact ⟨rfl, HX.out⟩
theorem aahe_any (c : Nat) (w : World) : Calls Tryz.prog 126 #[.int .u8 (c : Int)] w fun e w' => e = .returned (.bool (aheF c)) ∧ Kp w w' := by
  have HK : Hid _ := ablk_any (c : Int) w
  unfold aheF blkF
  obtain ⟨y, hy⟩ : ∃ y, isB 115 (c : Int) = y := ⟨_, rfl⟩
  rw [hy] at HK ⊢
  have hc : ((c : Int) == 58) = (c == 58) := by
    rw [Bool.eq_iff_iff]; simp; omega
  go_enter Tryz.func126, Tryz.ntmps126
  go_wp2_with fail
  refine Calls.mono HK.out ?_
  rintro e w2 ⟨rfl, k⟩
  have HX : Hid _ := k
  clear HK k hy
  cases y with
  | true =>
    go_wp2_with fail
    go_ret
    exact ⟨rfl, HX.out⟩
  | false =>
    go_wp2_with fail
    go_ret
    exact ⟨by simp [hc], HX.out⟩
set_option maxHeartbeats 8000000 in
theorem while_dig {T : TypeId} {s : ByteArray} {at_ b : Nat} {w : World} (h : Plc T s at_ b w) (hs : s.size ≤ 1000000) (ha : at_ ≤ s.size) :
    Calls Tryz.prog 125 #[.pointer (some ⟨b, 0, none⟩), .func (.func 154) #[] #[]] w fun e w' => e = .returned (.string (s.extract at_ (spanE digF s at_))) ∧ Fr (On b) w w' ∧ Plc T s (spanE digF s at_) b w' := by
  obtain ⟨E, hE⟩ : ∃ E, spanE digF s at_ = E := ⟨_, rfl⟩
  have hE1 : at_ ≤ E := by rw [← hE]; exact spanE_ge
  have hE2 : E ≤ s.size := by rw [← hE]; exact spanE_le ha
  have HIn : Hid (∀ j, at_ ≤ j → j < E → digF (byteAt s j) = true) := fun j h1 h2 => spanE_in h1 (by rw [hE]; exact h2)
  have HOut : Hid (E < s.size → digF (byteAt s E) = false) := fun h1 => by have := spanE_out (f := digF) (s := s) (k := at_); rw [hE] at this; exact this h1
  have HF0 : Hid (Fr (On b) w w ∧ Plc T s at_ b w) := ⟨Fr.refl _ _, h⟩
  have c1 := h.c1
  have c0 := h.c0
  rw [hE]
  clear h hE ha
  go_enter Tryz.func125, Tryz.ntmps125
  go_wp2_with fail
  go_loopw [] (fun wr => ∃ j, at_ ≤ j ∧ j ≤ E ∧ Hid (Fr (On b) w wr ∧ Plc T s j b wr)) (fun wr => E - plOf b wr)
  case atStart => exact ⟨at_, Nat.le_refl _, hE1, HF0.out⟩
  case round =>
    obtain ⟨j, hj1, hj2, HJ⟩ := hrel
    clear c0 c1
    have c0 := HJ.out.2.c0
    have c1 := HJ.out.2.c1
    have f1 := HJ.out.2.f1
    have hpl := HJ.out.2.pl
    by_cases hjE : j < E
    · have hjs : j < s.size := by omega
      have g1 : decide ((j : Int) < (s.size : Int)) = true := decide_eq_true (by omega)
      have hb := byteAt_eq s j hjs
      have HC : Hid (∀ q, Calls Tryz.prog 154 #[.int .u8 (s[j].toNat : Int)] (wr.drewN q) fun e w' => e = .returned (.bool true) ∧ Kp wr w') := fun q => by
        have hy := HIn.out j hj1 hjE
        rw [hb] at hy
        refine (adig_any ((s[j]).toNat) (wr.drewN q)).mono ?_
        rintro e w' ⟨rfl, k⟩
        exact ⟨by show Ending.returned (Value.bool (digF (s[j]).toNat)) = _; rw [hy], kp_trans (kp_drewN _ q) k⟩
      clear hb
      have HFJ : Hid (∀ w2, Kp wr w2 → Fr (On b) w w2 ∧ Plc T s j b w2) := fun w2 k2 => ⟨HJ.out.1.trans (Fr.of_below k2), HJ.out.2.kp k2⟩
      clear HJ
      go_upto_region 2 with fail
      refine wp_region_noPanic ?_
      refine wp_region_held_drew (S := fun z => z.cell? ⟨b, 0, none⟩ = some (.string s) ∧ z.cell? ⟨b, 1, none⟩ = some (.int .i64 (j : Int))) (by kernel_rfl) (⟨kp_cell (kp_drew _) c0, kp_cell (kp_drew _) c1⟩) (fun hHeld => ?_)
      refine takeAt 0 (some 10) ?_ rfl rfl (by kernel_rfl) (by kernel_rfl) (by kernel_rfl) (fun _ _ _ h => h) (Or.inl ⟨by rfl, ?_⟩) hHeld ?_
      rotate_left
      · intro w hSw
        go_simp <;> with_reducible rfl
      try simp only [Act.put, List.setIfInBounds_toArray, List.set_cons_zero, List.set_cons_succ]
      refine takeAt 1 (some 11) ?_ rfl rfl (by kernel_rfl) (by kernel_rfl) (by kernel_rfl) (fun _ _ _ h => h) (Or.inl ⟨by rfl, ?_⟩) hHeld ?_
      rotate_left
      · intro w hSw
        go_simp <;> with_reducible rfl
      try simp only [Act.put, List.setIfInBounds_toArray, List.set_cons_zero, List.set_cons_succ]
      refine takeAt 2 (some 12) ?_ rfl rfl (by kernel_rfl) (by kernel_rfl) (by kernel_rfl) (fun _ _ _ h => h) (Or.inl ⟨by rfl, ?_⟩) hHeld ?_
      rotate_left
      · intro w hSw
        go_simp <;> with_reducible rfl
      try simp only [Act.put, List.setIfInBounds_toArray, List.set_cons_zero, List.set_cons_succ]
      refine takeAt 3 (some 13) ?_ rfl rfl (by kernel_rfl) (by kernel_rfl) (by kernel_rfl) (fun _ _ _ h => h) (Or.inl ⟨by rfl, ?_⟩) hHeld ?_
      rotate_left
      · intro w hSw
        go_simp <;> with_reducible rfl
      try simp only [Act.put, List.setIfInBounds_toArray, List.set_cons_zero, List.set_cons_succ]
      refine takeAt 4 (some 14) ?_ rfl rfl (by kernel_rfl) (by kernel_rfl) (by kernel_rfl) (fun _ _ _ h => h) (Or.inl ⟨by rfl, ?_⟩) hHeld ?_
      rotate_left
      · intro w hSw
        go_simp <;> with_reducible rfl
      try simp only [Act.put, List.setIfInBounds_toArray, List.set_cons_zero, List.set_cons_succ]
      refine takeAt 5 (some 15) ?_ rfl rfl (by kernel_rfl) (by kernel_rfl) (by kernel_rfl) (fun _ _ _ h => h) (Or.inl ⟨by rfl, ?_⟩) hHeld ?_
      rotate_left
      · intro w hSw
        go_simp <;> with_reducible rfl
      try simp only [Act.put, List.setIfInBounds_toArray, List.set_cons_zero, List.set_cons_succ]
      refine takeAt 6 (some 16) ?_ rfl rfl (by kernel_rfl) (by kernel_rfl) (by kernel_rfl) (fun _ _ _ h => h) (Or.inl ⟨by rfl, ?_⟩) hHeld ?_
      rotate_left
      · intro w hSw
        go_simp <;> with_reducible rfl
      try simp only [Act.put, List.setIfInBounds_toArray, List.set_cons_zero, List.set_cons_succ]
      refine takeAt 7 (some 17) ?_ rfl rfl (by kernel_rfl) (by kernel_rfl) (by kernel_rfl) (fun _ _ _ h => h) (Or.inl ⟨by rfl, ?_⟩) hHeld ?_
      rotate_left
      · intro w hSw
        go_simp <;> with_reducible rfl
      try simp only [Act.put, List.setIfInBounds_toArray, List.set_cons_zero, List.set_cons_succ]
      refine takeAt 8 (some 18) ?_ rfl rfl (by kernel_rfl) (by kernel_rfl) (by kernel_rfl) (fun _ _ _ h => h) (Or.inl ⟨by rfl, ?_⟩) hHeld ?_
      rotate_left
      · intro w hSw
        go_simp <;> with_reducible rfl
      try simp only [Act.put, List.setIfInBounds_toArray, List.set_cons_zero, List.set_cons_succ]
      refine takeAt 9 (some 19) ?_ rfl rfl (by kernel_rfl) (by kernel_rfl) (by kernel_rfl) (fun _ _ _ h => h) (Or.inl ⟨by rfl, ?_⟩) hHeld ?_
      rotate_left
      · intro w hSw
        go_simp <;> with_reducible rfl
      try simp only [Act.put, List.setIfInBounds_toArray, List.set_cons_zero, List.set_cons_succ]
      refine takeAt 10 (some 20) ?_ rfl rfl (by kernel_rfl) (by kernel_rfl) (by kernel_rfl) (fun _ _ _ h => h) (Or.inl ⟨by rfl, ?_⟩) hHeld ?_
      rotate_left
      · intro w hSw
        go_simp <;> with_reducible rfl
      try simp only [Act.put, List.setIfInBounds_toArray, List.set_cons_zero, List.set_cons_succ]
      refine takeAt 11 (some 21) ?_ rfl rfl (by kernel_rfl) (by kernel_rfl) (by kernel_rfl) (fun _ _ _ h => h) (Or.inl ⟨by rfl, ?_⟩) hHeld ?_
      rotate_left
      · intro w hSw
        go_simp <;> with_reducible rfl
      try simp only [Act.put, List.setIfInBounds_toArray, List.set_cons_zero, List.set_cons_succ]
      refine takeAt 12 (some 22) ?_ rfl rfl (by kernel_rfl) (by kernel_rfl) (by kernel_rfl) (fun _ _ _ h => h) (Or.inl ⟨by rfl, ?_⟩) hHeld ?_
      rotate_left
      · intro w hSw
        go_simp <;> with_reducible rfl
      try simp only [Act.put, List.setIfInBounds_toArray, List.set_cons_zero, List.set_cons_succ]
      refine takeAt 13 (some 23) ?_ rfl rfl (by kernel_rfl) (by kernel_rfl) (by kernel_rfl) (fun _ _ _ h => h) (Or.inl ⟨by rfl, ?_⟩) hHeld ?_
      rotate_left
      · intro w hSw
        go_simp <;> with_reducible rfl
      try simp only [Act.put, List.setIfInBounds_toArray, List.set_cons_zero, List.set_cons_succ]
      refine takeAt 14 (some 24) ?_ rfl rfl (by kernel_rfl) (by kernel_rfl) (by kernel_rfl) (fun _ _ _ h => h) (Or.inl ⟨by rfl, ?_⟩) hHeld ?_
      rotate_left
      · intro w hSw
        go_simp <;> with_reducible rfl
      try simp only [Act.put, List.setIfInBounds_toArray, List.set_cons_zero, List.set_cons_succ]
      refine takeAt 15 (some 25) ?_ rfl rfl (by kernel_rfl) (by kernel_rfl) (by kernel_rfl) (fun _ _ _ h => h) (Or.inl ⟨by rfl, ?_⟩) hHeld ?_
      rotate_left
      · intro w hSw
        go_simp <;> with_reducible rfl
      try simp only [Act.put, List.setIfInBounds_toArray, List.set_cons_zero, List.set_cons_succ]
      refine takeAt 16 (some 26) ?_ rfl rfl (by kernel_rfl) (by kernel_rfl) (by kernel_rfl) (fun _ _ _ h => h) (Or.inl ⟨by rfl, ?_⟩) hHeld ?_
      rotate_left
      · intro w hSw
        go_simp <;> with_reducible rfl
      try simp only [Act.put, List.setIfInBounds_toArray, List.set_cons_zero, List.set_cons_succ]
      refine takeAt 17 (some 27) ?_ rfl rfl (by kernel_rfl) (by kernel_rfl) (by kernel_rfl) (fun _ _ _ h => h) (Or.inl ⟨by rfl, ?_⟩) hHeld ?_
      rotate_left
      · intro w hSw
        go_simp <;> with_reducible rfl
      try simp only [Act.put, List.setIfInBounds_toArray, List.set_cons_zero, List.set_cons_succ]
      refine takeAt 18 (some 28) ?_ rfl rfl (by kernel_rfl) (by kernel_rfl) (by kernel_rfl) (fun _ _ _ h => h) (Or.inl ⟨by rfl, ?_⟩) hHeld ?_
      rotate_left
      · intro w hSw
        go_simp <;> with_reducible rfl
      try simp only [Act.put, List.setIfInBounds_toArray, List.set_cons_zero, List.set_cons_succ]
      refine takeAt 19 (some 29) ?_ rfl rfl (by kernel_rfl) (by kernel_rfl) (by kernel_rfl) (fun _ _ _ h => h) (Or.inl ⟨by rfl, ?_⟩) hHeld ?_
      rotate_left
      · intro w hSw
        go_simp <;> with_reducible rfl
      try simp only [Act.put, List.setIfInBounds_toArray, List.set_cons_zero, List.set_cons_succ]
      refine takeAt 20 (some 30) ?_ rfl rfl (by kernel_rfl) (by kernel_rfl) (by kernel_rfl) (fun _ _ _ h => h) (Or.inl ⟨by rfl, ?_⟩) hHeld ?_
      rotate_left
      · intro w hSw
        go_simp <;> with_reducible rfl
      try simp only [Act.put, List.setIfInBounds_toArray, List.set_cons_zero, List.set_cons_succ]
      refine wpAnyH_ready (rs := [21]) (by kernel_rfl) (by simp) ?_
      refine AllReadyH.cons rfl (fun K hK => ?_) AllReadyH.nil
      rw [if_pos (by rfl)]
      refine call_stepV 31 154 (vals := #[.int .u8 (s[j].toNat : Int)]) rfl rfl rfl (by simp [Act.eval]) Tryz.func154 (by kernel_rfl) (by kernel_rfl) ?_
      refine Calls.mono (HC.out 1) ?_
      rintro e w2 ⟨rfl, kk⟩
      obtain ⟨xf, xp⟩ := HFJ.out w2 kk
      have HX : Hid (Fr (On b) w w2 ∧ Plc T s j b w2) := ⟨xf, xp⟩
      clear xf xp kk
      refine ⟨_, rfl, ?_⟩
      refine hK.out _ _ ⟨HX.out.2.c0, HX.out.2.c1⟩ (fun hHeld => ?_)
      clear hK K
      try simp only [Act.put, List.setIfInBounds_toArray, List.set_cons_zero, List.set_cons_succ]
      refine takeAt 22 (some 32) ?_ rfl rfl (by kernel_rfl) (by kernel_rfl) (by kernel_rfl) (fun _ _ _ h => h) (Or.inl ⟨by rfl, ?_⟩) hHeld ?_
      rotate_left
      · intro w hSw
        go_simp <;> with_reducible rfl
      try simp only [Act.put, List.setIfInBounds_toArray, List.set_cons_zero, List.set_cons_succ]
      refine wpAnyH_done (by kernel_rfl) ?_ _
      refine NoPanic.normal ?_
      clear HC HFJ c0 c1 f1 hHeld
      have c0 := HX.out.2.c0
      have c1 := HX.out.2.c1
      have f1 := HX.out.2.f1
      go_wp2_with fail
      exact ⟨⟨j + 1, by omega, by omega, HX.out.1.trans (fr_set _ _ _ _), HX.out.2.to (j + 1)⟩, by rw [hpl]; have e := (HX.out.2.to (j + 1)).pl; have e' : plOf b (w2.setCell ⟨b, 1, none⟩ (.int .i64 ((j : Int) + 1))) = j + 1 := e; rw [e']; omega⟩
    · obtain rfl : j = E := by omega
      by_cases hjs : j = s.size
      · as_aux_lemma =>
        subst hjs
        have g1 : decide ((s.size : Int) < (s.size : Int)) = false := by simp
        have HE : Hid (∀ q, Fr (On b) w (wr.drewN q) ∧ Plc T s s.size b (wr.drewN q)) := fun q => ⟨HJ.out.1.trans (Fr.drewN _ _ q), HJ.out.2.kp (kp_drewN _ q)⟩
        have g5 : decide (at_ ≤ s.size) = true := decide_eq_true hE1
        clear HJ hjE hE2 hj1 hj2
        go_wp2_with fail
        go_quiet (fail)
        go_wp2_with fail
        go_quiet (fail)
        go_wp2_with fail
        go_ret
        first | exact ⟨rfl, HE.out _⟩ | (rw [drew2]; exact ⟨rfl, HE.out _⟩)
      · as_aux_lemma =>
        have hjs' : j < s.size := by omega
        have g1 : decide ((j : Int) < (s.size : Int)) = true := decide_eq_true (by omega)
        have hb := byteAt_eq s j hjs'
        have HC : Hid (∀ q, Calls Tryz.prog 154 #[.int .u8 (s[j].toNat : Int)] (wr.drewN q) fun e w' => e = .returned (.bool false) ∧ Kp wr w') := fun q => by
          have hy := HOut.out hjs'
          rw [hb] at hy
          refine (adig_any ((s[j]).toNat) (wr.drewN q)).mono ?_
          rintro e w' ⟨rfl, k⟩
          exact ⟨by show Ending.returned (Value.bool (digF (s[j]).toNat)) = _; rw [hy], kp_trans (kp_drewN _ q) k⟩
        clear hb
        have HFJ : Hid (∀ w2, Kp wr w2 → Fr (On b) w w2 ∧ Plc T s j b w2) := fun w2 k2 => ⟨HJ.out.1.trans (Fr.of_below k2), HJ.out.2.kp k2⟩
        clear HJ
        go_upto_region 2 with fail
        refine wp_region_noPanic ?_
        refine wp_region_held_drew (S := fun z => z.cell? ⟨b, 0, none⟩ = some (.string s) ∧ z.cell? ⟨b, 1, none⟩ = some (.int .i64 (j : Int))) (by kernel_rfl) (⟨kp_cell (kp_drew _) c0, kp_cell (kp_drew _) c1⟩) (fun hHeld => ?_)
        refine takeAt 0 (some 10) ?_ rfl rfl (by kernel_rfl) (by kernel_rfl) (by kernel_rfl) (fun _ _ _ h => h) (Or.inl ⟨by rfl, ?_⟩) hHeld ?_
        rotate_left
        · intro w hSw
          go_simp <;> with_reducible rfl
        try simp only [Act.put, List.setIfInBounds_toArray, List.set_cons_zero, List.set_cons_succ]
        refine takeAt 1 (some 11) ?_ rfl rfl (by kernel_rfl) (by kernel_rfl) (by kernel_rfl) (fun _ _ _ h => h) (Or.inl ⟨by rfl, ?_⟩) hHeld ?_
        rotate_left
        · intro w hSw
          go_simp <;> with_reducible rfl
        try simp only [Act.put, List.setIfInBounds_toArray, List.set_cons_zero, List.set_cons_succ]
        refine takeAt 2 (some 12) ?_ rfl rfl (by kernel_rfl) (by kernel_rfl) (by kernel_rfl) (fun _ _ _ h => h) (Or.inl ⟨by rfl, ?_⟩) hHeld ?_
        rotate_left
        · intro w hSw
          go_simp <;> with_reducible rfl
        try simp only [Act.put, List.setIfInBounds_toArray, List.set_cons_zero, List.set_cons_succ]
        refine takeAt 3 (some 13) ?_ rfl rfl (by kernel_rfl) (by kernel_rfl) (by kernel_rfl) (fun _ _ _ h => h) (Or.inl ⟨by rfl, ?_⟩) hHeld ?_
        rotate_left
        · intro w hSw
          go_simp <;> with_reducible rfl
        try simp only [Act.put, List.setIfInBounds_toArray, List.set_cons_zero, List.set_cons_succ]
        refine takeAt 4 (some 14) ?_ rfl rfl (by kernel_rfl) (by kernel_rfl) (by kernel_rfl) (fun _ _ _ h => h) (Or.inl ⟨by rfl, ?_⟩) hHeld ?_
        rotate_left
        · intro w hSw
          go_simp <;> with_reducible rfl
        try simp only [Act.put, List.setIfInBounds_toArray, List.set_cons_zero, List.set_cons_succ]
        refine takeAt 5 (some 15) ?_ rfl rfl (by kernel_rfl) (by kernel_rfl) (by kernel_rfl) (fun _ _ _ h => h) (Or.inl ⟨by rfl, ?_⟩) hHeld ?_
        rotate_left
        · intro w hSw
          go_simp <;> with_reducible rfl
        try simp only [Act.put, List.setIfInBounds_toArray, List.set_cons_zero, List.set_cons_succ]
        refine takeAt 6 (some 16) ?_ rfl rfl (by kernel_rfl) (by kernel_rfl) (by kernel_rfl) (fun _ _ _ h => h) (Or.inl ⟨by rfl, ?_⟩) hHeld ?_
        rotate_left
        · intro w hSw
          go_simp <;> with_reducible rfl
        try simp only [Act.put, List.setIfInBounds_toArray, List.set_cons_zero, List.set_cons_succ]
        refine takeAt 7 (some 17) ?_ rfl rfl (by kernel_rfl) (by kernel_rfl) (by kernel_rfl) (fun _ _ _ h => h) (Or.inl ⟨by rfl, ?_⟩) hHeld ?_
        rotate_left
        · intro w hSw
          go_simp <;> with_reducible rfl
        try simp only [Act.put, List.setIfInBounds_toArray, List.set_cons_zero, List.set_cons_succ]
        refine takeAt 8 (some 18) ?_ rfl rfl (by kernel_rfl) (by kernel_rfl) (by kernel_rfl) (fun _ _ _ h => h) (Or.inl ⟨by rfl, ?_⟩) hHeld ?_
        rotate_left
        · intro w hSw
          go_simp <;> with_reducible rfl
        try simp only [Act.put, List.setIfInBounds_toArray, List.set_cons_zero, List.set_cons_succ]
        refine takeAt 9 (some 19) ?_ rfl rfl (by kernel_rfl) (by kernel_rfl) (by kernel_rfl) (fun _ _ _ h => h) (Or.inl ⟨by rfl, ?_⟩) hHeld ?_
        rotate_left
        · intro w hSw
          go_simp <;> with_reducible rfl
        try simp only [Act.put, List.setIfInBounds_toArray, List.set_cons_zero, List.set_cons_succ]
        refine takeAt 10 (some 20) ?_ rfl rfl (by kernel_rfl) (by kernel_rfl) (by kernel_rfl) (fun _ _ _ h => h) (Or.inl ⟨by rfl, ?_⟩) hHeld ?_
        rotate_left
        · intro w hSw
          go_simp <;> with_reducible rfl
        try simp only [Act.put, List.setIfInBounds_toArray, List.set_cons_zero, List.set_cons_succ]
        refine takeAt 11 (some 21) ?_ rfl rfl (by kernel_rfl) (by kernel_rfl) (by kernel_rfl) (fun _ _ _ h => h) (Or.inl ⟨by rfl, ?_⟩) hHeld ?_
        rotate_left
        · intro w hSw
          go_simp <;> with_reducible rfl
        try simp only [Act.put, List.setIfInBounds_toArray, List.set_cons_zero, List.set_cons_succ]
        refine takeAt 12 (some 22) ?_ rfl rfl (by kernel_rfl) (by kernel_rfl) (by kernel_rfl) (fun _ _ _ h => h) (Or.inl ⟨by rfl, ?_⟩) hHeld ?_
        rotate_left
        · intro w hSw
          go_simp <;> with_reducible rfl
        try simp only [Act.put, List.setIfInBounds_toArray, List.set_cons_zero, List.set_cons_succ]
        refine takeAt 13 (some 23) ?_ rfl rfl (by kernel_rfl) (by kernel_rfl) (by kernel_rfl) (fun _ _ _ h => h) (Or.inl ⟨by rfl, ?_⟩) hHeld ?_
        rotate_left
        · intro w hSw
          go_simp <;> with_reducible rfl
        try simp only [Act.put, List.setIfInBounds_toArray, List.set_cons_zero, List.set_cons_succ]
        refine takeAt 14 (some 24) ?_ rfl rfl (by kernel_rfl) (by kernel_rfl) (by kernel_rfl) (fun _ _ _ h => h) (Or.inl ⟨by rfl, ?_⟩) hHeld ?_
        rotate_left
        · intro w hSw
          go_simp <;> with_reducible rfl
        try simp only [Act.put, List.setIfInBounds_toArray, List.set_cons_zero, List.set_cons_succ]
        refine takeAt 15 (some 25) ?_ rfl rfl (by kernel_rfl) (by kernel_rfl) (by kernel_rfl) (fun _ _ _ h => h) (Or.inl ⟨by rfl, ?_⟩) hHeld ?_
        rotate_left
        · intro w hSw
          go_simp <;> with_reducible rfl
        try simp only [Act.put, List.setIfInBounds_toArray, List.set_cons_zero, List.set_cons_succ]
        refine takeAt 16 (some 26) ?_ rfl rfl (by kernel_rfl) (by kernel_rfl) (by kernel_rfl) (fun _ _ _ h => h) (Or.inl ⟨by rfl, ?_⟩) hHeld ?_
        rotate_left
        · intro w hSw
          go_simp <;> with_reducible rfl
        try simp only [Act.put, List.setIfInBounds_toArray, List.set_cons_zero, List.set_cons_succ]
        refine takeAt 17 (some 27) ?_ rfl rfl (by kernel_rfl) (by kernel_rfl) (by kernel_rfl) (fun _ _ _ h => h) (Or.inl ⟨by rfl, ?_⟩) hHeld ?_
        rotate_left
        · intro w hSw
          go_simp <;> with_reducible rfl
        try simp only [Act.put, List.setIfInBounds_toArray, List.set_cons_zero, List.set_cons_succ]
        refine takeAt 18 (some 28) ?_ rfl rfl (by kernel_rfl) (by kernel_rfl) (by kernel_rfl) (fun _ _ _ h => h) (Or.inl ⟨by rfl, ?_⟩) hHeld ?_
        rotate_left
        · intro w hSw
          go_simp <;> with_reducible rfl
        try simp only [Act.put, List.setIfInBounds_toArray, List.set_cons_zero, List.set_cons_succ]
        refine takeAt 19 (some 29) ?_ rfl rfl (by kernel_rfl) (by kernel_rfl) (by kernel_rfl) (fun _ _ _ h => h) (Or.inl ⟨by rfl, ?_⟩) hHeld ?_
        rotate_left
        · intro w hSw
          go_simp <;> with_reducible rfl
        try simp only [Act.put, List.setIfInBounds_toArray, List.set_cons_zero, List.set_cons_succ]
        refine takeAt 20 (some 30) ?_ rfl rfl (by kernel_rfl) (by kernel_rfl) (by kernel_rfl) (fun _ _ _ h => h) (Or.inl ⟨by rfl, ?_⟩) hHeld ?_
        rotate_left
        · intro w hSw
          go_simp <;> with_reducible rfl
        try simp only [Act.put, List.setIfInBounds_toArray, List.set_cons_zero, List.set_cons_succ]
        refine wpAnyH_ready (rs := [21]) (by kernel_rfl) (by simp) ?_
        refine AllReadyH.cons rfl (fun K hK => ?_) AllReadyH.nil
        rw [if_pos (by rfl)]
        refine call_stepV 31 154 (vals := #[.int .u8 (s[j].toNat : Int)]) rfl rfl rfl (by simp [Act.eval]) Tryz.func154 (by kernel_rfl) (by kernel_rfl) ?_
        refine Calls.mono (HC.out 1) ?_
        rintro e w2 ⟨rfl, kk⟩
        obtain ⟨xf, xp⟩ := HFJ.out w2 kk
        have HX : Hid (Fr (On b) w w2 ∧ Plc T s j b w2) := ⟨xf, xp⟩
        clear xf xp kk
        refine ⟨_, rfl, ?_⟩
        refine hK.out _ _ ⟨HX.out.2.c0, HX.out.2.c1⟩ (fun hHeld => ?_)
        clear hK K
        try simp only [Act.put, List.setIfInBounds_toArray, List.set_cons_zero, List.set_cons_succ]
        refine takeAt 22 (some 32) ?_ rfl rfl (by kernel_rfl) (by kernel_rfl) (by kernel_rfl) (fun _ _ _ h => h) (Or.inl ⟨by rfl, ?_⟩) hHeld ?_
        rotate_left
        · intro w hSw
          go_simp <;> with_reducible rfl
        try simp only [Act.put, List.setIfInBounds_toArray, List.set_cons_zero, List.set_cons_succ]
        refine wpAnyH_done (by kernel_rfl) ?_ _
        refine NoPanic.normal ?_
        clear HC HFJ c0 c1 f1 hHeld
        have c0 := HX.out.2.c0
        have c1 := HX.out.2.c1
        have HE : Hid (∀ q, Fr (On b) w (w2.drewN q) ∧ Plc T s j b (w2.drewN q)) := fun q => ⟨HX.out.1.trans (Fr.drewN _ _ q), HX.out.2.kp (kp_drewN _ q)⟩
        have g5 : decide (at_ ≤ j) = true := decide_eq_true hE1
        clear HX
        go_wp2_with fail
        go_quiet (fail)
        go_wp2_with fail
        go_ret
        first | exact ⟨rfl, HE.out _⟩ | (rw [drew2]; exact ⟨rfl, HE.out _⟩)
set_option maxHeartbeats 8000000 in
theorem while_blk {T : TypeId} {s : ByteArray} {at_ b : Nat} {w : World} (h : Plc T s at_ b w) (hs : s.size ≤ 1000000) (ha : at_ ≤ s.size) :
    Calls Tryz.prog 125 #[.pointer (some ⟨b, 0, none⟩), .func (.func 128) #[] #[]] w fun e w' => e = .returned (.string (s.extract at_ (spanE blkF s at_))) ∧ Fr (On b) w w' ∧ Plc T s (spanE blkF s at_) b w' := by
  obtain ⟨E, hE⟩ : ∃ E, spanE blkF s at_ = E := ⟨_, rfl⟩
  have hE1 : at_ ≤ E := by rw [← hE]; exact spanE_ge
  have hE2 : E ≤ s.size := by rw [← hE]; exact spanE_le ha
  have HIn : Hid (∀ j, at_ ≤ j → j < E → blkF (byteAt s j) = true) := fun j h1 h2 => spanE_in h1 (by rw [hE]; exact h2)
  have HOut : Hid (E < s.size → blkF (byteAt s E) = false) := fun h1 => by have := spanE_out (f := blkF) (s := s) (k := at_); rw [hE] at this; exact this h1
  have HF0 : Hid (Fr (On b) w w ∧ Plc T s at_ b w) := ⟨Fr.refl _ _, h⟩
  have c1 := h.c1
  have c0 := h.c0
  rw [hE]
  clear h hE ha
  go_enter Tryz.func125, Tryz.ntmps125
  go_wp2_with fail
  go_loopw [] (fun wr => ∃ j, at_ ≤ j ∧ j ≤ E ∧ Hid (Fr (On b) w wr ∧ Plc T s j b wr)) (fun wr => E - plOf b wr)
  case atStart => exact ⟨at_, Nat.le_refl _, hE1, HF0.out⟩
  case round =>
    obtain ⟨j, hj1, hj2, HJ⟩ := hrel
    clear c0 c1
    have c0 := HJ.out.2.c0
    have c1 := HJ.out.2.c1
    have f1 := HJ.out.2.f1
    have hpl := HJ.out.2.pl
    by_cases hjE : j < E
    · have hjs : j < s.size := by omega
      have g1 : decide ((j : Int) < (s.size : Int)) = true := decide_eq_true (by omega)
      have hb := byteAt_eq s j hjs
      have HC : Hid (∀ q, Calls Tryz.prog 128 #[.int .u8 (s[j].toNat : Int)] (wr.drewN q) fun e w' => e = .returned (.bool true) ∧ Kp wr w') := fun q => by
        have hy := HIn.out j hj1 hjE
        rw [hb] at hy
        refine (ablk_any ((s[j]).toNat) (wr.drewN q)).mono ?_
        rintro e w' ⟨rfl, k⟩
        exact ⟨by show Ending.returned (Value.bool (blkF (s[j]).toNat)) = _; rw [hy], kp_trans (kp_drewN _ q) k⟩
      clear hb
      have HFJ : Hid (∀ w2, Kp wr w2 → Fr (On b) w w2 ∧ Plc T s j b w2) := fun w2 k2 => ⟨HJ.out.1.trans (Fr.of_below k2), HJ.out.2.kp k2⟩
      clear HJ
      go_upto_region 2 with fail
      refine wp_region_noPanic ?_
      refine wp_region_held_drew (S := fun z => z.cell? ⟨b, 0, none⟩ = some (.string s) ∧ z.cell? ⟨b, 1, none⟩ = some (.int .i64 (j : Int))) (by kernel_rfl) (⟨kp_cell (kp_drew _) c0, kp_cell (kp_drew _) c1⟩) (fun hHeld => ?_)
      refine takeAt 0 (some 10) ?_ rfl rfl (by kernel_rfl) (by kernel_rfl) (by kernel_rfl) (fun _ _ _ h => h) (Or.inl ⟨by rfl, ?_⟩) hHeld ?_
      rotate_left
      · intro w hSw
        go_simp <;> with_reducible rfl
      try simp only [Act.put, List.setIfInBounds_toArray, List.set_cons_zero, List.set_cons_succ]
      refine takeAt 1 (some 11) ?_ rfl rfl (by kernel_rfl) (by kernel_rfl) (by kernel_rfl) (fun _ _ _ h => h) (Or.inl ⟨by rfl, ?_⟩) hHeld ?_
      rotate_left
      · intro w hSw
        go_simp <;> with_reducible rfl
      try simp only [Act.put, List.setIfInBounds_toArray, List.set_cons_zero, List.set_cons_succ]
      refine takeAt 2 (some 12) ?_ rfl rfl (by kernel_rfl) (by kernel_rfl) (by kernel_rfl) (fun _ _ _ h => h) (Or.inl ⟨by rfl, ?_⟩) hHeld ?_
      rotate_left
      · intro w hSw
        go_simp <;> with_reducible rfl
      try simp only [Act.put, List.setIfInBounds_toArray, List.set_cons_zero, List.set_cons_succ]
      refine takeAt 3 (some 13) ?_ rfl rfl (by kernel_rfl) (by kernel_rfl) (by kernel_rfl) (fun _ _ _ h => h) (Or.inl ⟨by rfl, ?_⟩) hHeld ?_
      rotate_left
      · intro w hSw
        go_simp <;> with_reducible rfl
      try simp only [Act.put, List.setIfInBounds_toArray, List.set_cons_zero, List.set_cons_succ]
      refine takeAt 4 (some 14) ?_ rfl rfl (by kernel_rfl) (by kernel_rfl) (by kernel_rfl) (fun _ _ _ h => h) (Or.inl ⟨by rfl, ?_⟩) hHeld ?_
      rotate_left
      · intro w hSw
        go_simp <;> with_reducible rfl
      try simp only [Act.put, List.setIfInBounds_toArray, List.set_cons_zero, List.set_cons_succ]
      refine takeAt 5 (some 15) ?_ rfl rfl (by kernel_rfl) (by kernel_rfl) (by kernel_rfl) (fun _ _ _ h => h) (Or.inl ⟨by rfl, ?_⟩) hHeld ?_
      rotate_left
      · intro w hSw
        go_simp <;> with_reducible rfl
      try simp only [Act.put, List.setIfInBounds_toArray, List.set_cons_zero, List.set_cons_succ]
      refine takeAt 6 (some 16) ?_ rfl rfl (by kernel_rfl) (by kernel_rfl) (by kernel_rfl) (fun _ _ _ h => h) (Or.inl ⟨by rfl, ?_⟩) hHeld ?_
      rotate_left
      · intro w hSw
        go_simp <;> with_reducible rfl
      try simp only [Act.put, List.setIfInBounds_toArray, List.set_cons_zero, List.set_cons_succ]
      refine takeAt 7 (some 17) ?_ rfl rfl (by kernel_rfl) (by kernel_rfl) (by kernel_rfl) (fun _ _ _ h => h) (Or.inl ⟨by rfl, ?_⟩) hHeld ?_
      rotate_left
      · intro w hSw
        go_simp <;> with_reducible rfl
      try simp only [Act.put, List.setIfInBounds_toArray, List.set_cons_zero, List.set_cons_succ]
      refine takeAt 8 (some 18) ?_ rfl rfl (by kernel_rfl) (by kernel_rfl) (by kernel_rfl) (fun _ _ _ h => h) (Or.inl ⟨by rfl, ?_⟩) hHeld ?_
      rotate_left
      · intro w hSw
        go_simp <;> with_reducible rfl
      try simp only [Act.put, List.setIfInBounds_toArray, List.set_cons_zero, List.set_cons_succ]
      refine takeAt 9 (some 19) ?_ rfl rfl (by kernel_rfl) (by kernel_rfl) (by kernel_rfl) (fun _ _ _ h => h) (Or.inl ⟨by rfl, ?_⟩) hHeld ?_
      rotate_left
      · intro w hSw
        go_simp <;> with_reducible rfl
      try simp only [Act.put, List.setIfInBounds_toArray, List.set_cons_zero, List.set_cons_succ]
      refine takeAt 10 (some 20) ?_ rfl rfl (by kernel_rfl) (by kernel_rfl) (by kernel_rfl) (fun _ _ _ h => h) (Or.inl ⟨by rfl, ?_⟩) hHeld ?_
      rotate_left
      · intro w hSw
        go_simp <;> with_reducible rfl
      try simp only [Act.put, List.setIfInBounds_toArray, List.set_cons_zero, List.set_cons_succ]
      refine takeAt 11 (some 21) ?_ rfl rfl (by kernel_rfl) (by kernel_rfl) (by kernel_rfl) (fun _ _ _ h => h) (Or.inl ⟨by rfl, ?_⟩) hHeld ?_
      rotate_left
      · intro w hSw
        go_simp <;> with_reducible rfl
      try simp only [Act.put, List.setIfInBounds_toArray, List.set_cons_zero, List.set_cons_succ]
      refine takeAt 12 (some 22) ?_ rfl rfl (by kernel_rfl) (by kernel_rfl) (by kernel_rfl) (fun _ _ _ h => h) (Or.inl ⟨by rfl, ?_⟩) hHeld ?_
      rotate_left
      · intro w hSw
        go_simp <;> with_reducible rfl
      try simp only [Act.put, List.setIfInBounds_toArray, List.set_cons_zero, List.set_cons_succ]
      refine takeAt 13 (some 23) ?_ rfl rfl (by kernel_rfl) (by kernel_rfl) (by kernel_rfl) (fun _ _ _ h => h) (Or.inl ⟨by rfl, ?_⟩) hHeld ?_
      rotate_left
      · intro w hSw
        go_simp <;> with_reducible rfl
      try simp only [Act.put, List.setIfInBounds_toArray, List.set_cons_zero, List.set_cons_succ]
      refine takeAt 14 (some 24) ?_ rfl rfl (by kernel_rfl) (by kernel_rfl) (by kernel_rfl) (fun _ _ _ h => h) (Or.inl ⟨by rfl, ?_⟩) hHeld ?_
      rotate_left
      · intro w hSw
        go_simp <;> with_reducible rfl
      try simp only [Act.put, List.setIfInBounds_toArray, List.set_cons_zero, List.set_cons_succ]
      refine takeAt 15 (some 25) ?_ rfl rfl (by kernel_rfl) (by kernel_rfl) (by kernel_rfl) (fun _ _ _ h => h) (Or.inl ⟨by rfl, ?_⟩) hHeld ?_
      rotate_left
      · intro w hSw
        go_simp <;> with_reducible rfl
      try simp only [Act.put, List.setIfInBounds_toArray, List.set_cons_zero, List.set_cons_succ]
      refine takeAt 16 (some 26) ?_ rfl rfl (by kernel_rfl) (by kernel_rfl) (by kernel_rfl) (fun _ _ _ h => h) (Or.inl ⟨by rfl, ?_⟩) hHeld ?_
      rotate_left
      · intro w hSw
        go_simp <;> with_reducible rfl
      try simp only [Act.put, List.setIfInBounds_toArray, List.set_cons_zero, List.set_cons_succ]
      refine takeAt 17 (some 27) ?_ rfl rfl (by kernel_rfl) (by kernel_rfl) (by kernel_rfl) (fun _ _ _ h => h) (Or.inl ⟨by rfl, ?_⟩) hHeld ?_
      rotate_left
      · intro w hSw
        go_simp <;> with_reducible rfl
      try simp only [Act.put, List.setIfInBounds_toArray, List.set_cons_zero, List.set_cons_succ]
      refine takeAt 18 (some 28) ?_ rfl rfl (by kernel_rfl) (by kernel_rfl) (by kernel_rfl) (fun _ _ _ h => h) (Or.inl ⟨by rfl, ?_⟩) hHeld ?_
      rotate_left
      · intro w hSw
        go_simp <;> with_reducible rfl
      try simp only [Act.put, List.setIfInBounds_toArray, List.set_cons_zero, List.set_cons_succ]
      refine takeAt 19 (some 29) ?_ rfl rfl (by kernel_rfl) (by kernel_rfl) (by kernel_rfl) (fun _ _ _ h => h) (Or.inl ⟨by rfl, ?_⟩) hHeld ?_
      rotate_left
      · intro w hSw
        go_simp <;> with_reducible rfl
      try simp only [Act.put, List.setIfInBounds_toArray, List.set_cons_zero, List.set_cons_succ]
      refine takeAt 20 (some 30) ?_ rfl rfl (by kernel_rfl) (by kernel_rfl) (by kernel_rfl) (fun _ _ _ h => h) (Or.inl ⟨by rfl, ?_⟩) hHeld ?_
      rotate_left
      · intro w hSw
        go_simp <;> with_reducible rfl
      try simp only [Act.put, List.setIfInBounds_toArray, List.set_cons_zero, List.set_cons_succ]
      refine wpAnyH_ready (rs := [21]) (by kernel_rfl) (by simp) ?_
      refine AllReadyH.cons rfl (fun K hK => ?_) AllReadyH.nil
      rw [if_pos (by rfl)]
      refine call_stepV 31 128 (vals := #[.int .u8 (s[j].toNat : Int)]) rfl rfl rfl (by simp [Act.eval]) Tryz.func128 (by kernel_rfl) (by kernel_rfl) ?_
      refine Calls.mono (HC.out 1) ?_
      rintro e w2 ⟨rfl, kk⟩
      obtain ⟨xf, xp⟩ := HFJ.out w2 kk
      have HX : Hid (Fr (On b) w w2 ∧ Plc T s j b w2) := ⟨xf, xp⟩
      clear xf xp kk
      refine ⟨_, rfl, ?_⟩
      refine hK.out _ _ ⟨HX.out.2.c0, HX.out.2.c1⟩ (fun hHeld => ?_)
      clear hK K
      try simp only [Act.put, List.setIfInBounds_toArray, List.set_cons_zero, List.set_cons_succ]
      refine takeAt 22 (some 32) ?_ rfl rfl (by kernel_rfl) (by kernel_rfl) (by kernel_rfl) (fun _ _ _ h => h) (Or.inl ⟨by rfl, ?_⟩) hHeld ?_
      rotate_left
      · intro w hSw
        go_simp <;> with_reducible rfl
      try simp only [Act.put, List.setIfInBounds_toArray, List.set_cons_zero, List.set_cons_succ]
      refine wpAnyH_done (by kernel_rfl) ?_ _
      refine NoPanic.normal ?_
      clear HC HFJ c0 c1 f1 hHeld
      have c0 := HX.out.2.c0
      have c1 := HX.out.2.c1
      have f1 := HX.out.2.f1
      go_wp2_with fail
      exact ⟨⟨j + 1, by omega, by omega, HX.out.1.trans (fr_set _ _ _ _), HX.out.2.to (j + 1)⟩, by rw [hpl]; have e := (HX.out.2.to (j + 1)).pl; have e' : plOf b (w2.setCell ⟨b, 1, none⟩ (.int .i64 ((j : Int) + 1))) = j + 1 := e; rw [e']; omega⟩
    · obtain rfl : j = E := by omega
      by_cases hjs : j = s.size
      · as_aux_lemma =>
        subst hjs
        have g1 : decide ((s.size : Int) < (s.size : Int)) = false := by simp
        have HE : Hid (∀ q, Fr (On b) w (wr.drewN q) ∧ Plc T s s.size b (wr.drewN q)) := fun q => ⟨HJ.out.1.trans (Fr.drewN _ _ q), HJ.out.2.kp (kp_drewN _ q)⟩
        have g5 : decide (at_ ≤ s.size) = true := decide_eq_true hE1
        clear HJ hjE hE2 hj1 hj2
        go_wp2_with fail
        go_quiet (fail)
        go_wp2_with fail
        go_quiet (fail)
        go_wp2_with fail
        go_ret
        first | exact ⟨rfl, HE.out _⟩ | (rw [drew2]; exact ⟨rfl, HE.out _⟩)
      · as_aux_lemma =>
        have hjs' : j < s.size := by omega
        have g1 : decide ((j : Int) < (s.size : Int)) = true := decide_eq_true (by omega)
        have hb := byteAt_eq s j hjs'
        have HC : Hid (∀ q, Calls Tryz.prog 128 #[.int .u8 (s[j].toNat : Int)] (wr.drewN q) fun e w' => e = .returned (.bool false) ∧ Kp wr w') := fun q => by
          have hy := HOut.out hjs'
          rw [hb] at hy
          refine (ablk_any ((s[j]).toNat) (wr.drewN q)).mono ?_
          rintro e w' ⟨rfl, k⟩
          exact ⟨by show Ending.returned (Value.bool (blkF (s[j]).toNat)) = _; rw [hy], kp_trans (kp_drewN _ q) k⟩
        clear hb
        have HFJ : Hid (∀ w2, Kp wr w2 → Fr (On b) w w2 ∧ Plc T s j b w2) := fun w2 k2 => ⟨HJ.out.1.trans (Fr.of_below k2), HJ.out.2.kp k2⟩
        clear HJ
        go_upto_region 2 with fail
        refine wp_region_noPanic ?_
        refine wp_region_held_drew (S := fun z => z.cell? ⟨b, 0, none⟩ = some (.string s) ∧ z.cell? ⟨b, 1, none⟩ = some (.int .i64 (j : Int))) (by kernel_rfl) (⟨kp_cell (kp_drew _) c0, kp_cell (kp_drew _) c1⟩) (fun hHeld => ?_)
        refine takeAt 0 (some 10) ?_ rfl rfl (by kernel_rfl) (by kernel_rfl) (by kernel_rfl) (fun _ _ _ h => h) (Or.inl ⟨by rfl, ?_⟩) hHeld ?_
        rotate_left
        · intro w hSw
          go_simp <;> with_reducible rfl
        try simp only [Act.put, List.setIfInBounds_toArray, List.set_cons_zero, List.set_cons_succ]
        refine takeAt 1 (some 11) ?_ rfl rfl (by kernel_rfl) (by kernel_rfl) (by kernel_rfl) (fun _ _ _ h => h) (Or.inl ⟨by rfl, ?_⟩) hHeld ?_
        rotate_left
        · intro w hSw
          go_simp <;> with_reducible rfl
        try simp only [Act.put, List.setIfInBounds_toArray, List.set_cons_zero, List.set_cons_succ]
        refine takeAt 2 (some 12) ?_ rfl rfl (by kernel_rfl) (by kernel_rfl) (by kernel_rfl) (fun _ _ _ h => h) (Or.inl ⟨by rfl, ?_⟩) hHeld ?_
        rotate_left
        · intro w hSw
          go_simp <;> with_reducible rfl
        try simp only [Act.put, List.setIfInBounds_toArray, List.set_cons_zero, List.set_cons_succ]
        refine takeAt 3 (some 13) ?_ rfl rfl (by kernel_rfl) (by kernel_rfl) (by kernel_rfl) (fun _ _ _ h => h) (Or.inl ⟨by rfl, ?_⟩) hHeld ?_
        rotate_left
        · intro w hSw
          go_simp <;> with_reducible rfl
        try simp only [Act.put, List.setIfInBounds_toArray, List.set_cons_zero, List.set_cons_succ]
        refine takeAt 4 (some 14) ?_ rfl rfl (by kernel_rfl) (by kernel_rfl) (by kernel_rfl) (fun _ _ _ h => h) (Or.inl ⟨by rfl, ?_⟩) hHeld ?_
        rotate_left
        · intro w hSw
          go_simp <;> with_reducible rfl
        try simp only [Act.put, List.setIfInBounds_toArray, List.set_cons_zero, List.set_cons_succ]
        refine takeAt 5 (some 15) ?_ rfl rfl (by kernel_rfl) (by kernel_rfl) (by kernel_rfl) (fun _ _ _ h => h) (Or.inl ⟨by rfl, ?_⟩) hHeld ?_
        rotate_left
        · intro w hSw
          go_simp <;> with_reducible rfl
        try simp only [Act.put, List.setIfInBounds_toArray, List.set_cons_zero, List.set_cons_succ]
        refine takeAt 6 (some 16) ?_ rfl rfl (by kernel_rfl) (by kernel_rfl) (by kernel_rfl) (fun _ _ _ h => h) (Or.inl ⟨by rfl, ?_⟩) hHeld ?_
        rotate_left
        · intro w hSw
          go_simp <;> with_reducible rfl
        try simp only [Act.put, List.setIfInBounds_toArray, List.set_cons_zero, List.set_cons_succ]
        refine takeAt 7 (some 17) ?_ rfl rfl (by kernel_rfl) (by kernel_rfl) (by kernel_rfl) (fun _ _ _ h => h) (Or.inl ⟨by rfl, ?_⟩) hHeld ?_
        rotate_left
        · intro w hSw
          go_simp <;> with_reducible rfl
        try simp only [Act.put, List.setIfInBounds_toArray, List.set_cons_zero, List.set_cons_succ]
        refine takeAt 8 (some 18) ?_ rfl rfl (by kernel_rfl) (by kernel_rfl) (by kernel_rfl) (fun _ _ _ h => h) (Or.inl ⟨by rfl, ?_⟩) hHeld ?_
        rotate_left
        · intro w hSw
          go_simp <;> with_reducible rfl
        try simp only [Act.put, List.setIfInBounds_toArray, List.set_cons_zero, List.set_cons_succ]
        refine takeAt 9 (some 19) ?_ rfl rfl (by kernel_rfl) (by kernel_rfl) (by kernel_rfl) (fun _ _ _ h => h) (Or.inl ⟨by rfl, ?_⟩) hHeld ?_
        rotate_left
        · intro w hSw
          go_simp <;> with_reducible rfl
        try simp only [Act.put, List.setIfInBounds_toArray, List.set_cons_zero, List.set_cons_succ]
        refine takeAt 10 (some 20) ?_ rfl rfl (by kernel_rfl) (by kernel_rfl) (by kernel_rfl) (fun _ _ _ h => h) (Or.inl ⟨by rfl, ?_⟩) hHeld ?_
        rotate_left
        · intro w hSw
          go_simp <;> with_reducible rfl
        try simp only [Act.put, List.setIfInBounds_toArray, List.set_cons_zero, List.set_cons_succ]
        refine takeAt 11 (some 21) ?_ rfl rfl (by kernel_rfl) (by kernel_rfl) (by kernel_rfl) (fun _ _ _ h => h) (Or.inl ⟨by rfl, ?_⟩) hHeld ?_
        rotate_left
        · intro w hSw
          go_simp <;> with_reducible rfl
        try simp only [Act.put, List.setIfInBounds_toArray, List.set_cons_zero, List.set_cons_succ]
        refine takeAt 12 (some 22) ?_ rfl rfl (by kernel_rfl) (by kernel_rfl) (by kernel_rfl) (fun _ _ _ h => h) (Or.inl ⟨by rfl, ?_⟩) hHeld ?_
        rotate_left
        · intro w hSw
          go_simp <;> with_reducible rfl
        try simp only [Act.put, List.setIfInBounds_toArray, List.set_cons_zero, List.set_cons_succ]
        refine takeAt 13 (some 23) ?_ rfl rfl (by kernel_rfl) (by kernel_rfl) (by kernel_rfl) (fun _ _ _ h => h) (Or.inl ⟨by rfl, ?_⟩) hHeld ?_
        rotate_left
        · intro w hSw
          go_simp <;> with_reducible rfl
        try simp only [Act.put, List.setIfInBounds_toArray, List.set_cons_zero, List.set_cons_succ]
        refine takeAt 14 (some 24) ?_ rfl rfl (by kernel_rfl) (by kernel_rfl) (by kernel_rfl) (fun _ _ _ h => h) (Or.inl ⟨by rfl, ?_⟩) hHeld ?_
        rotate_left
        · intro w hSw
          go_simp <;> with_reducible rfl
        try simp only [Act.put, List.setIfInBounds_toArray, List.set_cons_zero, List.set_cons_succ]
        refine takeAt 15 (some 25) ?_ rfl rfl (by kernel_rfl) (by kernel_rfl) (by kernel_rfl) (fun _ _ _ h => h) (Or.inl ⟨by rfl, ?_⟩) hHeld ?_
        rotate_left
        · intro w hSw
          go_simp <;> with_reducible rfl
        try simp only [Act.put, List.setIfInBounds_toArray, List.set_cons_zero, List.set_cons_succ]
        refine takeAt 16 (some 26) ?_ rfl rfl (by kernel_rfl) (by kernel_rfl) (by kernel_rfl) (fun _ _ _ h => h) (Or.inl ⟨by rfl, ?_⟩) hHeld ?_
        rotate_left
        · intro w hSw
          go_simp <;> with_reducible rfl
        try simp only [Act.put, List.setIfInBounds_toArray, List.set_cons_zero, List.set_cons_succ]
        refine takeAt 17 (some 27) ?_ rfl rfl (by kernel_rfl) (by kernel_rfl) (by kernel_rfl) (fun _ _ _ h => h) (Or.inl ⟨by rfl, ?_⟩) hHeld ?_
        rotate_left
        · intro w hSw
          go_simp <;> with_reducible rfl
        try simp only [Act.put, List.setIfInBounds_toArray, List.set_cons_zero, List.set_cons_succ]
        refine takeAt 18 (some 28) ?_ rfl rfl (by kernel_rfl) (by kernel_rfl) (by kernel_rfl) (fun _ _ _ h => h) (Or.inl ⟨by rfl, ?_⟩) hHeld ?_
        rotate_left
        · intro w hSw
          go_simp <;> with_reducible rfl
        try simp only [Act.put, List.setIfInBounds_toArray, List.set_cons_zero, List.set_cons_succ]
        refine takeAt 19 (some 29) ?_ rfl rfl (by kernel_rfl) (by kernel_rfl) (by kernel_rfl) (fun _ _ _ h => h) (Or.inl ⟨by rfl, ?_⟩) hHeld ?_
        rotate_left
        · intro w hSw
          go_simp <;> with_reducible rfl
        try simp only [Act.put, List.setIfInBounds_toArray, List.set_cons_zero, List.set_cons_succ]
        refine takeAt 20 (some 30) ?_ rfl rfl (by kernel_rfl) (by kernel_rfl) (by kernel_rfl) (fun _ _ _ h => h) (Or.inl ⟨by rfl, ?_⟩) hHeld ?_
        rotate_left
        · intro w hSw
          go_simp <;> with_reducible rfl
        try simp only [Act.put, List.setIfInBounds_toArray, List.set_cons_zero, List.set_cons_succ]
        refine wpAnyH_ready (rs := [21]) (by kernel_rfl) (by simp) ?_
        refine AllReadyH.cons rfl (fun K hK => ?_) AllReadyH.nil
        rw [if_pos (by rfl)]
        refine call_stepV 31 128 (vals := #[.int .u8 (s[j].toNat : Int)]) rfl rfl rfl (by simp [Act.eval]) Tryz.func128 (by kernel_rfl) (by kernel_rfl) ?_
        refine Calls.mono (HC.out 1) ?_
        rintro e w2 ⟨rfl, kk⟩
        obtain ⟨xf, xp⟩ := HFJ.out w2 kk
        have HX : Hid (Fr (On b) w w2 ∧ Plc T s j b w2) := ⟨xf, xp⟩
        clear xf xp kk
        refine ⟨_, rfl, ?_⟩
        refine hK.out _ _ ⟨HX.out.2.c0, HX.out.2.c1⟩ (fun hHeld => ?_)
        clear hK K
        try simp only [Act.put, List.setIfInBounds_toArray, List.set_cons_zero, List.set_cons_succ]
        refine takeAt 22 (some 32) ?_ rfl rfl (by kernel_rfl) (by kernel_rfl) (by kernel_rfl) (fun _ _ _ h => h) (Or.inl ⟨by rfl, ?_⟩) hHeld ?_
        rotate_left
        · intro w hSw
          go_simp <;> with_reducible rfl
        try simp only [Act.put, List.setIfInBounds_toArray, List.set_cons_zero, List.set_cons_succ]
        refine wpAnyH_done (by kernel_rfl) ?_ _
        refine NoPanic.normal ?_
        clear HC HFJ c0 c1 f1 hHeld
        have c0 := HX.out.2.c0
        have c1 := HX.out.2.c1
        have HE : Hid (∀ q, Fr (On b) w (w2.drewN q) ∧ Plc T s j b (w2.drewN q)) := fun q => ⟨HX.out.1.trans (Fr.drewN _ _ q), HX.out.2.kp (kp_drewN _ q)⟩
        have g5 : decide (at_ ≤ j) = true := decide_eq_true hE1
        clear HX
        go_wp2_with fail
        go_quiet (fail)
        go_wp2_with fail
        go_ret
        first | exact ⟨rfl, HE.out _⟩ | (rw [drew2]; exact ⟨rfl, HE.out _⟩)
set_option maxHeartbeats 8000000 in
theorem while_ahe {T : TypeId} {s : ByteArray} {at_ b : Nat} {w : World} (h : Plc T s at_ b w) (hs : s.size ≤ 1000000) (ha : at_ ≤ s.size) :
    Calls Tryz.prog 125 #[.pointer (some ⟨b, 0, none⟩), .func (.func 126) #[] #[]] w fun e w' => e = .returned (.string (s.extract at_ (spanE aheF s at_))) ∧ Fr (On b) w w' ∧ Plc T s (spanE aheF s at_) b w' := by
  obtain ⟨E, hE⟩ : ∃ E, spanE aheF s at_ = E := ⟨_, rfl⟩
  have hE1 : at_ ≤ E := by rw [← hE]; exact spanE_ge
  have hE2 : E ≤ s.size := by rw [← hE]; exact spanE_le ha
  have HIn : Hid (∀ j, at_ ≤ j → j < E → aheF (byteAt s j) = true) := fun j h1 h2 => spanE_in h1 (by rw [hE]; exact h2)
  have HOut : Hid (E < s.size → aheF (byteAt s E) = false) := fun h1 => by have := spanE_out (f := aheF) (s := s) (k := at_); rw [hE] at this; exact this h1
  have HF0 : Hid (Fr (On b) w w ∧ Plc T s at_ b w) := ⟨Fr.refl _ _, h⟩
  have c1 := h.c1
  have c0 := h.c0
  rw [hE]
  clear h hE ha
  go_enter Tryz.func125, Tryz.ntmps125
  go_wp2_with fail
  go_loopw [] (fun wr => ∃ j, at_ ≤ j ∧ j ≤ E ∧ Hid (Fr (On b) w wr ∧ Plc T s j b wr)) (fun wr => E - plOf b wr)
  case atStart => exact ⟨at_, Nat.le_refl _, hE1, HF0.out⟩
  case round =>
    obtain ⟨j, hj1, hj2, HJ⟩ := hrel
    clear c0 c1
    have c0 := HJ.out.2.c0
    have c1 := HJ.out.2.c1
    have f1 := HJ.out.2.f1
    have hpl := HJ.out.2.pl
    by_cases hjE : j < E
    · have hjs : j < s.size := by omega
      have g1 : decide ((j : Int) < (s.size : Int)) = true := decide_eq_true (by omega)
      have hb := byteAt_eq s j hjs
      have HC : Hid (∀ q, Calls Tryz.prog 126 #[.int .u8 (s[j].toNat : Int)] (wr.drewN q) fun e w' => e = .returned (.bool true) ∧ Kp wr w') := fun q => by
        have hy := HIn.out j hj1 hjE
        rw [hb] at hy
        refine (aahe_any ((s[j]).toNat) (wr.drewN q)).mono ?_
        rintro e w' ⟨rfl, k⟩
        exact ⟨by show Ending.returned (Value.bool (aheF (s[j]).toNat)) = _; rw [hy], kp_trans (kp_drewN _ q) k⟩
      clear hb
      have HFJ : Hid (∀ w2, Kp wr w2 → Fr (On b) w w2 ∧ Plc T s j b w2) := fun w2 k2 => ⟨HJ.out.1.trans (Fr.of_below k2), HJ.out.2.kp k2⟩
      clear HJ
      go_upto_region 2 with fail
      refine wp_region_noPanic ?_
      refine wp_region_held_drew (S := fun z => z.cell? ⟨b, 0, none⟩ = some (.string s) ∧ z.cell? ⟨b, 1, none⟩ = some (.int .i64 (j : Int))) (by kernel_rfl) (⟨kp_cell (kp_drew _) c0, kp_cell (kp_drew _) c1⟩) (fun hHeld => ?_)
      refine takeAt 0 (some 10) ?_ rfl rfl (by kernel_rfl) (by kernel_rfl) (by kernel_rfl) (fun _ _ _ h => h) (Or.inl ⟨by rfl, ?_⟩) hHeld ?_
      rotate_left
      · intro w hSw
        go_simp <;> with_reducible rfl
      try simp only [Act.put, List.setIfInBounds_toArray, List.set_cons_zero, List.set_cons_succ]
      refine takeAt 1 (some 11) ?_ rfl rfl (by kernel_rfl) (by kernel_rfl) (by kernel_rfl) (fun _ _ _ h => h) (Or.inl ⟨by rfl, ?_⟩) hHeld ?_
      rotate_left
      · intro w hSw
        go_simp <;> with_reducible rfl
      try simp only [Act.put, List.setIfInBounds_toArray, List.set_cons_zero, List.set_cons_succ]
      refine takeAt 2 (some 12) ?_ rfl rfl (by kernel_rfl) (by kernel_rfl) (by kernel_rfl) (fun _ _ _ h => h) (Or.inl ⟨by rfl, ?_⟩) hHeld ?_
      rotate_left
      · intro w hSw
        go_simp <;> with_reducible rfl
      try simp only [Act.put, List.setIfInBounds_toArray, List.set_cons_zero, List.set_cons_succ]
      refine takeAt 3 (some 13) ?_ rfl rfl (by kernel_rfl) (by kernel_rfl) (by kernel_rfl) (fun _ _ _ h => h) (Or.inl ⟨by rfl, ?_⟩) hHeld ?_
      rotate_left
      · intro w hSw
        go_simp <;> with_reducible rfl
      try simp only [Act.put, List.setIfInBounds_toArray, List.set_cons_zero, List.set_cons_succ]
      refine takeAt 4 (some 14) ?_ rfl rfl (by kernel_rfl) (by kernel_rfl) (by kernel_rfl) (fun _ _ _ h => h) (Or.inl ⟨by rfl, ?_⟩) hHeld ?_
      rotate_left
      · intro w hSw
        go_simp <;> with_reducible rfl
      try simp only [Act.put, List.setIfInBounds_toArray, List.set_cons_zero, List.set_cons_succ]
      refine takeAt 5 (some 15) ?_ rfl rfl (by kernel_rfl) (by kernel_rfl) (by kernel_rfl) (fun _ _ _ h => h) (Or.inl ⟨by rfl, ?_⟩) hHeld ?_
      rotate_left
      · intro w hSw
        go_simp <;> with_reducible rfl
      try simp only [Act.put, List.setIfInBounds_toArray, List.set_cons_zero, List.set_cons_succ]
      refine takeAt 6 (some 16) ?_ rfl rfl (by kernel_rfl) (by kernel_rfl) (by kernel_rfl) (fun _ _ _ h => h) (Or.inl ⟨by rfl, ?_⟩) hHeld ?_
      rotate_left
      · intro w hSw
        go_simp <;> with_reducible rfl
      try simp only [Act.put, List.setIfInBounds_toArray, List.set_cons_zero, List.set_cons_succ]
      refine takeAt 7 (some 17) ?_ rfl rfl (by kernel_rfl) (by kernel_rfl) (by kernel_rfl) (fun _ _ _ h => h) (Or.inl ⟨by rfl, ?_⟩) hHeld ?_
      rotate_left
      · intro w hSw
        go_simp <;> with_reducible rfl
      try simp only [Act.put, List.setIfInBounds_toArray, List.set_cons_zero, List.set_cons_succ]
      refine takeAt 8 (some 18) ?_ rfl rfl (by kernel_rfl) (by kernel_rfl) (by kernel_rfl) (fun _ _ _ h => h) (Or.inl ⟨by rfl, ?_⟩) hHeld ?_
      rotate_left
      · intro w hSw
        go_simp <;> with_reducible rfl
      try simp only [Act.put, List.setIfInBounds_toArray, List.set_cons_zero, List.set_cons_succ]
      refine takeAt 9 (some 19) ?_ rfl rfl (by kernel_rfl) (by kernel_rfl) (by kernel_rfl) (fun _ _ _ h => h) (Or.inl ⟨by rfl, ?_⟩) hHeld ?_
      rotate_left
      · intro w hSw
        go_simp <;> with_reducible rfl
      try simp only [Act.put, List.setIfInBounds_toArray, List.set_cons_zero, List.set_cons_succ]
      refine takeAt 10 (some 20) ?_ rfl rfl (by kernel_rfl) (by kernel_rfl) (by kernel_rfl) (fun _ _ _ h => h) (Or.inl ⟨by rfl, ?_⟩) hHeld ?_
      rotate_left
      · intro w hSw
        go_simp <;> with_reducible rfl
      try simp only [Act.put, List.setIfInBounds_toArray, List.set_cons_zero, List.set_cons_succ]
      refine takeAt 11 (some 21) ?_ rfl rfl (by kernel_rfl) (by kernel_rfl) (by kernel_rfl) (fun _ _ _ h => h) (Or.inl ⟨by rfl, ?_⟩) hHeld ?_
      rotate_left
      · intro w hSw
        go_simp <;> with_reducible rfl
      try simp only [Act.put, List.setIfInBounds_toArray, List.set_cons_zero, List.set_cons_succ]
      refine takeAt 12 (some 22) ?_ rfl rfl (by kernel_rfl) (by kernel_rfl) (by kernel_rfl) (fun _ _ _ h => h) (Or.inl ⟨by rfl, ?_⟩) hHeld ?_
      rotate_left
      · intro w hSw
        go_simp <;> with_reducible rfl
      try simp only [Act.put, List.setIfInBounds_toArray, List.set_cons_zero, List.set_cons_succ]
      refine takeAt 13 (some 23) ?_ rfl rfl (by kernel_rfl) (by kernel_rfl) (by kernel_rfl) (fun _ _ _ h => h) (Or.inl ⟨by rfl, ?_⟩) hHeld ?_
      rotate_left
      · intro w hSw
        go_simp <;> with_reducible rfl
      try simp only [Act.put, List.setIfInBounds_toArray, List.set_cons_zero, List.set_cons_succ]
      refine takeAt 14 (some 24) ?_ rfl rfl (by kernel_rfl) (by kernel_rfl) (by kernel_rfl) (fun _ _ _ h => h) (Or.inl ⟨by rfl, ?_⟩) hHeld ?_
      rotate_left
      · intro w hSw
        go_simp <;> with_reducible rfl
      try simp only [Act.put, List.setIfInBounds_toArray, List.set_cons_zero, List.set_cons_succ]
      refine takeAt 15 (some 25) ?_ rfl rfl (by kernel_rfl) (by kernel_rfl) (by kernel_rfl) (fun _ _ _ h => h) (Or.inl ⟨by rfl, ?_⟩) hHeld ?_
      rotate_left
      · intro w hSw
        go_simp <;> with_reducible rfl
      try simp only [Act.put, List.setIfInBounds_toArray, List.set_cons_zero, List.set_cons_succ]
      refine takeAt 16 (some 26) ?_ rfl rfl (by kernel_rfl) (by kernel_rfl) (by kernel_rfl) (fun _ _ _ h => h) (Or.inl ⟨by rfl, ?_⟩) hHeld ?_
      rotate_left
      · intro w hSw
        go_simp <;> with_reducible rfl
      try simp only [Act.put, List.setIfInBounds_toArray, List.set_cons_zero, List.set_cons_succ]
      refine takeAt 17 (some 27) ?_ rfl rfl (by kernel_rfl) (by kernel_rfl) (by kernel_rfl) (fun _ _ _ h => h) (Or.inl ⟨by rfl, ?_⟩) hHeld ?_
      rotate_left
      · intro w hSw
        go_simp <;> with_reducible rfl
      try simp only [Act.put, List.setIfInBounds_toArray, List.set_cons_zero, List.set_cons_succ]
      refine takeAt 18 (some 28) ?_ rfl rfl (by kernel_rfl) (by kernel_rfl) (by kernel_rfl) (fun _ _ _ h => h) (Or.inl ⟨by rfl, ?_⟩) hHeld ?_
      rotate_left
      · intro w hSw
        go_simp <;> with_reducible rfl
      try simp only [Act.put, List.setIfInBounds_toArray, List.set_cons_zero, List.set_cons_succ]
      refine takeAt 19 (some 29) ?_ rfl rfl (by kernel_rfl) (by kernel_rfl) (by kernel_rfl) (fun _ _ _ h => h) (Or.inl ⟨by rfl, ?_⟩) hHeld ?_
      rotate_left
      · intro w hSw
        go_simp <;> with_reducible rfl
      try simp only [Act.put, List.setIfInBounds_toArray, List.set_cons_zero, List.set_cons_succ]
      refine takeAt 20 (some 30) ?_ rfl rfl (by kernel_rfl) (by kernel_rfl) (by kernel_rfl) (fun _ _ _ h => h) (Or.inl ⟨by rfl, ?_⟩) hHeld ?_
      rotate_left
      · intro w hSw
        go_simp <;> with_reducible rfl
      try simp only [Act.put, List.setIfInBounds_toArray, List.set_cons_zero, List.set_cons_succ]
      refine wpAnyH_ready (rs := [21]) (by kernel_rfl) (by simp) ?_
      refine AllReadyH.cons rfl (fun K hK => ?_) AllReadyH.nil
      rw [if_pos (by rfl)]
      refine call_stepV 31 126 (vals := #[.int .u8 (s[j].toNat : Int)]) rfl rfl rfl (by simp [Act.eval]) Tryz.func126 (by kernel_rfl) (by kernel_rfl) ?_
      refine Calls.mono (HC.out 1) ?_
      rintro e w2 ⟨rfl, kk⟩
      obtain ⟨xf, xp⟩ := HFJ.out w2 kk
      have HX : Hid (Fr (On b) w w2 ∧ Plc T s j b w2) := ⟨xf, xp⟩
      clear xf xp kk
      refine ⟨_, rfl, ?_⟩
      refine hK.out _ _ ⟨HX.out.2.c0, HX.out.2.c1⟩ (fun hHeld => ?_)
      clear hK K
      try simp only [Act.put, List.setIfInBounds_toArray, List.set_cons_zero, List.set_cons_succ]
      refine takeAt 22 (some 32) ?_ rfl rfl (by kernel_rfl) (by kernel_rfl) (by kernel_rfl) (fun _ _ _ h => h) (Or.inl ⟨by rfl, ?_⟩) hHeld ?_
      rotate_left
      · intro w hSw
        go_simp <;> with_reducible rfl
      try simp only [Act.put, List.setIfInBounds_toArray, List.set_cons_zero, List.set_cons_succ]
      refine wpAnyH_done (by kernel_rfl) ?_ _
      refine NoPanic.normal ?_
      clear HC HFJ c0 c1 f1 hHeld
      have c0 := HX.out.2.c0
      have c1 := HX.out.2.c1
      have f1 := HX.out.2.f1
      go_wp2_with fail
      exact ⟨⟨j + 1, by omega, by omega, HX.out.1.trans (fr_set _ _ _ _), HX.out.2.to (j + 1)⟩, by rw [hpl]; have e := (HX.out.2.to (j + 1)).pl; have e' : plOf b (w2.setCell ⟨b, 1, none⟩ (.int .i64 ((j : Int) + 1))) = j + 1 := e; rw [e']; omega⟩
    · obtain rfl : j = E := by omega
      by_cases hjs : j = s.size
      · as_aux_lemma =>
        subst hjs
        have g1 : decide ((s.size : Int) < (s.size : Int)) = false := by simp
        have HE : Hid (∀ q, Fr (On b) w (wr.drewN q) ∧ Plc T s s.size b (wr.drewN q)) := fun q => ⟨HJ.out.1.trans (Fr.drewN _ _ q), HJ.out.2.kp (kp_drewN _ q)⟩
        have g5 : decide (at_ ≤ s.size) = true := decide_eq_true hE1
        clear HJ hjE hE2 hj1 hj2
        go_wp2_with fail
        go_quiet (fail)
        go_wp2_with fail
        go_quiet (fail)
        go_wp2_with fail
        go_ret
        first | exact ⟨rfl, HE.out _⟩ | (rw [drew2]; exact ⟨rfl, HE.out _⟩)
      · as_aux_lemma =>
        have hjs' : j < s.size := by omega
        have g1 : decide ((j : Int) < (s.size : Int)) = true := decide_eq_true (by omega)
        have hb := byteAt_eq s j hjs'
        have HC : Hid (∀ q, Calls Tryz.prog 126 #[.int .u8 (s[j].toNat : Int)] (wr.drewN q) fun e w' => e = .returned (.bool false) ∧ Kp wr w') := fun q => by
          have hy := HOut.out hjs'
          rw [hb] at hy
          refine (aahe_any ((s[j]).toNat) (wr.drewN q)).mono ?_
          rintro e w' ⟨rfl, k⟩
          exact ⟨by show Ending.returned (Value.bool (aheF (s[j]).toNat)) = _; rw [hy], kp_trans (kp_drewN _ q) k⟩
        clear hb
        have HFJ : Hid (∀ w2, Kp wr w2 → Fr (On b) w w2 ∧ Plc T s j b w2) := fun w2 k2 => ⟨HJ.out.1.trans (Fr.of_below k2), HJ.out.2.kp k2⟩
        clear HJ
        go_upto_region 2 with fail
        refine wp_region_noPanic ?_
        refine wp_region_held_drew (S := fun z => z.cell? ⟨b, 0, none⟩ = some (.string s) ∧ z.cell? ⟨b, 1, none⟩ = some (.int .i64 (j : Int))) (by kernel_rfl) (⟨kp_cell (kp_drew _) c0, kp_cell (kp_drew _) c1⟩) (fun hHeld => ?_)
        refine takeAt 0 (some 10) ?_ rfl rfl (by kernel_rfl) (by kernel_rfl) (by kernel_rfl) (fun _ _ _ h => h) (Or.inl ⟨by rfl, ?_⟩) hHeld ?_
        rotate_left
        · intro w hSw
          go_simp <;> with_reducible rfl
        try simp only [Act.put, List.setIfInBounds_toArray, List.set_cons_zero, List.set_cons_succ]
        refine takeAt 1 (some 11) ?_ rfl rfl (by kernel_rfl) (by kernel_rfl) (by kernel_rfl) (fun _ _ _ h => h) (Or.inl ⟨by rfl, ?_⟩) hHeld ?_
        rotate_left
        · intro w hSw
          go_simp <;> with_reducible rfl
        try simp only [Act.put, List.setIfInBounds_toArray, List.set_cons_zero, List.set_cons_succ]
        refine takeAt 2 (some 12) ?_ rfl rfl (by kernel_rfl) (by kernel_rfl) (by kernel_rfl) (fun _ _ _ h => h) (Or.inl ⟨by rfl, ?_⟩) hHeld ?_
        rotate_left
        · intro w hSw
          go_simp <;> with_reducible rfl
        try simp only [Act.put, List.setIfInBounds_toArray, List.set_cons_zero, List.set_cons_succ]
        refine takeAt 3 (some 13) ?_ rfl rfl (by kernel_rfl) (by kernel_rfl) (by kernel_rfl) (fun _ _ _ h => h) (Or.inl ⟨by rfl, ?_⟩) hHeld ?_
        rotate_left
        · intro w hSw
          go_simp <;> with_reducible rfl
        try simp only [Act.put, List.setIfInBounds_toArray, List.set_cons_zero, List.set_cons_succ]
        refine takeAt 4 (some 14) ?_ rfl rfl (by kernel_rfl) (by kernel_rfl) (by kernel_rfl) (fun _ _ _ h => h) (Or.inl ⟨by rfl, ?_⟩) hHeld ?_
        rotate_left
        · intro w hSw
          go_simp <;> with_reducible rfl
        try simp only [Act.put, List.setIfInBounds_toArray, List.set_cons_zero, List.set_cons_succ]
        refine takeAt 5 (some 15) ?_ rfl rfl (by kernel_rfl) (by kernel_rfl) (by kernel_rfl) (fun _ _ _ h => h) (Or.inl ⟨by rfl, ?_⟩) hHeld ?_
        rotate_left
        · intro w hSw
          go_simp <;> with_reducible rfl
        try simp only [Act.put, List.setIfInBounds_toArray, List.set_cons_zero, List.set_cons_succ]
        refine takeAt 6 (some 16) ?_ rfl rfl (by kernel_rfl) (by kernel_rfl) (by kernel_rfl) (fun _ _ _ h => h) (Or.inl ⟨by rfl, ?_⟩) hHeld ?_
        rotate_left
        · intro w hSw
          go_simp <;> with_reducible rfl
        try simp only [Act.put, List.setIfInBounds_toArray, List.set_cons_zero, List.set_cons_succ]
        refine takeAt 7 (some 17) ?_ rfl rfl (by kernel_rfl) (by kernel_rfl) (by kernel_rfl) (fun _ _ _ h => h) (Or.inl ⟨by rfl, ?_⟩) hHeld ?_
        rotate_left
        · intro w hSw
          go_simp <;> with_reducible rfl
        try simp only [Act.put, List.setIfInBounds_toArray, List.set_cons_zero, List.set_cons_succ]
        refine takeAt 8 (some 18) ?_ rfl rfl (by kernel_rfl) (by kernel_rfl) (by kernel_rfl) (fun _ _ _ h => h) (Or.inl ⟨by rfl, ?_⟩) hHeld ?_
        rotate_left
        · intro w hSw
          go_simp <;> with_reducible rfl
        try simp only [Act.put, List.setIfInBounds_toArray, List.set_cons_zero, List.set_cons_succ]
        refine takeAt 9 (some 19) ?_ rfl rfl (by kernel_rfl) (by kernel_rfl) (by kernel_rfl) (fun _ _ _ h => h) (Or.inl ⟨by rfl, ?_⟩) hHeld ?_
        rotate_left
        · intro w hSw
          go_simp <;> with_reducible rfl
        try simp only [Act.put, List.setIfInBounds_toArray, List.set_cons_zero, List.set_cons_succ]
        refine takeAt 10 (some 20) ?_ rfl rfl (by kernel_rfl) (by kernel_rfl) (by kernel_rfl) (fun _ _ _ h => h) (Or.inl ⟨by rfl, ?_⟩) hHeld ?_
        rotate_left
        · intro w hSw
          go_simp <;> with_reducible rfl
        try simp only [Act.put, List.setIfInBounds_toArray, List.set_cons_zero, List.set_cons_succ]
        refine takeAt 11 (some 21) ?_ rfl rfl (by kernel_rfl) (by kernel_rfl) (by kernel_rfl) (fun _ _ _ h => h) (Or.inl ⟨by rfl, ?_⟩) hHeld ?_
        rotate_left
        · intro w hSw
          go_simp <;> with_reducible rfl
        try simp only [Act.put, List.setIfInBounds_toArray, List.set_cons_zero, List.set_cons_succ]
        refine takeAt 12 (some 22) ?_ rfl rfl (by kernel_rfl) (by kernel_rfl) (by kernel_rfl) (fun _ _ _ h => h) (Or.inl ⟨by rfl, ?_⟩) hHeld ?_
        rotate_left
        · intro w hSw
          go_simp <;> with_reducible rfl
        try simp only [Act.put, List.setIfInBounds_toArray, List.set_cons_zero, List.set_cons_succ]
        refine takeAt 13 (some 23) ?_ rfl rfl (by kernel_rfl) (by kernel_rfl) (by kernel_rfl) (fun _ _ _ h => h) (Or.inl ⟨by rfl, ?_⟩) hHeld ?_
        rotate_left
        · intro w hSw
          go_simp <;> with_reducible rfl
        try simp only [Act.put, List.setIfInBounds_toArray, List.set_cons_zero, List.set_cons_succ]
        refine takeAt 14 (some 24) ?_ rfl rfl (by kernel_rfl) (by kernel_rfl) (by kernel_rfl) (fun _ _ _ h => h) (Or.inl ⟨by rfl, ?_⟩) hHeld ?_
        rotate_left
        · intro w hSw
          go_simp <;> with_reducible rfl
        try simp only [Act.put, List.setIfInBounds_toArray, List.set_cons_zero, List.set_cons_succ]
        refine takeAt 15 (some 25) ?_ rfl rfl (by kernel_rfl) (by kernel_rfl) (by kernel_rfl) (fun _ _ _ h => h) (Or.inl ⟨by rfl, ?_⟩) hHeld ?_
        rotate_left
        · intro w hSw
          go_simp <;> with_reducible rfl
        try simp only [Act.put, List.setIfInBounds_toArray, List.set_cons_zero, List.set_cons_succ]
        refine takeAt 16 (some 26) ?_ rfl rfl (by kernel_rfl) (by kernel_rfl) (by kernel_rfl) (fun _ _ _ h => h) (Or.inl ⟨by rfl, ?_⟩) hHeld ?_
        rotate_left
        · intro w hSw
          go_simp <;> with_reducible rfl
        try simp only [Act.put, List.setIfInBounds_toArray, List.set_cons_zero, List.set_cons_succ]
        refine takeAt 17 (some 27) ?_ rfl rfl (by kernel_rfl) (by kernel_rfl) (by kernel_rfl) (fun _ _ _ h => h) (Or.inl ⟨by rfl, ?_⟩) hHeld ?_
        rotate_left
        · intro w hSw
          go_simp <;> with_reducible rfl
        try simp only [Act.put, List.setIfInBounds_toArray, List.set_cons_zero, List.set_cons_succ]
        refine takeAt 18 (some 28) ?_ rfl rfl (by kernel_rfl) (by kernel_rfl) (by kernel_rfl) (fun _ _ _ h => h) (Or.inl ⟨by rfl, ?_⟩) hHeld ?_
        rotate_left
        · intro w hSw
          go_simp <;> with_reducible rfl
        try simp only [Act.put, List.setIfInBounds_toArray, List.set_cons_zero, List.set_cons_succ]
        refine takeAt 19 (some 29) ?_ rfl rfl (by kernel_rfl) (by kernel_rfl) (by kernel_rfl) (fun _ _ _ h => h) (Or.inl ⟨by rfl, ?_⟩) hHeld ?_
        rotate_left
        · intro w hSw
          go_simp <;> with_reducible rfl
        try simp only [Act.put, List.setIfInBounds_toArray, List.set_cons_zero, List.set_cons_succ]
        refine takeAt 20 (some 30) ?_ rfl rfl (by kernel_rfl) (by kernel_rfl) (by kernel_rfl) (fun _ _ _ h => h) (Or.inl ⟨by rfl, ?_⟩) hHeld ?_
        rotate_left
        · intro w hSw
          go_simp <;> with_reducible rfl
        try simp only [Act.put, List.setIfInBounds_toArray, List.set_cons_zero, List.set_cons_succ]
        refine wpAnyH_ready (rs := [21]) (by kernel_rfl) (by simp) ?_
        refine AllReadyH.cons rfl (fun K hK => ?_) AllReadyH.nil
        rw [if_pos (by rfl)]
        refine call_stepV 31 126 (vals := #[.int .u8 (s[j].toNat : Int)]) rfl rfl rfl (by simp [Act.eval]) Tryz.func126 (by kernel_rfl) (by kernel_rfl) ?_
        refine Calls.mono (HC.out 1) ?_
        rintro e w2 ⟨rfl, kk⟩
        obtain ⟨xf, xp⟩ := HFJ.out w2 kk
        have HX : Hid (Fr (On b) w w2 ∧ Plc T s j b w2) := ⟨xf, xp⟩
        clear xf xp kk
        refine ⟨_, rfl, ?_⟩
        refine hK.out _ _ ⟨HX.out.2.c0, HX.out.2.c1⟩ (fun hHeld => ?_)
        clear hK K
        try simp only [Act.put, List.setIfInBounds_toArray, List.set_cons_zero, List.set_cons_succ]
        refine takeAt 22 (some 32) ?_ rfl rfl (by kernel_rfl) (by kernel_rfl) (by kernel_rfl) (fun _ _ _ h => h) (Or.inl ⟨by rfl, ?_⟩) hHeld ?_
        rotate_left
        · intro w hSw
          go_simp <;> with_reducible rfl
        try simp only [Act.put, List.setIfInBounds_toArray, List.set_cons_zero, List.set_cons_succ]
        refine wpAnyH_done (by kernel_rfl) ?_ _
        refine NoPanic.normal ?_
        clear HC HFJ c0 c1 f1 hHeld
        have c0 := HX.out.2.c0
        have c1 := HX.out.2.c1
        have HE : Hid (∀ q, Fr (On b) w (w2.drewN q) ∧ Plc T s j b (w2.drewN q)) := fun q => ⟨HX.out.1.trans (Fr.drewN _ _ q), HX.out.2.kp (kp_drewN _ q)⟩
        have g5 : decide (at_ ≤ j) = true := decide_eq_true hE1
        clear HX
        go_wp2_with fail
        go_quiet (fail)
        go_wp2_with fail
        go_ret
        first | exact ⟨rfl, HE.out _⟩ | (rw [drew2]; exact ⟨rfl, HE.out _⟩)
end Go.Proofs.YtfgapmfjfienhaaGreatDoor
/-
  DERIVED: THE SHELF's CONTRACTS AT THIS DUMP, IN PLAIN WORDS (tools/lay-plain.mjs out of 'YtfgapmfjfienhaaGreatDoorAShelf.lean', which tools/lay-shelf.mjs wrote): THE SAME DECLARATIONS UNDER THE SAME NAMES: 'import', 'namespace', 'open', 'def', 'theorem' AND NOTHING ELSE: no command of the shelf's: FOR A HAND-IN. Each laying: the table of numbers ('.._ren') and one theorem, a field a fact of the dump's own or the kernel's comparison; each contract: ONE APPLICATION.
-/
namespace Go.Proofs
open Go.Shelf
def Tryz.lays172_ren : Go.Shelf.Ren := ⟨fun | 172 => 76 | 244 => 104 | 245 => 105 | 247 => 130 | 279 => 131 | 280 => 132 | 281 => 133 | 282 => 134 | 287 => 144 | 316 => 108 | 171 => 146 | 205 => 145 | 321 => 151 | 322 => 152 | 243 => 153 | 246 => 155 | 283 => 156 | 284 => 157 | 285 => 158 | 286 => 159 | 129 => 98 | 317 => 160 | 318 => 161 | 319 => 162 | 320 => 163 | 337 => 164 | 338 => 165 | n => n, fun | 9 => 9 | 3 => 3 | 75 => 106 | 76 => 107 | 4 => 4 | 5 => 5 | 167 => 152 | 37 => 24 | 0 => 0 | 85 => 153 | 2 => 2 | 168 => 155 | 53 => 127 | 175 => 175 | 46 => 94 | 210 => 178 | 127 => 158 | 145 => 186 | 143 => 184 | 21 => 21 | 171 => 188 | 173 => 190 | 212 => 194 | 51 => 125 | 20 => 20 | 213 => 195 | 232 => 197 | 233 => 198 | 80 => 70 | n => n, fun | 15 => 2 | 16 => 3 | 17 => 5 | 18 => 6 | 19 => 7 | n => n⟩
theorem Tryz.lays172 : Go.Proofs.Lays.n172 Tryz.prog Tryz.lays172_ren := {
  mixed := by kernel_rfl
  f129 := Tryz.func98.trans (congrArg some (by kernel_rfl))
  f171 := Tryz.func146.trans (congrArg some (by kernel_rfl))
  f172 := Tryz.func76.trans (congrArg some (by kernel_rfl))
  f205 := Tryz.func145.trans (congrArg some (by kernel_rfl))
  f243 := Tryz.func153.trans (congrArg some (by kernel_rfl))
  f244 := Tryz.func104.trans (congrArg some (by kernel_rfl))
  f245 := Tryz.func105.trans (congrArg some (by kernel_rfl))
  f246 := Tryz.func155.trans (congrArg some (by kernel_rfl))
  f247 := Tryz.func130.trans (congrArg some (by kernel_rfl))
  f279 := Tryz.func131.trans (congrArg some (by kernel_rfl))
  f280 := Tryz.func132.trans (congrArg some (by kernel_rfl))
  f281 := Tryz.func133.trans (congrArg some (by kernel_rfl))
  f282 := Tryz.func134.trans (congrArg some (by kernel_rfl))
  f283 := Tryz.func156.trans (congrArg some (by kernel_rfl))
  f284 := Tryz.func157.trans (congrArg some (by kernel_rfl))
  f285 := Tryz.func158.trans (congrArg some (by kernel_rfl))
  f286 := Tryz.func159.trans (congrArg some (by kernel_rfl))
  f287 := Tryz.func144.trans (congrArg some (by kernel_rfl))
  f316 := Tryz.func108.trans (congrArg some (by kernel_rfl))
  f317 := Tryz.func160.trans (congrArg some (by kernel_rfl))
  f318 := Tryz.func161.trans (congrArg some (by kernel_rfl))
  f319 := Tryz.func162.trans (congrArg some (by kernel_rfl))
  f320 := Tryz.func163.trans (congrArg some (by kernel_rfl))
  f321 := Tryz.func151.trans (congrArg some (by kernel_rfl))
  f322 := Tryz.func152.trans (congrArg some (by kernel_rfl))
  f337 := Tryz.func164.trans (congrArg some (by kernel_rfl))
  f338 := Tryz.func165.trans (congrArg some (by kernel_rfl))
  t0 := Tryz.underlying0
  a0 := Tryz.isAgg0
  z0 := Tryz.sizeOf0
  v0 := Tryz.zeroValue0
  t2 := Tryz.underlying2
  a2 := Tryz.isAgg2
  z2 := Tryz.sizeOf2
  v2 := Tryz.zeroValue2
  t3 := Tryz.underlying3
  a3 := Tryz.isAgg3
  z3 := Tryz.sizeOf3
  v3 := Tryz.zeroValue3
  t4 := Tryz.underlying4
  a4 := Tryz.isAgg4
  z4 := Tryz.sizeOf4
  v4 := Tryz.zeroValue4
  t5 := Tryz.underlying5
  a5 := Tryz.isAgg5
  z5 := Tryz.sizeOf5
  v5 := Tryz.zeroValue5
  t9 := Tryz.underlying9
  a9 := Tryz.isAgg9
  z9 := Tryz.sizeOf9
  v9 := Tryz.zeroValue9
  t20 := Tryz.underlying20
  a20 := Tryz.isAgg20
  z20 := Tryz.sizeOf20
  v20 := Tryz.zeroValue20
  t21 := Tryz.underlying21
  a21 := Tryz.isAgg21
  z21 := Tryz.sizeOf21
  v21 := Tryz.zeroValue21
  t37 := Tryz.underlying24
  a37 := Tryz.isAgg24
  z37 := Tryz.sizeOf24
  v37 := Tryz.zeroValue24
  t46 := Tryz.underlying94
  a46 := Tryz.isAgg94
  z46 := Tryz.sizeOf94
  v46 := Tryz.zeroValue94
  t51 := Tryz.underlying125
  a51 := Tryz.isAgg125
  z51 := Tryz.sizeOf125
  v51 := Tryz.zeroValue125
  t53 := Tryz.underlying127
  a53 := Tryz.isAgg127
  z53 := Tryz.sizeOf127
  v53 := Tryz.zeroValue127
  t75 := Tryz.underlying106
  a75 := Tryz.isAgg106
  z75 := Tryz.sizeOf106
  v75 := Tryz.zeroValue106
  t76 := Tryz.underlying107
  a76 := Tryz.isAgg107
  z76 := Tryz.sizeOf107
  v76 := Tryz.zeroValue107
  t85 := Tryz.underlying153
  a85 := Tryz.isAgg153
  z85 := Tryz.sizeOf153
  v85 := Tryz.zeroValue153
  t127 := Tryz.underlying158
  a127 := Tryz.isAgg158
  z127 := Tryz.sizeOf158
  v127 := Tryz.zeroValue158
  t143 := Tryz.underlying184
  a143 := Tryz.isAgg184
  z143 := Tryz.sizeOf184
  v143 := Tryz.zeroValue184
  t145 := Tryz.underlying186
  a145 := Tryz.isAgg186
  z145 := Tryz.sizeOf186
  v145 := Tryz.zeroValue186
  t167 := Tryz.underlying152
  a167 := Tryz.isAgg152
  z167 := Tryz.sizeOf152
  v167 := Tryz.zeroValue152
  t168 := Tryz.underlying155
  a168 := Tryz.isAgg155
  z168 := Tryz.sizeOf155
  v168 := Tryz.zeroValue155
  t171 := Tryz.underlying188
  a171 := Tryz.isAgg188
  z171 := Tryz.sizeOf188
  v171 := Tryz.zeroValue188
  t173 := Tryz.underlying190
  a173 := Tryz.isAgg190
  z173 := Tryz.sizeOf190
  v173 := Tryz.zeroValue190
  t175 := Tryz.underlying175
  a175 := Tryz.isAgg175
  z175 := Tryz.sizeOf175
  v175 := Tryz.zeroValue175
  t210 := Tryz.underlying178
  a210 := Tryz.isAgg178
  z210 := Tryz.sizeOf178
  v210 := Tryz.zeroValue178
  t212 := Tryz.underlying194
  a212 := Tryz.isAgg194
  z212 := Tryz.sizeOf194
  v212 := Tryz.zeroValue194
  t213 := Tryz.underlying195
  a213 := Tryz.isAgg195
  z213 := Tryz.sizeOf195
  t232 := Tryz.underlying197
  a232 := Tryz.isAgg197
  z232 := Tryz.sizeOf197
  v232 := Tryz.zeroValue197
  t233 := Tryz.underlying198
  a233 := Tryz.isAgg198
  z233 := Tryz.sizeOf198
  v233 := Tryz.zeroValue198
  g15 := by kernel_rfl
  g16 := by kernel_rfl
  g17 := by kernel_rfl
  g18 := by kernel_rfl
  g19 := by kernel_rfl }
end Go.Proofs
/- A number at a place. -/
namespace Go.Proofs.YtfgapmfjfienhaaGreatDoor
open Go.ChangeShapes Go.WideShapes Go.ChangeAt Go.RowKit Go.Maps Go.MapKept
set_option linter.unusedVariables false
set_option linter.unusedSimpArgs false
set_option maxRecDepth 100000
theorem atoi_any (s : ByteArray) (n : Int) (hl : s.size ≤ 18) (h : Lib.atoi s.data.toList = some n) (w : World) :
    Calls Tryz.prog 76 #[.string s] w fun e w' => e = .returned (.tuple #[.int .i64 n, .nilIface]) ∧ Kp w w' := by
  refine Calls.mono (Any.strconv_Atoi Tryz.lays172 s n hl h w) ?_
  rintro e w' ⟨rfl, t, rfl⟩
  exact ⟨rfl, Go.Joins.below_bytesWorld _ _ _ _ (Nat.le_refl _)⟩
section
variable {T : TypeId} {s : ByteArray} {at_ b : Nat} {w : World}
theorem toList_ne {d : ByteArray} (h : d.size ≠ 0) : d.toList.isEmpty = false := by
  rw [List.isEmpty_eq_false_iff]
  intro e
  have q := congrArg List.length e
  rw [Lib.toList_data, ← Lib.size_eq] at q
  exact h q
theorem ext_size {i j : Nat} (h : j ≤ s.size) : (s.extract i j).size = j - i := by
  rw [ByteArray.size_extract]; omega
theorem number_none (h : Plc T s at_ b w) (hs : s.size ≤ 1000000) (ha : at_ ≤ s.size) (he : spanE digF s at_ = at_) :
    Calls Tryz.prog 149 #[.pointer (some ⟨b, 0, none⟩)] w fun e w' => e = .returned (.tuple #[.int .i64 0, .bool false, .int .u16 0]) ∧ Fr (On b) w w' ∧ Plc T s at_ b w' := by
  have HW : Hid _ := while_dig h hs ha
  rw [he] at HW
  have he2 : s.extract at_ at_ = ⟨#[]⟩ := by
    have := ext_size (s := s) (i := at_) (j := at_) ha
    exact ByteArray.ext (by rw [← Array.size_eq_zero_iff]; simp)
  rw [he2] at HW
  clear h he he2
  go_enter Tryz.func149, Tryz.ntmps149
  go_wp2_with fail
  refine Calls.mono HW.out ?_
  rintro e w2 ⟨rfl, q1, q2⟩
  have HX : Hid (Fr (On b) w w2 ∧ Plc T s at_ b w2) := ⟨q1, q2⟩
  clear HW q1 q2
  go_wp2_with fail
  go_ret3
  exact ⟨rfl, HX.out⟩
theorem number_long (h : Plc T s at_ b w) (hs : s.size ≤ 1000000) (ha : at_ ≤ s.size) (he : 9 < spanE digF s at_ - at_) :
    Calls Tryz.prog 149 #[.pointer (some ⟨b, 0, none⟩)] w fun e w' => e = .returned (.tuple #[.int .i64 0, .bool false, .int .u16 141]) ∧ Fr (On b) w w' ∧ Plc T s (spanE digF s at_) b w' := by
  have HW : Hid _ := while_dig h hs ha
  have he1 := spanE_le (f := digF) ha
  obtain ⟨E, hE⟩ : ∃ E, spanE digF s at_ = E := ⟨_, rfl⟩
  rw [hE] at HW he he1 ⊢
  obtain ⟨d, hd⟩ : ∃ d, s.extract at_ E = d := ⟨_, rfl⟩
  have hsz : d.size = E - at_ := by rw [← hd]; exact ext_size he1
  rw [hd] at HW
  have g1 : d.toList.isEmpty = false := toList_ne (by omega)
  have g2 : decide ((d.size : Int) > 9) = true := decide_eq_true (by omega)
  have g3 : decide ((9 : Int) < (d.size : Int)) = true := decide_eq_true (by omega)
  have g4 : decide (9 < d.size) = true := decide_eq_true (by omega)
  clear h he hE hd hsz he1
  go_enter Tryz.func149, Tryz.ntmps149
  go_wp2_with fail
  refine Calls.mono HW.out ?_
  rintro e w2 ⟨rfl, q1, q2⟩
  have HX : Hid (Fr (On b) w w2 ∧ Plc T s E b w2) := ⟨q1, q2⟩
  clear HW q1 q2
  go_wp2_with fail
  go_ret3
  exact ⟨rfl, HX.out⟩
theorem number_some (h : Plc T s at_ b w) (hs : s.size ≤ 1000000) (ha : at_ ≤ s.size) (he : spanE digF s at_ ≠ at_) (he9 : spanE digF s at_ - at_ ≤ 9) {n : Int} (hn : Lib.atoi (s.extract at_ (spanE digF s at_)).data.toList = some n) :
    Calls Tryz.prog 149 #[.pointer (some ⟨b, 0, none⟩)] w fun e w' => e = .returned (.tuple #[.int .i64 n, .bool true, .int .u16 0]) ∧ Fr (On b) w w' ∧ Plc T s (spanE digF s at_) b w' := by
  have HW : Hid _ := while_dig h hs ha
  have he1 := spanE_le (f := digF) ha
  have he0 := spanE_ge (f := digF) (s := s) (k := at_)
  obtain ⟨E, hE⟩ : ∃ E, spanE digF s at_ = E := ⟨_, rfl⟩
  rw [hE] at HW he he9 he1 he0 hn ⊢
  obtain ⟨d, hd⟩ : ∃ d, s.extract at_ E = d := ⟨_, rfl⟩
  have hsz : d.size = E - at_ := by rw [← hd]; exact ext_size he1
  rw [hd] at HW hn
  have HA : Hid (∀ z, Calls Tryz.prog 76 #[.string d] z fun e w' => e = .returned (.tuple #[.int .i64 n, .nilIface]) ∧ Kp z w') := fun z => atoi_any d n (by omega) hn z
  have g1 : d.toList.isEmpty = false := toList_ne (by omega)
  have g2 : decide ((d.size : Int) > 9) = false := decide_eq_false (by omega)
  have g3 : decide ((9 : Int) < (d.size : Int)) = false := decide_eq_false (by omega)
  have g4 : decide (9 < d.size) = false := decide_eq_false (by omega)
  clear h he hE hd hsz he1 he0 he9 hn
  go_enter Tryz.func149, Tryz.ntmps149
  go_wp2_with fail
  refine Calls.mono HW.out ?_
  rintro e w2 ⟨rfl, q1, q2⟩
  have HX : Hid (Fr (On b) w w2 ∧ Plc T s E b w2) := ⟨q1, q2⟩
  clear HW q1 q2
  go_wp2_with fail
  refine Calls.mono (HA.out _) ?_
  rintro e w3 ⟨rfl, k3⟩
  have HY : Hid (Fr (On b) w w3 ∧ Plc T s E b w3) := ⟨HX.out.1.trans (Fr.of_below k3), HX.out.2.kp k3⟩
  clear HA HX k3
  go_wp2_with fail
  go_ret3
  exact ⟨rfl, HY.out⟩
end
end Go.Proofs.YtfgapmfjfienhaaGreatDoor
/- The value of digits; offsets. -/
namespace Go.Proofs.YtfgapmfjfienhaaGreatDoor
open Go.ChangeShapes Go.WideShapes Go.ChangeAt Go.RowKit Go.Maps Go.MapKept
set_option linter.unusedVariables false
set_option linter.unusedSimpArgs false
set_option maxRecDepth 100000
theorem digF_in {c : Nat} (h : digF c = true) : 48 ≤ c ∧ c ≤ 57 := by
  have e : digF c = digB (c : Int) := by
    unfold digF isB
    have e1 : smI 100 = 100 := by decide
    have e2 : knB 100 = true := by decide
    have e3 : grtB 100 = false := by decide
    rw [e1, e2, e3]
    simp [clsB]
  rw [e] at h
  unfold digB bt at h
  have := of_decide_eq_true h
  omega
theorem dec_some : ∀ (l : List UInt8) (acc : Nat), (∀ c ∈ l, 48 ≤ c.toNat ∧ c.toNat ≤ 57) → ∃ n, Lib.decFrom acc l = some n
  | [], acc, _ => ⟨acc, rfl⟩
  | a :: r, acc, h => by
    have ha := h a (by simp)
    have e : Lib.digitVal a = some (a.toNat - 48) := by unfold Lib.digitVal; rw [if_pos ha]
    obtain ⟨n, hn⟩ := dec_some r (acc * 10 + (a.toNat - 48)) (fun c hc => h c (by simp [hc]))
    exact ⟨n, by simp only [Lib.decFrom, e]; exact hn⟩
theorem atoi_some {l : List UInt8} (hne : l ≠ []) (h : ∀ c ∈ l, 48 ≤ c.toNat ∧ c.toNat ≤ 57) : ∃ n : Nat, Lib.atoi l = some (n : Int) ∧ n < 10 ^ l.length := by
  cases l with
  | nil => exact absurd rfl hne
  | cons a r =>
    obtain ⟨n, hn⟩ := dec_some (a :: r) 0 h
    have ha := h a (by simp)
    have h1 : (a == 45) = false := by
      rw [beq_eq_false_iff_ne]; rintro rfl; exact absurd ha.1 (by decide)
    have h2 : (a == 43) = false := by
      rw [beq_eq_false_iff_ne]; rintro rfl; exact absurd ha.1 (by decide)
    refine ⟨n, ?_, by have := Lib.decFrom_lt _ _ _ hn; simpa using this⟩
    unfold Lib.atoi
    simp only [h1, h2]
    simp [Lib.decNat, hn]
section
variable {s : ByteArray} {k : Nat}
/-- A number that comes: its value and where it ends; nothing: it is too long. -/
def numV (s : ByteArray) (k : Nat) : Option (Option Nat × Nat) :=
  let e := spanE digF s k
  if e = k then some (none, k) else if 9 < e - k then none else some (some ((Lib.atoi (s.extract k e).data.toList).getD 0).toNat, e)
theorem ext_mem {i j : Nat} (hj : j ≤ s.size) {c : UInt8} (h : c ∈ (s.extract i j).data.toList) : ∃ m, i ≤ m ∧ m < j ∧ byteAt s m = c.toNat := by
  obtain ⟨x, hx, e⟩ := List.getElem_of_mem h
  have hs : (s.extract i j).data.toList.length = j - i := by rw [← Lib.size_eq]; exact ext_size hj
  refine ⟨i + x, by omega, by omega, ?_⟩
  have e2 : s.data.toList[i + x]? = some c := by
    have : (s.extract i j).data.toList = (s.data.toList.drop i).take (j - i) := by
      rw [ByteArray.data_extract, Array.toList_extract]
    have h2 : (s.extract i j).data.toList[x]? = some c := by rw [List.getElem?_eq_getElem hx, e]
    rw [this, List.getElem?_take, if_pos (by omega), List.getElem?_drop] at h2
    exact h2
  exact byteAt_some e2
theorem num_val (hk : k ≤ s.size) (h : spanE digF s k ≠ k) (h9 : ¬ 9 < spanE digF s k - k) : ∃ n : Nat, Lib.atoi (s.extract k (spanE digF s k)).data.toList = some (n : Int) ∧ n < 1000000000 := by
  have hle := spanE_le (f := digF) hk
  have hge := spanE_ge (f := digF) (s := s) (k := k)
  have hlen : (s.extract k (spanE digF s k)).data.toList.length = spanE digF s k - k := by rw [← Lib.size_eq]; exact ext_size hle
  obtain ⟨n, h1, h2⟩ := atoi_some (l := (s.extract k (spanE digF s k)).data.toList) (by intro e; rw [e] at hlen; simp at hlen; omega) (fun c hc => by
    obtain ⟨m, m1, m2, m3⟩ := ext_mem hle hc
    rw [← m3]; exact digF_in (spanE_in m1 m2))
  refine ⟨n, h1, Nat.lt_of_lt_of_le h2 ?_⟩
  rw [hlen]
  exact Nat.pow_le_pow_right (by decide) (by omega : _ ≤ 9)
end
end Go.Proofs.YtfgapmfjfienhaaGreatDoor
/- Offsets at a place. -/
namespace Go.Proofs.YtfgapmfjfienhaaGreatDoor
open Go.ChangeShapes Go.WideShapes Go.ChangeAt Go.RowKit Go.Maps Go.MapKept
set_option linter.unusedVariables false
set_option linter.unusedSimpArgs false
set_option maxRecDepth 100000
theorem amo_off : ∀ c : Fin 256, amo c.val ⟨#[43, 45]⟩ = (c.val == 43 || c.val == 45) := by decide +kernel
theorem amo_off' {c : Nat} (h : c < 256) : amo c ⟨#[43, 45]⟩ = (c == 43 || c == 45) := amo_off ⟨c, h⟩
/-- All offsets that come, together, and where they end; nothing: a number is too long. -/
def offF (s : ByteArray) : Nat → Nat → Int → Option (Int × Nat)
  | 0, _, _ => none
  | f + 1, k, acc =>
    if k < s.size ∧ (byteAt s k = 43 ∨ byteAt s k = 45) then
      match numV s (k + 1) with
      | none => none
      | some (m, e) => offF s f e (acc + (if byteAt s k = 45 then -((m.getD 1 : Nat) : Int) else ((m.getD 1 : Nat) : Int)))
    else some (acc, k)
/-- What offset answers. -/
structure OffR (T : TypeId) (s : ByteArray) (b : Nat) (R : Option (Int × Nat)) (w : World) (e : Ending) (w' : World) : Prop where
  yes : ∀ n k, R = some (n, k) → e = .returned (.tuple #[.int .i64 n, .int .u16 0]) ∧ Fr (On b) w w' ∧ Plc T s k b w' ∧ k ≤ s.size
  no : R = none → e = .returned (.tuple #[.int .i64 0, .int .u16 141]) ∧ Fr (On b) w w' ∧ ∃ k, Plc T s k b w'
section
variable {T : TypeId} {s : ByteArray} {at_ b : Nat} {w : World}
/-- number, by what comes. -/
theorem number_any (h : Plc T s at_ b w) (hs : s.size ≤ 1000000) (ha : at_ ≤ s.size) :
    Calls Tryz.prog 149 #[.pointer (some ⟨b, 0, none⟩)] w fun e w' => ∃ (n : Int) (is : Bool) (er : Int) (k : Nat), e = .returned (.tuple #[.int .i64 n, .bool is, .int .u16 er]) ∧ (Fr (On b) w w' ∧ Plc T s k b w' ∧ at_ ≤ k ∧ k ≤ s.size) ∧
      ((numV s at_ = none ∧ er = 141) ∨ (er = 0 ∧ is = false ∧ numV s at_ = some (none, k)) ∨ (er = 0 ∧ is = true ∧ 0 ≤ n ∧ n < 1000000000 ∧ numV s at_ = some (some n.toNat, k))) := by
  have hge := spanE_ge (f := digF) (s := s) (k := at_)
  have hle := spanE_le (f := digF) ha
  by_cases c : spanE digF s at_ = at_
  · refine (number_none h hs ha c).mono ?_
    rintro e w' ⟨rfl, q1, q2⟩
    exact ⟨_, _, _, at_, rfl, ⟨q1, q2, Nat.le_refl _, ha⟩, .inr (.inl ⟨rfl, rfl, by unfold numV; simp only [c, if_true]⟩)⟩
  by_cases d : 9 < spanE digF s at_ - at_
  · refine (number_long h hs ha d).mono ?_
    rintro e w' ⟨rfl, q1, q2⟩
    exact ⟨_, _, _, _, rfl, ⟨q1, q2, hge, hle⟩, .inl ⟨by unfold numV; simp only [if_neg c, if_pos d], rfl⟩⟩
  · obtain ⟨n, hn, hlt⟩ := num_val ha c d
    refine (number_some h hs ha c (by omega) hn).mono ?_
    rintro e w' ⟨rfl, q1, q2⟩
    exact ⟨_, _, _, _, rfl, ⟨q1, q2, hge, hle⟩, .inr (.inr ⟨rfl, rfl, by omega, by omega, by unfold numV; simp only [if_neg c, if_neg d, hn, Option.getD_some]⟩)⟩
set_option maxHeartbeats 16000000 in
theorem offset_any (h : Plc T s at_ b w) (hs : s.size ≤ 1000000) (ha : at_ ≤ s.size) {f : Nat} (hf : s.size < at_ + f) {R : Option (Int × Nat)} (hR : offF s f at_ 0 = R) :
    Calls Tryz.prog 143 #[.pointer (some ⟨b, 0, none⟩)] w fun e w' => OffR T s b R w e w' := by
  have HF0 : Hid (Fr (On b) w w ∧ Plc T s at_ b w) := ⟨Fr.refl _ _, h⟩
  clear h
  go_enter Tryz.func143, Tryz.ntmps143
  go_wp2_with fail
  go_loopw [4] (fun v4 wr => ∃ (k g : Nat) (acc : Int), v4 = .int .i64 acc ∧ k ≤ s.size ∧ (-(1000000000 * (k : Int)) ≤ acc ∧ acc ≤ 1000000000 * (k : Int)) ∧ Hid (s.size < k + g ∧ offF s g k acc = R ∧ Fr (On b) w wr ∧ Plc T s k b wr)) (fun v4 wr => s.size - plOf b wr)
  case atStart => exact ⟨at_, f, 0, rfl, ha, by omega, hf, hR, HF0.out⟩
  case round =>
    clear HF0
    obtain ⟨k, g, acc, rfl, hk, hacc, HJ⟩ := hrel
    have hpl := HJ.out.2.2.2.pl
    obtain ⟨g, rfl⟩ : ∃ g', g = g' + 1 := ⟨g - 1, by have := HJ.out.1; omega⟩
    by_cases hend : k = s.size
    · as_aux_lemma =>
      have HO : Hid (∀ q, Calls Tryz.prog 127 #[.pointer (some ⟨b, 0, none⟩), .string ⟨#[43, 45]⟩] (wr.drewN q) fun e w' => e = .returned (.tuple #[.int .u8 0, .bool false]) ∧ ∃ q, w' = wr.drewN q) := fun q => by
        subst hend
        refine (oneOf_end (HJ.out.2.2.2.kp (kp_drewN _ q)) hs).mono ?_
        rintro e w' ⟨rfl, q', rfl⟩
        exact ⟨rfl, q + q', by rw [drew2]⟩
      have HX : Hid (∀ q, OffR T s b R w (.returned (.tuple #[.int .i64 acc, .int .u16 0])) (wr.drewN q)) := fun q => by
        have hr := HJ.out.2.1
        unfold offF at hr
        rw [if_neg (by omega)] at hr
        refine ⟨fun n k' e => ?_, fun e => by rw [← hr] at e; cases e⟩
        rw [← hr] at e; cases e
        exact ⟨rfl, HJ.out.2.2.1.trans (Fr.drewN _ _ q), HJ.out.2.2.2.kp (kp_drewN _ q), by omega⟩
      clear HJ hend hpl
      go_wp2_with fail
      refine Calls.mono (HO.out 0) ?_
      rintro e w2 ⟨rfl, q, rfl⟩
      clear HO
      go_wp2_with fail
      go_ret2
      exact HX.out q
    · by_cases hm : amo (byteAt s k) ⟨#[43, 45]⟩ = true
      · have hlt : k < s.size := by omega
        have hc := hm
        rw [amo_off' (byteAt_lt s k)] at hc
        simp at hc
        have HO : Hid (∀ q, Calls Tryz.prog 127 #[.pointer (some ⟨b, 0, none⟩), .string ⟨#[43, 45]⟩] (wr.drewN q) fun e w' => e = .returned (.tuple #[.int .u8 (byteAt s k), .bool true]) ∧ Fr (On b) w w' ∧ Plc T s (k + 1) b w') := fun q => by
          refine (oneOf_yes (HJ.out.2.2.2.kp (kp_drewN _ q)) hs hlt hm).mono ?_
          rintro e w' ⟨rfl, q1, q2⟩
          exact ⟨rfl, (HJ.out.2.2.1.trans (Fr.drewN _ _ q)).trans q1, q2⟩
        have HNo : Hid (numV s (k + 1) = none → R = none) := fun e => by
          have hr := HJ.out.2.1
          unfold offF at hr
          rw [if_pos ⟨hlt, hc⟩, e] at hr
          exact hr.symm
        have HStep : Hid (∀ m k', numV s (k + 1) = some (m, k') → offF s g k' (acc + (if byteAt s k = 45 then -((m.getD 1 : Nat) : Int) else ((m.getD 1 : Nat) : Int))) = R) := fun m k' e => by
          have hr := HJ.out.2.1
          unfold offF at hr
          rw [if_pos ⟨hlt, hc⟩, e] at hr
          exact hr
        have HG : Hid (s.size < k + (g + 1)) := HJ.out.1
        obtain ⟨c, hcc⟩ : ∃ c, byteAt s k = c := ⟨_, rfl⟩
        rw [hcc] at HO HStep hc
        clear HJ hm hcc hend
        go_wp2_with fail
        refine Calls.mono (HO.out 0) ?_
        rintro e w2 ⟨rfl, f2, p2⟩
        have HN : Hid _ := number_any p2 hs (by omega)
        have HF2 : Hid (Fr (On b) w w2) := f2
        clear HO f2 p2
        go_wp2_with fail
        refine Calls.mono HN.out ?_
        rintro e w3 ⟨n, is, er, k3, rfl, ⟨f3, p3, hk3, hk3'⟩, hor⟩
        clear HN
        have HF3 : Hid (Fr (On b) w w3 ∧ Plc T s k3 b w3) := ⟨HF2.out.trans f3, p3⟩
        clear HF2 f3 p3
        rcases hor with ⟨h1, rfl⟩ | ⟨rfl, rfl, h1⟩ | ⟨rfl, rfl, h2, h3, h1⟩
        · as_aux_lemma =>
          have HX : Hid (OffR T s b R w (.returned (.tuple #[.int .i64 0, .int .u16 141])) w3) := ⟨fun n k' e => (by rw [HNo.out h1] at e; cases e), fun _ => ⟨rfl, HF3.out.1, _, HF3.out.2⟩⟩
          clear HF3 HNo HStep HG h1
          go_wp2_with fail
          go_ret2
          exact HX.out
        · rcases hc with hc | hc
          · as_aux_lemma =>
            subst hc
            have hst := HStep.out _ _ h1
            have hst2 : offF s g k3 (acc + 1) = R := hst
            have HX : Hid (s.size < k3 + g ∧ offF s g k3 (acc + 1) = R ∧ Fr (On b) w w3 ∧ Plc T s k3 b w3) := ⟨by have := HG.out; omega, hst2, HF3.out⟩
            have hp3 := HF3.out.2.pl
            have hb3 : -(1000000000 * (k3 : Int)) ≤ acc + 1 ∧ acc + 1 ≤ 1000000000 * (k3 : Int) := by omega
            have hb4 : -9223372036854775808 ≤ acc + 1 ∧ acc + 1 ≤ 9223372036854775807 := by omega
            clear HF3 HNo HStep HG h1 hst hst2
            go_wp2_with fail
            go_roundw
            case rel => exact ⟨k3, g, acc + 1, by go_num, by omega, hb3, HX.out⟩
            case measure => rw [hp3, hpl]; omega
          · as_aux_lemma =>
            subst hc
            have hst := HStep.out _ _ h1
            have hst2 : offF s g k3 (acc + -1) = R := hst
            have HX : Hid (s.size < k3 + g ∧ offF s g k3 (acc + -1) = R ∧ Fr (On b) w w3 ∧ Plc T s k3 b w3) := ⟨by have := HG.out; omega, hst2, HF3.out⟩
            have hp3 := HF3.out.2.pl
            have hb3 : -(1000000000 * (k3 : Int)) ≤ acc + -1 ∧ acc + -1 ≤ 1000000000 * (k3 : Int) := by omega
            have hb4 : -9223372036854775808 ≤ acc + -1 ∧ acc + -1 ≤ 9223372036854775807 := by omega
            clear HF3 HNo HStep HG h1 hst hst2
            go_wp2_with fail
            go_roundw
            case rel => exact ⟨k3, g, acc + -1, by go_num, by omega, hb3, HX.out⟩
            case measure => rw [hp3, hpl]; omega
        · rcases hc with hc | hc
          · as_aux_lemma =>
            subst hc
            have hst := HStep.out _ _ h1
            have hst2 : offF s g k3 (acc + n) = R := by
              rw [← hst]; congr 1
              have : ((some n.toNat).getD 1 : Nat) = n.toNat := rfl
              rw [this]
              rw [if_neg (by decide)]
              omega
            have HX : Hid (s.size < k3 + g ∧ offF s g k3 (acc + n) = R ∧ Fr (On b) w w3 ∧ Plc T s k3 b w3) := ⟨by have := HG.out; omega, hst2, HF3.out⟩
            have hp3 := HF3.out.2.pl
            have hb3 : -(1000000000 * (k3 : Int)) ≤ acc + n ∧ acc + n ≤ 1000000000 * (k3 : Int) := by omega
            have hb4 : -9223372036854775808 ≤ acc + n ∧ acc + n ≤ 9223372036854775807 := by omega
            have hb5 : -9223372036854775808 ≤ -n ∧ -n ≤ 9223372036854775807 := by omega
            clear HF3 HNo HStep HG h1 hst hst2
            go_wp2_with fail
            go_roundw
            case rel => exact ⟨k3, g, acc + n, by go_num, by omega, hb3, HX.out⟩
            case measure => rw [hp3, hpl]; omega
          · as_aux_lemma =>
            subst hc
            have hst := HStep.out _ _ h1
            have hst2 : offF s g k3 (acc + -n) = R := by
              rw [← hst]; congr 1
              have : ((some n.toNat).getD 1 : Nat) = n.toNat := rfl
              rw [this]
              rw [if_pos rfl]
              omega
            have HX : Hid (s.size < k3 + g ∧ offF s g k3 (acc + -n) = R ∧ Fr (On b) w w3 ∧ Plc T s k3 b w3) := ⟨by have := HG.out; omega, hst2, HF3.out⟩
            have hp3 := HF3.out.2.pl
            have hb3 : -(1000000000 * (k3 : Int)) ≤ acc + -n ∧ acc + -n ≤ 1000000000 * (k3 : Int) := by omega
            have hb4 : -9223372036854775808 ≤ acc + -n ∧ acc + -n ≤ 9223372036854775807 := by omega
            have hb5 : -9223372036854775808 ≤ -n ∧ -n ≤ 9223372036854775807 := by omega
            clear HF3 HNo HStep HG h1 hst hst2
            go_wp2_with fail
            go_roundw
            case rel => exact ⟨k3, g, acc + -n, by go_num, by omega, hb3, HX.out⟩
            case measure => rw [hp3, hpl]; omega
      · as_aux_lemma =>
        have hlt : k < s.size := by omega
        have hm' : amo (byteAt s k) ⟨#[43, 45]⟩ = false := by simpa using hm
        have HO : Hid (∀ q, Calls Tryz.prog 127 #[.pointer (some ⟨b, 0, none⟩), .string ⟨#[43, 45]⟩] (wr.drewN q) fun e w' => e = .returned (.tuple #[.int .u8 0, .bool false]) ∧ ∃ q, w' = wr.drewN q) := fun q => by
          refine (oneOf_no (HJ.out.2.2.2.kp (kp_drewN _ q)) hs hlt hm').mono ?_
          rintro e w' ⟨rfl, q', rfl⟩
          exact ⟨rfl, q + q', by rw [drew2]⟩
        have HX : Hid (∀ q, OffR T s b R w (.returned (.tuple #[.int .i64 acc, .int .u16 0])) (wr.drewN q)) := fun q => by
          have hr := HJ.out.2.1
          rw [amo_off' (byteAt_lt s k)] at hm'
          simp at hm'
          unfold offF at hr
          rw [if_neg (by omega)] at hr
          refine ⟨fun n k' e => ?_, fun e => by rw [← hr] at e; cases e⟩
          rw [← hr] at e; cases e
          exact ⟨rfl, HJ.out.2.2.1.trans (Fr.drewN _ _ q), HJ.out.2.2.2.kp (kp_drewN _ q), by omega⟩
        clear HJ hend hpl hm hm' hlt
        go_wp2_with fail
        refine Calls.mono (HO.out 0) ?_
        rintro e w2 ⟨rfl, q, rfl⟩
        clear HO
        go_wp2_with fail
        go_ret2
        exact HX.out q
end
end Go.Proofs.YtfgapmfjfienhaaGreatDoor
/- A mark; an address without its offset, but for patterns. -/
namespace Go.Proofs.YtfgapmfjfienhaaGreatDoor
open Go.ChangeShapes Go.WideShapes Go.ChangeAt Go.RowKit Go.Maps Go.MapKept
set_option linter.unusedVariables false
set_option linter.unusedSimpArgs false
set_option maxRecDepth 100000
theorem sizeAddr : (Tryz.prog.info? 43).map (·.size) = some 6 := by kernel_rfl
section
variable {T : TypeId} {s : ByteArray} {at_ b p : Nat} {w w1 w2 : World}
theorem frB (f : Fr (On b) w w1) (h : w.heap.size ≤ p) (k : Fr (On p) w1 w2) : Fr (On b) w w2 := f.trans' k fun q hq e => by unfold On at e; omega
theorem Plc.lt (h : Plc T s at_ b w) : b < w.heap.size := Lc.lt h
/-- The answer's own cells, fresh, beside a place. -/
structure Ans (T : TypeId) (s : ByteArray) (k b p : Nat) (l : List Value) (w w1 : World) : Prop where
  pc : Plc T s k b w1
  fr : Fr (On b) w w1
  lc : Lc 43 p l w1
  hp : w.heap.size ≤ p
  hb : b < p
theorem ans_new (h : Plc T s at_ b w) : Ans T s at_ b w.heap.size [.int .u8 0, .int .i64 0, .int .u8 0, .string ⟨#[]⟩, .int .i64 0, .bool false] w (w.alloc (.cells #[.int .u8 0, .int .i64 0, .int .u8 0, .string ⟨#[]⟩, .int .i64 0, .bool false] 43)) :=
  ⟨h.kp (kp_alloc _ _), Fr.of_below (kp_alloc _ _), Lc.new w [.int .u8 0, .int .i64 0, .int .u8 0, .string ⟨#[]⟩, .int .i64 0, .bool false] 43, Nat.le_refl _, h.lt⟩
theorem Ans.call {k k' : Nat} {l : List Value} (h : Ans T s k b p l w w1) (f : Fr (On b) w1 w2) (q : Plc T s k' b w2) : Ans T s k' b p l w w2 :=
  ⟨q, h.fr.trans f, h.lc.fr f (by unfold On; have := h.hb; omega), h.hp, h.hb⟩
theorem Ans.kp {k : Nat} {l : List Value} (h : Ans T s k b p l w w1) (f : Kp w1 w2) : Ans T s k b p l w w2 := ⟨h.pc.kp f, h.fr.trans (Fr.of_below f), h.lc.kp f, h.hp, h.hb⟩
theorem Ans.put {k : Nat} {l l' : List Value} (h : Ans T s k b p l w w1) (q : Lc 43 p l' w2) (f : Fr (On p) w1 w2) : Ans T s k b p l' w w2 :=
  ⟨Lc.fr h.pc f (by unfold On; have := h.hb; omega), frB h.fr h.hp f, q, h.hp, h.hb⟩
theorem one6 {a b c d e f : Value} (h : a.oneCell' = true ∧ b.oneCell' = true ∧ c.oneCell' = true ∧ d.oneCell' = true ∧ e.oneCell' = true ∧ f.oneCell' = true) : ∀ v ∈ [a, b, c, d, e, f], v.oneCell' = true := by
  intro v hv
  simp only [List.mem_cons, List.not_mem_nil, or_false] at hv
  rcases hv with rfl | rfl | rfl | rfl | rfl | rfl
  · exact h.1
  · exact h.2.1
  · exact h.2.2.1
  · exact h.2.2.2.1
  · exact h.2.2.2.2.1
  · exact h.2.2.2.2.2
set_option maxHeartbeats 8000000 in
theorem mark_end (h : Plc T s at_ b w) (hs : s.size ≤ 1000000) (ha : at_ = s.size) :
    Calls Tryz.prog 150 #[.pointer (some ⟨b, 0, none⟩)] w fun e w' => e = .returned (.tuple #[.agg #[.int .u8 0, .int .i64 0, .int .u8 0, .string ⟨#[]⟩, .int .i64 0, .bool false], .int .u16 141]) ∧ Fr (On b) w w' ∧ Plc T s at_ b w' := by
  obtain ⟨p, hp⟩ : ∃ p, w.heap.size = p := ⟨_, rfl⟩
  obtain ⟨W1, hW1⟩ : ∃ z, w.alloc (.cells #[.int .u8 0, .int .i64 0, .int .u8 0, .string ⟨#[]⟩, .int .i64 0, .bool false] 43) = z := ⟨_, rfl⟩
  have HI : Hid (Ans T s at_ b p [.int .u8 0, .int .i64 0, .int .u8 0, .string ⟨#[]⟩, .int .i64 0, .bool false] w W1) := by rw [← hW1, ← hp]; exact ans_new h
  clear h
  have HN : Hid (Calls Tryz.prog 141 #[.pointer (some ⟨b, 0, none⟩)] W1 fun e w' => e = .returned (.tuple #[.int .u8 0, .bool false]) ∧ Hid (Ans T s at_ b p [.int .u8 0, .int .i64 0, .int .u8 0, .string ⟨#[]⟩, .int .i64 0, .bool false] w w')) := by
    have hpc := HI.out.pc
    rw [ha] at hpc
    refine (next_end hpc hs).mono ?_
    rintro e w' ⟨rfl, q, rfl⟩
    exact ⟨rfl, HI.out.kp (kp_drewN _ q)⟩
  clear ha HI
  go_enter Tryz.func150, Tryz.ntmps150
  go_wp2_with fail
  refine Calls.mono HN.out ?_
  rintro e w2 ⟨rfl, HA⟩
  clear HN
  go_wp2_with (refine wpList_store_box HA.out.lc 0 [.int .u8 0, .int .i64 0, .int .u8 0, .string ⟨#[]⟩, .int .i64 0, .bool false] rfl 43 (.tmp 2) (.tmp 15) rfl rfl rfl (Nat.le_refl 6) sizeAddr (one6 ⟨rfl, rfl, rfl, rfl, rfl, rfl⟩) rfl ?_; intro w9 q1 q2 q3; have HX : Hid _ := HA.out.put q1 q2; clear q1 q2 q3)
  refine bodyPost_ret (results_box2 rfl rfl HX.out.lc Tryz.underlying43 rfl sizeAddr) rfl ?_
  exact ⟨rfl, HX.out.fr, HX.out.pc⟩
set_option maxHeartbeats 8000000 in
theorem mark_one (h : Plc T s at_ b w) (hs : s.size ≤ 1000000) (ha : at_ < s.size) :
    Calls Tryz.prog 150 #[.pointer (some ⟨b, 0, none⟩)] w fun e w' => e = .returned (.tuple #[.agg #[.int .u8 4, .int .i64 0, .int .u8 (byteAt s at_), .string ⟨#[]⟩, .int .i64 0, .bool false], .int .u16 0]) ∧ Fr (On b) w w' ∧ Plc T s (at_ + 1) b w' := by
  obtain ⟨p, hp⟩ : ∃ p, w.heap.size = p := ⟨_, rfl⟩
  obtain ⟨W1, hW1⟩ : ∃ z, w.alloc (.cells #[.int .u8 0, .int .i64 0, .int .u8 0, .string ⟨#[]⟩, .int .i64 0, .bool false] 43) = z := ⟨_, rfl⟩
  have HI : Hid (Ans T s at_ b p [.int .u8 0, .int .i64 0, .int .u8 0, .string ⟨#[]⟩, .int .i64 0, .bool false] w W1) := by rw [← hW1, ← hp]; exact ans_new h
  clear h
  have HN : Hid (Calls Tryz.prog 141 #[.pointer (some ⟨b, 0, none⟩)] W1 fun e w' => e = .returned (.tuple #[.int .u8 (byteAt s at_), .bool true]) ∧ Hid (Ans T s (at_ + 1) b p [.int .u8 0, .int .i64 0, .int .u8 0, .string ⟨#[]⟩, .int .i64 0, .bool false] w w')) := by
    refine (next_one HI.out.pc hs ha).mono ?_
    rintro e w' ⟨rfl, q1, q2⟩
    exact ⟨rfl, HI.out.call q1 q2⟩
  clear ha HI
  go_enter Tryz.func150, Tryz.ntmps150
  go_wp2_with fail
  refine Calls.mono HN.out ?_
  rintro e w2 ⟨rfl, HA⟩
  clear HN
  go_wp2_with (refine wpList_store_box HA.out.lc 0 [.int .u8 4, .int .i64 0, .int .u8 (byteAt s at_), .string ⟨#[]⟩, .int .i64 0, .bool false] rfl 43 (.tmp 2) (.tmp 17) rfl rfl rfl (Nat.le_refl 6) sizeAddr (one6 ⟨rfl, rfl, rfl, rfl, rfl, rfl⟩) rfl ?_; intro w9 q1 q2 q3; have HX : Hid _ := HA.out.put q1 q2; clear q1 q2 q3)
  refine bodyPost_ret (results_box2 rfl rfl HX.out.lc Tryz.underlying43 rfl sizeAddr) rfl ?_
  exact ⟨rfl, HX.out.fr, HX.out.pc⟩
set_option maxHeartbeats 8000000 in
theorem plain_num (h : Plc T s at_ b w) (hs : s.size ≤ 1000000) (ha : at_ ≤ s.size) {n k : Nat} (hn : numV s at_ = some (some n, k)) :
    Calls Tryz.prog 142 #[.pointer (some ⟨b, 0, none⟩)] w fun e w' => e = .returned (.tuple #[.agg #[.int .u8 1, .int .i64 (n : Int), .int .u8 0, .string ⟨#[]⟩, .int .i64 0, .bool false], .int .u16 0]) ∧ Fr (On b) w w' ∧ Plc T s k b w' := by
  obtain ⟨p, hp⟩ : ∃ p, w.heap.size = p := ⟨_, rfl⟩
  obtain ⟨W1, hW1⟩ : ∃ z, w.alloc (.cells #[.int .u8 0, .int .i64 0, .int .u8 0, .string ⟨#[]⟩, .int .i64 0, .bool false] 43) = z := ⟨_, rfl⟩
  have HI : Hid (Ans T s at_ b p [.int .u8 0, .int .i64 0, .int .u8 0, .string ⟨#[]⟩, .int .i64 0, .bool false] w W1) := by rw [← hW1, ← hp]; exact ans_new h
  clear h
  have HN : Hid (Calls Tryz.prog 149 #[.pointer (some ⟨b, 0, none⟩)] W1 fun e w' => e = .returned (.tuple #[.int .i64 (n : Int), .bool true, .int .u16 0]) ∧ Hid (Ans T s k b p [.int .u8 0, .int .i64 0, .int .u8 0, .string ⟨#[]⟩, .int .i64 0, .bool false] w w')) := by
    refine (number_any HI.out.pc hs ha).mono ?_
    rintro e w' ⟨n', is', er', k', rfl, ⟨q1, q2, _, _⟩, hor⟩
    rcases hor with ⟨h1, _⟩ | ⟨_, _, h1⟩ | ⟨rfl, rfl, h2, h3, h1⟩
    · rw [hn] at h1; cases h1
    · rw [hn] at h1; cases h1
    · rw [hn] at h1
      simp only [Option.some.injEq, Prod.mk.injEq] at h1
      obtain ⟨h1, rfl⟩ := h1
      obtain rfl : n' = (n : Int) := by omega
      exact ⟨rfl, HI.out.call q1 q2⟩
  clear ha HI hn
  go_enter Tryz.func142, Tryz.ntmps142
  go_wp2_with fail
  refine Calls.mono HN.out ?_
  rintro e w2 ⟨rfl, HA⟩
  clear HN
  go_wp2_with (refine wpList_store_box HA.out.lc 0 [.int .u8 1, .int .i64 (n : Int), .int .u8 0, .string ⟨#[]⟩, .int .i64 0, .bool false] rfl 43 (.tmp 2) (.tmp 23) rfl rfl rfl (Nat.le_refl 6) sizeAddr (one6 ⟨rfl, rfl, rfl, rfl, rfl, rfl⟩) rfl ?_; intro w9 q1 q2 q3; have HX : Hid _ := HA.out.put q1 q2; clear q1 q2 q3)
  refine bodyPost_ret (results_box2 rfl rfl HX.out.lc Tryz.underlying43 rfl sizeAddr) rfl ?_
  exact ⟨rfl, HX.out.fr, HX.out.pc⟩
theorem numV_none {k k' : Nat} (h : numV s k = some (none, k')) : spanE digF s k = k ∧ k' = k := by
  unfold numV at h
  by_cases c : spanE digF s k = k
  · simp only [c, if_true] at h
    simp only [Option.some.injEq, Prod.mk.injEq] at h
    exact ⟨c, h.2.symm⟩
  · simp only [if_neg c] at h
    split at h
    · cases h
    · simp at h
theorem amo_pl : ∀ c : Fin 256, amo c.val ⟨#[46, 36, 39, 47, 63]⟩ = (c.val == 46 || c.val == 36 || c.val == 39 || c.val == 47 || c.val == 63) := by decide +kernel
theorem amo_pl' {c : Nat} (h : c < 256) : amo c ⟨#[46, 36, 39, 47, 63]⟩ = (c == 46 || c == 36 || c == 39 || c == 47 || c == 63) := amo_pl ⟨c, h⟩
set_option maxHeartbeats 8000000 in
theorem plain_none (h : Plc T s at_ b w) (hs : s.size ≤ 1000000) (ha : at_ ≤ s.size) (hn : numV s at_ = some (none, at_)) (hc : at_ < s.size → byteAt s at_ ≠ 46 ∧ byteAt s at_ ≠ 36 ∧ byteAt s at_ ≠ 39 ∧ byteAt s at_ ≠ 47 ∧ byteAt s at_ ≠ 63) :
    Calls Tryz.prog 142 #[.pointer (some ⟨b, 0, none⟩)] w fun e w' => e = .returned (.tuple #[.agg #[.int .u8 0, .int .i64 0, .int .u8 0, .string ⟨#[]⟩, .int .i64 0, .bool false], .int .u16 0]) ∧ Fr (On b) w w' ∧ Plc T s at_ b w' := by
  obtain ⟨p, hp⟩ : ∃ p, w.heap.size = p := ⟨_, rfl⟩
  obtain ⟨W1, hW1⟩ : ∃ z, w.alloc (.cells #[.int .u8 0, .int .i64 0, .int .u8 0, .string ⟨#[]⟩, .int .i64 0, .bool false] 43) = z := ⟨_, rfl⟩
  have HI : Hid (Ans T s at_ b p [.int .u8 0, .int .i64 0, .int .u8 0, .string ⟨#[]⟩, .int .i64 0, .bool false] w W1) := by rw [← hW1, ← hp]; exact ans_new h
  clear h
  have HO : Hid (∀ z, Ans T s at_ b p [.int .u8 0, .int .i64 0, .int .u8 0, .string ⟨#[]⟩, .int .i64 0, .bool false] w z → Calls Tryz.prog 127 #[.pointer (some ⟨b, 0, none⟩), .string ⟨#[46, 36, 39, 47, 63]⟩] z fun e w' => e = .returned (.tuple #[.int .u8 0, .bool false]) ∧ Hid (Ans T s at_ b p [.int .u8 0, .int .i64 0, .int .u8 0, .string ⟨#[]⟩, .int .i64 0, .bool false] w w')) := fun z hz => by
    by_cases c : at_ = s.size
    · have hpc := hz.pc
      rw [c] at hpc
      refine (oneOf_end hpc hs).mono ?_
      rintro e w' ⟨rfl, q, rfl⟩
      exact ⟨rfl, hz.kp (kp_drewN _ q)⟩
    · refine (oneOf_no hz.pc hs (by omega) (by rw [amo_pl' (byteAt_lt s at_)]; obtain ⟨h1, h2, h3, h4, h5⟩ := hc (by omega); simp [h1, h2, h3, h4, h5])).mono ?_
      rintro e w' ⟨rfl, q, rfl⟩
      exact ⟨rfl, hz.kp (kp_drewN _ q)⟩
  have HN : Hid (Calls Tryz.prog 149 #[.pointer (some ⟨b, 0, none⟩)] W1 fun e w' => e = .returned (.tuple #[.int .i64 0, .bool false, .int .u16 0]) ∧ Hid (Ans T s at_ b p [.int .u8 0, .int .i64 0, .int .u8 0, .string ⟨#[]⟩, .int .i64 0, .bool false] w w')) := by
    refine (number_none HI.out.pc hs (by omega) (numV_none hn).1).mono ?_
    rintro e w' ⟨rfl, q1, q2⟩
    exact ⟨rfl, HI.out.call q1 q2⟩
  clear HI hn
  clear ha hc
  go_enter Tryz.func142, Tryz.ntmps142
  go_wp2_with fail
  refine Calls.mono HN.out ?_
  rintro e w2 ⟨rfl, HA⟩
  clear HN
  go_wp2_with fail
  refine Calls.mono (HO.out _ HA.out) ?_
  rintro e w3 ⟨rfl, HB⟩
  clear HO HA
  go_wp2_with (refine wpList_store_box HB.out.lc 0 [.int .u8 0, .int .i64 0, .int .u8 0, .string ⟨#[]⟩, .int .i64 0, .bool false] rfl 43 (.tmp 2) (.tmp 60) rfl rfl rfl (Nat.le_refl 6) sizeAddr (one6 ⟨rfl, rfl, rfl, rfl, rfl, rfl⟩) rfl ?_; intro w9 q1 q2 q3; have HX : Hid _ := HB.out.put q1 q2; clear q1 q2 q3)
  refine bodyPost_ret (results_box2 rfl rfl HX.out.lc Tryz.underlying43 rfl sizeAddr) rfl ?_
  exact ⟨rfl, HX.out.fr, HX.out.pc⟩
set_option maxHeartbeats 8000000 in
theorem plain_dot (h : Plc T s at_ b w) (hs : s.size ≤ 1000000) (ha : at_ < s.size) (hn : numV s at_ = some (none, at_)) (hc : byteAt s at_ = 46) :
    Calls Tryz.prog 142 #[.pointer (some ⟨b, 0, none⟩)] w fun e w' => e = .returned (.tuple #[.agg #[.int .u8 2, .int .i64 0, .int .u8 0, .string ⟨#[]⟩, .int .i64 0, .bool false], .int .u16 0]) ∧ Fr (On b) w w' ∧ Plc T s (at_ + 1) b w' := by
  obtain ⟨p, hp⟩ : ∃ p, w.heap.size = p := ⟨_, rfl⟩
  obtain ⟨W1, hW1⟩ : ∃ z, w.alloc (.cells #[.int .u8 0, .int .i64 0, .int .u8 0, .string ⟨#[]⟩, .int .i64 0, .bool false] 43) = z := ⟨_, rfl⟩
  have HI : Hid (Ans T s at_ b p [.int .u8 0, .int .i64 0, .int .u8 0, .string ⟨#[]⟩, .int .i64 0, .bool false] w W1) := by rw [← hW1, ← hp]; exact ans_new h
  clear h
  have HO : Hid (∀ z, Ans T s at_ b p [.int .u8 0, .int .i64 0, .int .u8 0, .string ⟨#[]⟩, .int .i64 0, .bool false] w z → Calls Tryz.prog 127 #[.pointer (some ⟨b, 0, none⟩), .string ⟨#[46, 36, 39, 47, 63]⟩] z fun e w' => e = .returned (.tuple #[.int .u8 (byteAt s at_), .bool true]) ∧ Hid (Ans T s (at_ + 1) b p [.int .u8 0, .int .i64 0, .int .u8 0, .string ⟨#[]⟩, .int .i64 0, .bool false] w w')) := fun z hz => by
    refine (oneOf_yes hz.pc hs ha (by rw [amo_pl' (byteAt_lt s at_), hc]; decide)).mono ?_
    rintro e w' ⟨rfl, q1, q2⟩
    exact ⟨rfl, hz.call q1 q2⟩
  rw [hc] at HO
  have HN : Hid (Calls Tryz.prog 149 #[.pointer (some ⟨b, 0, none⟩)] W1 fun e w' => e = .returned (.tuple #[.int .i64 0, .bool false, .int .u16 0]) ∧ Hid (Ans T s at_ b p [.int .u8 0, .int .i64 0, .int .u8 0, .string ⟨#[]⟩, .int .i64 0, .bool false] w w')) := by
    refine (number_none HI.out.pc hs (by omega) (numV_none hn).1).mono ?_
    rintro e w' ⟨rfl, q1, q2⟩
    exact ⟨rfl, HI.out.call q1 q2⟩
  clear HI hn
  clear ha hc
  go_enter Tryz.func142, Tryz.ntmps142
  go_wp2_with fail
  refine Calls.mono HN.out ?_
  rintro e w2 ⟨rfl, HA⟩
  clear HN
  go_wp2_with fail
  refine Calls.mono (HO.out _ HA.out) ?_
  rintro e w3 ⟨rfl, HB⟩
  clear HO HA
  go_wp2_with (refine wpList_store_box HB.out.lc 0 [.int .u8 2, .int .i64 0, .int .u8 0, .string ⟨#[]⟩, .int .i64 0, .bool false] rfl 43 (.tmp 2) (.tmp 34) rfl rfl rfl (Nat.le_refl 6) sizeAddr (one6 ⟨rfl, rfl, rfl, rfl, rfl, rfl⟩) rfl ?_; intro w9 q1 q2 q3; have HX : Hid _ := HB.out.put q1 q2; clear q1 q2 q3)
  refine bodyPost_ret (results_box2 rfl rfl HX.out.lc Tryz.underlying43 rfl sizeAddr) rfl ?_
  exact ⟨rfl, HX.out.fr, HX.out.pc⟩
set_option maxHeartbeats 8000000 in
theorem plain_end (h : Plc T s at_ b w) (hs : s.size ≤ 1000000) (ha : at_ < s.size) (hn : numV s at_ = some (none, at_)) (hc : byteAt s at_ = 36) :
    Calls Tryz.prog 142 #[.pointer (some ⟨b, 0, none⟩)] w fun e w' => e = .returned (.tuple #[.agg #[.int .u8 3, .int .i64 0, .int .u8 0, .string ⟨#[]⟩, .int .i64 0, .bool false], .int .u16 0]) ∧ Fr (On b) w w' ∧ Plc T s (at_ + 1) b w' := by
  obtain ⟨p, hp⟩ : ∃ p, w.heap.size = p := ⟨_, rfl⟩
  obtain ⟨W1, hW1⟩ : ∃ z, w.alloc (.cells #[.int .u8 0, .int .i64 0, .int .u8 0, .string ⟨#[]⟩, .int .i64 0, .bool false] 43) = z := ⟨_, rfl⟩
  have HI : Hid (Ans T s at_ b p [.int .u8 0, .int .i64 0, .int .u8 0, .string ⟨#[]⟩, .int .i64 0, .bool false] w W1) := by rw [← hW1, ← hp]; exact ans_new h
  clear h
  have HO : Hid (∀ z, Ans T s at_ b p [.int .u8 0, .int .i64 0, .int .u8 0, .string ⟨#[]⟩, .int .i64 0, .bool false] w z → Calls Tryz.prog 127 #[.pointer (some ⟨b, 0, none⟩), .string ⟨#[46, 36, 39, 47, 63]⟩] z fun e w' => e = .returned (.tuple #[.int .u8 (byteAt s at_), .bool true]) ∧ Hid (Ans T s (at_ + 1) b p [.int .u8 0, .int .i64 0, .int .u8 0, .string ⟨#[]⟩, .int .i64 0, .bool false] w w')) := fun z hz => by
    refine (oneOf_yes hz.pc hs ha (by rw [amo_pl' (byteAt_lt s at_), hc]; decide)).mono ?_
    rintro e w' ⟨rfl, q1, q2⟩
    exact ⟨rfl, hz.call q1 q2⟩
  rw [hc] at HO
  have HN : Hid (Calls Tryz.prog 149 #[.pointer (some ⟨b, 0, none⟩)] W1 fun e w' => e = .returned (.tuple #[.int .i64 0, .bool false, .int .u16 0]) ∧ Hid (Ans T s at_ b p [.int .u8 0, .int .i64 0, .int .u8 0, .string ⟨#[]⟩, .int .i64 0, .bool false] w w')) := by
    refine (number_none HI.out.pc hs (by omega) (numV_none hn).1).mono ?_
    rintro e w' ⟨rfl, q1, q2⟩
    exact ⟨rfl, HI.out.call q1 q2⟩
  clear HI hn
  clear ha hc
  go_enter Tryz.func142, Tryz.ntmps142
  go_wp2_with fail
  refine Calls.mono HN.out ?_
  rintro e w2 ⟨rfl, HA⟩
  clear HN
  go_wp2_with fail
  refine Calls.mono (HO.out _ HA.out) ?_
  rintro e w3 ⟨rfl, HB⟩
  clear HO HA
  go_wp2_with (refine wpList_store_box HB.out.lc 0 [.int .u8 3, .int .i64 0, .int .u8 0, .string ⟨#[]⟩, .int .i64 0, .bool false] rfl 43 (.tmp 2) (.tmp 37) rfl rfl rfl (Nat.le_refl 6) sizeAddr (one6 ⟨rfl, rfl, rfl, rfl, rfl, rfl⟩) rfl ?_; intro w9 q1 q2 q3; have HX : Hid _ := HB.out.put q1 q2; clear q1 q2 q3)
  refine bodyPost_ret (results_box2 rfl rfl HX.out.lc Tryz.underlying43 rfl sizeAddr) rfl ?_
  exact ⟨rfl, HX.out.fr, HX.out.pc⟩
set_option maxHeartbeats 8000000 in
theorem plain_mark (h : Plc T s at_ b w) (hs : s.size ≤ 1000000) (ha : at_ < s.size) (hn : numV s at_ = some (none, at_)) (hc : byteAt s at_ = 39) (hm : at_ + 1 < s.size) :
    Calls Tryz.prog 142 #[.pointer (some ⟨b, 0, none⟩)] w fun e w' => e = .returned (.tuple #[.agg #[.int .u8 4, .int .i64 0, .int .u8 (byteAt s (at_ + 1)), .string ⟨#[]⟩, .int .i64 0, .bool false], .int .u16 0]) ∧ Fr (On b) w w' ∧ Plc T s (at_ + 1 + 1) b w' := by
  obtain ⟨p, hp⟩ : ∃ p, w.heap.size = p := ⟨_, rfl⟩
  obtain ⟨W1, hW1⟩ : ∃ z, w.alloc (.cells #[.int .u8 0, .int .i64 0, .int .u8 0, .string ⟨#[]⟩, .int .i64 0, .bool false] 43) = z := ⟨_, rfl⟩
  have HI : Hid (Ans T s at_ b p [.int .u8 0, .int .i64 0, .int .u8 0, .string ⟨#[]⟩, .int .i64 0, .bool false] w W1) := by rw [← hW1, ← hp]; exact ans_new h
  clear h
  have HO : Hid (∀ z, Ans T s at_ b p [.int .u8 0, .int .i64 0, .int .u8 0, .string ⟨#[]⟩, .int .i64 0, .bool false] w z → Calls Tryz.prog 127 #[.pointer (some ⟨b, 0, none⟩), .string ⟨#[46, 36, 39, 47, 63]⟩] z fun e w' => e = .returned (.tuple #[.int .u8 (byteAt s at_), .bool true]) ∧ Hid (Ans T s (at_ + 1) b p [.int .u8 0, .int .i64 0, .int .u8 0, .string ⟨#[]⟩, .int .i64 0, .bool false] w w')) := fun z hz => by
    refine (oneOf_yes hz.pc hs ha (by rw [amo_pl' (byteAt_lt s at_), hc]; decide)).mono ?_
    rintro e w' ⟨rfl, q1, q2⟩
    exact ⟨rfl, hz.call q1 q2⟩
  rw [hc] at HO
  have HN : Hid (Calls Tryz.prog 149 #[.pointer (some ⟨b, 0, none⟩)] W1 fun e w' => e = .returned (.tuple #[.int .i64 0, .bool false, .int .u16 0]) ∧ Hid (Ans T s at_ b p [.int .u8 0, .int .i64 0, .int .u8 0, .string ⟨#[]⟩, .int .i64 0, .bool false] w w')) := by
    refine (number_none HI.out.pc hs (by omega) (numV_none hn).1).mono ?_
    rintro e w' ⟨rfl, q1, q2⟩
    exact ⟨rfl, HI.out.call q1 q2⟩
  clear HI hn
  have HM : Hid (∀ z, Ans T s (at_ + 1) b p [.int .u8 0, .int .i64 0, .int .u8 0, .string ⟨#[]⟩, .int .i64 0, .bool false] w z → Calls Tryz.prog 150 #[.pointer (some ⟨b, 0, none⟩)] z fun e w' => e = .returned (.tuple #[.agg #[.int .u8 4, .int .i64 0, .int .u8 (byteAt s (at_ + 1)), .string ⟨#[]⟩, .int .i64 0, .bool false], .int .u16 0]) ∧ Hid (Ans T s (at_ + 1 + 1) b p [.int .u8 0, .int .i64 0, .int .u8 0, .string ⟨#[]⟩, .int .i64 0, .bool false] w w')) := fun z hz => by
    refine (mark_one hz.pc hs hm).mono ?_
    rintro e w' ⟨rfl, q1, q2⟩
    exact ⟨rfl, hz.call q1 q2⟩
  clear ha hc hm
  go_enter Tryz.func142, Tryz.ntmps142
  go_wp2_with fail
  refine Calls.mono HN.out ?_
  rintro e w2 ⟨rfl, HA⟩
  clear HN
  go_wp2_with fail
  refine Calls.mono (HO.out _ HA.out) ?_
  rintro e w3 ⟨rfl, HB⟩
  clear HO HA
  go_wp2_with fail
  refine Calls.mono (HM.out _ HB.out) ?_
  rintro e w4 ⟨rfl, HC⟩
  clear HM HB
  go_wp2_with (refine wpList_store_box HC.out.lc 0 [.int .u8 4, .int .i64 0, .int .u8 (byteAt s (at_ + 1)), .string ⟨#[]⟩, .int .i64 0, .bool false] rfl 43 (.tmp 2) (.tmp 42) rfl rfl rfl (Nat.le_refl 6) sizeAddr (one6 ⟨rfl, rfl, rfl, rfl, rfl, rfl⟩) rfl ?_; intro w9 q1 q2 q3; have HX : Hid _ := HC.out.put q1 q2; clear q1 q2 q3)
  refine bodyPost_ret (results_box2 rfl rfl HX.out.lc Tryz.underlying43 rfl sizeAddr) rfl ?_
  exact ⟨rfl, HX.out.fr, HX.out.pc⟩
set_option maxHeartbeats 8000000 in
theorem plain_markend (h : Plc T s at_ b w) (hs : s.size ≤ 1000000) (ha : at_ < s.size) (hn : numV s at_ = some (none, at_)) (hc : byteAt s at_ = 39) (hm : at_ + 1 = s.size) :
    Calls Tryz.prog 142 #[.pointer (some ⟨b, 0, none⟩)] w fun e w' => e = .returned (.tuple #[.agg #[.int .u8 0, .int .i64 0, .int .u8 0, .string ⟨#[]⟩, .int .i64 0, .bool false], .int .u16 141]) ∧ Fr (On b) w w' ∧ Plc T s (at_ + 1) b w' := by
  obtain ⟨p, hp⟩ : ∃ p, w.heap.size = p := ⟨_, rfl⟩
  obtain ⟨W1, hW1⟩ : ∃ z, w.alloc (.cells #[.int .u8 0, .int .i64 0, .int .u8 0, .string ⟨#[]⟩, .int .i64 0, .bool false] 43) = z := ⟨_, rfl⟩
  have HI : Hid (Ans T s at_ b p [.int .u8 0, .int .i64 0, .int .u8 0, .string ⟨#[]⟩, .int .i64 0, .bool false] w W1) := by rw [← hW1, ← hp]; exact ans_new h
  clear h
  have HO : Hid (∀ z, Ans T s at_ b p [.int .u8 0, .int .i64 0, .int .u8 0, .string ⟨#[]⟩, .int .i64 0, .bool false] w z → Calls Tryz.prog 127 #[.pointer (some ⟨b, 0, none⟩), .string ⟨#[46, 36, 39, 47, 63]⟩] z fun e w' => e = .returned (.tuple #[.int .u8 (byteAt s at_), .bool true]) ∧ Hid (Ans T s (at_ + 1) b p [.int .u8 0, .int .i64 0, .int .u8 0, .string ⟨#[]⟩, .int .i64 0, .bool false] w w')) := fun z hz => by
    refine (oneOf_yes hz.pc hs ha (by rw [amo_pl' (byteAt_lt s at_), hc]; decide)).mono ?_
    rintro e w' ⟨rfl, q1, q2⟩
    exact ⟨rfl, hz.call q1 q2⟩
  rw [hc] at HO
  have HN : Hid (Calls Tryz.prog 149 #[.pointer (some ⟨b, 0, none⟩)] W1 fun e w' => e = .returned (.tuple #[.int .i64 0, .bool false, .int .u16 0]) ∧ Hid (Ans T s at_ b p [.int .u8 0, .int .i64 0, .int .u8 0, .string ⟨#[]⟩, .int .i64 0, .bool false] w w')) := by
    refine (number_none HI.out.pc hs (by omega) (numV_none hn).1).mono ?_
    rintro e w' ⟨rfl, q1, q2⟩
    exact ⟨rfl, HI.out.call q1 q2⟩
  clear HI hn
  have HM : Hid (∀ z, Ans T s (at_ + 1) b p [.int .u8 0, .int .i64 0, .int .u8 0, .string ⟨#[]⟩, .int .i64 0, .bool false] w z → Calls Tryz.prog 150 #[.pointer (some ⟨b, 0, none⟩)] z fun e w' => e = .returned (.tuple #[.agg #[.int .u8 0, .int .i64 0, .int .u8 0, .string ⟨#[]⟩, .int .i64 0, .bool false], .int .u16 141]) ∧ Hid (Ans T s (at_ + 1) b p [.int .u8 0, .int .i64 0, .int .u8 0, .string ⟨#[]⟩, .int .i64 0, .bool false] w w')) := fun z hz => by
    refine (mark_end hz.pc hs hm).mono ?_
    rintro e w' ⟨rfl, q1, q2⟩
    exact ⟨rfl, hz.call q1 q2⟩
  clear ha hc hm
  go_enter Tryz.func142, Tryz.ntmps142
  go_wp2_with fail
  refine Calls.mono HN.out ?_
  rintro e w2 ⟨rfl, HA⟩
  clear HN
  go_wp2_with fail
  refine Calls.mono (HO.out _ HA.out) ?_
  rintro e w3 ⟨rfl, HB⟩
  clear HO HA
  go_wp2_with fail
  refine Calls.mono (HM.out _ HB.out) ?_
  rintro e w4 ⟨rfl, HC⟩
  clear HM HB
  go_wp2_with (refine wpList_store_box HC.out.lc 0 [.int .u8 0, .int .i64 0, .int .u8 0, .string ⟨#[]⟩, .int .i64 0, .bool false] rfl 43 (.tmp 2) (.tmp 42) rfl rfl rfl (Nat.le_refl 6) sizeAddr (one6 ⟨rfl, rfl, rfl, rfl, rfl, rfl⟩) rfl ?_; intro w9 q1 q2 q3; have HX : Hid _ := HC.out.put q1 q2; clear q1 q2 q3)
  refine bodyPost_ret (results_box2 rfl rfl HX.out.lc Tryz.underlying43 rfl sizeAddr) rfl ?_
  exact ⟨rfl, HX.out.fr, HX.out.pc⟩
end
end Go.Proofs.YtfgapmfjfienhaaGreatDoor
