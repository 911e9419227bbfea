/- Texts that the proof of the law stands on: Hm3, Hm4, Hm5, Hp0, Hp1, Hp2, Hq0, Hq1, Hn1. -/
import Derived.Test.YtalmajiflmejcaaGreatPartI
import Derived.Laws.OwnMore
import Derived.WalkSmall
/- The matcher: isOf. -/
namespace Go.Proofs.YtalmajiflmejcaaGreat
open Go.ChangeShapes Go.WideShapes Go.ChangeAt Go.RowKit
set_option linter.unusedVariables false
set_option linter.unusedSimpArgs false
theorem sm_nat {c : Nat} (h : c < 256) : ∃ d : Nat, smI (c : Int) = (d : Int) ∧ d < 256 := by
  unfold smI
  split
  · rename_i q
    unfold grtB bt at q
    refine ⟨c + 32, by omega, ?_⟩
    simp at q
    omega
  · exact ⟨c, rfl, h⟩
theorem gr_nat {c : Nat} (h : c < 256) : ∃ d : Nat, grI (c : Int) = (d : Int) ∧ d < 256 := by
  unfold grI
  split
  · rename_i q
    unfold smlB bt at q
    simp at q
    exact ⟨c - 32, by omega, by omega⟩
  · exact ⟨c, rfl, h⟩
/-- Is a byte of a set, where small and great letters may be the same? -/
def ofB (st : S4) (fo : Bool) (c : Nat) : Bool := hasS st c || fo && (hasS st (smI (c : Int)).toNat || hasS st (grI (c : Int)).toNat)
set_option maxHeartbeats 8000000 in
set_option maxRecDepth 100000 in
theorem isOf_m (s : ByteArray) (fo : Bool) (st : S4) (hst : st.ok) {c : Nat} (hc : c < 256) (w : World) : Calls Tryz.prog 219 #[.agg #[.string s, .bool fo], .agg #[.int .u64 st.a, .int .u64 st.b, .int .u64 st.c, .int .u64 st.d], .int .u8 c] w fun e w' => e = .returned (.bool (ofB st fo c)) ∧ Kp w w' := by
  obtain ⟨cs, h2, h3⟩ := sm_nat hc
  obtain ⟨cg, h4, h5⟩ := gr_nat hc
  have HS : Hid (∀ z, Calls Tryz.prog 203 #[.int .u8 c] z fun e w' => e = .returned (.int .u8 cs) ∧ w' = z) := fun z => by rw [← h2]; exact kSmall_any _ z
  have HG : Hid (∀ z, Calls Tryz.prog 202 #[.int .u8 c] z fun e w' => e = .returned (.int .u8 cg) ∧ w' = z) := fun z => by rw [← h4]; exact kGreat_any _ z
  have HSM : Hid (∀ z, Calls Tryz.prog 203 #[.int .u8 c] z fun e w' => e = .returned (.int .u8 cs) ∧ Kp z w') := fun z => Calls.mono (HS.out z) fun e w' q => ⟨q.1, by rw [q.2]; exact Below.refl _ _⟩
  have HGR : Hid (∀ z, Calls Tryz.prog 202 #[.int .u8 c] z fun e w' => e = .returned (.int .u8 cg) ∧ Kp z w') := fun z => Calls.mono (HG.out z) fun e w' q => ⟨q.1, by rw [q.2]; exact Below.refl _ _⟩
  have HE : ofB st fo c = (hasS st c || fo && (hasS st cs || hasS st cg)) := by unfold ofB; rw [h2, h4]; simp
  rw [HE]
  have HH1 : Hid (∀ z, Calls Tryz.prog 224 #[.agg #[.int .u64 st.a, .int .u64 st.b, .int .u64 st.c, .int .u64 st.d], .int .u8 c] z fun e w' => e = .returned (.bool (hasS st c)) ∧ Kp z w') := fun z => kHas_any st hst c hc z
  have HH2 : Hid (∀ z, Calls Tryz.prog 224 #[.agg #[.int .u64 st.a, .int .u64 st.b, .int .u64 st.c, .int .u64 st.d], .int .u8 cs] z fun e w' => e = .returned (.bool (hasS st cs)) ∧ Kp z w') := fun z => kHas_any st hst cs h3 z
  have HH3 : Hid (∀ z, Calls Tryz.prog 224 #[.agg #[.int .u64 st.a, .int .u64 st.b, .int .u64 st.c, .int .u64 st.d], .int .u8 cg] z fun e w' => e = .returned (.bool (hasS st cg)) ∧ Kp z w') := fun z => kHas_any st hst cg h5 z
  generalize hasS st c = b1 at HH1 ⊢
  generalize hasS st cs = b2 at HH2 ⊢
  generalize hasS st cg = b3 at HH3 ⊢
  obtain ⟨m, hm⟩ : ∃ m, w.heap.size = m := ⟨_, rfl⟩
  obtain ⟨W1, hW1⟩ : ∃ W1, (w.alloc (.cells #[.string s, .bool fo] 154)).alloc (.cells #[.int .u64 st.a, .int .u64 st.b, .int .u64 st.c, .int .u64 st.d] 108) = W1 := ⟨_, rfl⟩
  have H1 : Hid (Kp w W1 ∧ Lc 154 m [.string s, .bool fo] W1 ∧ Lc 108 (m + 1) [.int .u64 st.a, .int .u64 st.b, .int .u64 st.c, .int .u64 st.d] W1) := by
    rw [← hW1, ← hm]
    refine ⟨kp_trans (kp_alloc _ _) (kp_alloc _ _), (Lc.new w [.string s, .bool fo] _).kp (kp_alloc _ _), ?_⟩
    have := Lc.new (w.alloc (.cells #[.string s, .bool fo] 154)) [.int .u64 st.a, .int .u64 st.b, .int .u64 st.c, .int .u64 st.d] 108
    rw [alloc_size] at this
    exact this
  clear HE h2 h3 h4 h5 hst hc HS HG
  go_enter Tryz.func219, Tryz.ntmps219
  go_upto_region 1 with fail
  try rw [hW1]
  try rw [hm]
  clear hW1 hm
  cases b1 with
  | true =>
    refine wp_region_noPanic ?_
    refine wp_region_held_drew (S := fun z => Lc 154 m [.string s, .bool fo] z ∧ Lc 108 (m + 1) [.int .u64 st.a, .int .u64 st.b, .int .u64 st.c, .int .u64 st.d] z) (by kernel_rfl) (⟨H1.out.2.1.kp (kp_drew _), H1.out.2.2.kp (kp_drew _)⟩) (fun hHeld => ?_)
    refine takeAt 0 (some 7) (.agg #[.int .u64 st.a, .int .u64 st.b, .int .u64 st.c, .int .u64 st.d]) rfl rfl (by kernel_rfl) (by kernel_rfl) (by kernel_rfl) (fun _ _ _ h => h) (Or.inl ⟨by rfl, ?_⟩) hHeld ?_
    · intro w hSw
      have y0 : w.cell? ⟨m + 1, 0, none⟩ = _ := hSw.2.at rfl
      have y1 : w.cell? ⟨m + 1, 1, none⟩ = _ := hSw.2.at rfl
      have y2 : w.cell? ⟨m + 1, 2, none⟩ = _ := hSw.2.at rfl
      have y3 : w.cell? ⟨m + 1, 3, none⟩ = _ := hSw.2.at rfl
      go_simp <;> with_reducible rfl
    try simp only [Act.put, List.setIfInBounds_toArray, List.set_cons_zero, List.set_cons_succ]
    refine takeAt 1 (some 8) ?_ rfl rfl (by kernel_rfl) (by kernel_rfl) (by kernel_rfl) (fun _ _ _ h => h) (Or.inl ⟨by rfl, ?_⟩) hHeld ?_
    rotate_left
    · intro w hSw
      go_simp <;> with_reducible rfl
    try simp only [Act.put, List.setIfInBounds_toArray, List.set_cons_zero, List.set_cons_succ]
    refine callAt 2 9 224 (vals := #[.agg #[.int .u64 st.a, .int .u64 st.b, .int .u64 st.c, .int .u64 st.d], .int .u8 c]) (by kernel_rfl) rfl rfl rfl rfl (by simp [Act.eval]) Tryz.func224 (by kernel_rfl) (by kernel_rfl) ?_
    refine Calls.mono (HH1.out _) ?_
    rintro e x1 ⟨rfl, q⟩
    have K1 : Hid (Kp w x1) := kp_trans (kp_trans H1.out.1 (kp_drew _)) q
    have hS1 : Lc 154 m [.string s, .bool fo] x1 ∧ Lc 108 (m + 1) [.int .u64 st.a, .int .u64 st.b, .int .u64 st.c, .int .u64 st.d] x1 := ⟨hHeld.1.kp q, hHeld.2.kp q⟩
    clear q
    refine ⟨_, rfl, hS1, fun hHeld => ?_⟩
    try simp only [Act.put, List.setIfInBounds_toArray, List.set_cons_zero, List.set_cons_succ]
    refine takeAt 3 (some 10) ?_ rfl rfl (by kernel_rfl) (by kernel_rfl) (by kernel_rfl) (fun _ _ _ h => h) (Or.inl ⟨by rfl, ?_⟩) hHeld ?_
    rotate_left
    · intro w hSw
      go_simp <;> with_reducible rfl
    try simp only [Act.put, List.setIfInBounds_toArray, List.set_cons_zero, List.set_cons_succ]
    refine takeAt 4 (some 11) undef rfl rfl (by kernel_rfl) (by kernel_rfl) (by kernel_rfl) (fun _ _ _ h => h) (Or.inr ⟨by rfl, rfl⟩) hHeld ?_
    try simp only [Act.put, List.setIfInBounds_toArray, List.set_cons_zero, List.set_cons_succ]
    refine takeAt 5 (some 12) undef rfl rfl (by kernel_rfl) (by kernel_rfl) (by kernel_rfl) (fun _ _ _ h => h) (Or.inr ⟨by rfl, rfl⟩) hHeld ?_
    try simp only [Act.put, List.setIfInBounds_toArray, List.set_cons_zero, List.set_cons_succ]
    refine takeAt 6 (some 13) undef rfl rfl (by kernel_rfl) (by kernel_rfl) (by kernel_rfl) (fun _ _ _ h => h) (Or.inr ⟨by rfl, rfl⟩) hHeld ?_
    try simp only [Act.put, List.setIfInBounds_toArray, List.set_cons_zero, List.set_cons_succ]
    refine takeAt 7 (some 14) undef rfl rfl (by kernel_rfl) (by kernel_rfl) (by kernel_rfl) (fun _ _ _ h => h) (Or.inr ⟨by rfl, rfl⟩) hHeld ?_
    try simp only [Act.put, List.setIfInBounds_toArray, List.set_cons_zero, List.set_cons_succ]
    refine takeAt 8 (some 15) undef rfl rfl (by kernel_rfl) (by kernel_rfl) (by kernel_rfl) (fun _ _ _ h => h) (Or.inr ⟨by rfl, rfl⟩) hHeld ?_
    try simp only [Act.put, List.setIfInBounds_toArray, List.set_cons_zero, List.set_cons_succ]
    refine takeAt 9 (some 16) undef rfl rfl (by kernel_rfl) (by kernel_rfl) (by kernel_rfl) (fun _ _ _ h => h) (Or.inr ⟨by rfl, rfl⟩) hHeld ?_
    try simp only [Act.put, List.setIfInBounds_toArray, List.set_cons_zero, List.set_cons_succ]
    refine takeAt 10 (some 17) undef rfl rfl (by kernel_rfl) (by kernel_rfl) (by kernel_rfl) (fun _ _ _ h => h) (Or.inr ⟨by rfl, rfl⟩) hHeld ?_
    try simp only [Act.put, List.setIfInBounds_toArray, List.set_cons_zero, List.set_cons_succ]
    refine takeAt 11 (some 18) undef rfl rfl (by kernel_rfl) (by kernel_rfl) (by kernel_rfl) (fun _ _ _ h => h) (Or.inr ⟨by rfl, rfl⟩) hHeld ?_
    try simp only [Act.put, List.setIfInBounds_toArray, List.set_cons_zero, List.set_cons_succ]
    refine takeAt 12 (some 19) undef rfl rfl (by kernel_rfl) (by kernel_rfl) (by kernel_rfl) (fun _ _ _ h => h) (Or.inr ⟨by rfl, rfl⟩) hHeld ?_
    try simp only [Act.put, List.setIfInBounds_toArray, List.set_cons_zero, List.set_cons_succ]
    refine takeAt 13 (some 20) undef rfl rfl (by kernel_rfl) (by kernel_rfl) (by kernel_rfl) (fun _ _ _ h => h) (Or.inr ⟨by rfl, rfl⟩) hHeld ?_
    try simp only [Act.put, List.setIfInBounds_toArray, List.set_cons_zero, List.set_cons_succ]
    refine takeAt 14 (some 21) undef rfl rfl (by kernel_rfl) (by kernel_rfl) (by kernel_rfl) (fun _ _ _ h => h) (Or.inr ⟨by rfl, rfl⟩) hHeld ?_
    try simp only [Act.put, List.setIfInBounds_toArray, List.set_cons_zero, List.set_cons_succ]
    refine takeAt 15 (some 22) undef rfl rfl (by kernel_rfl) (by kernel_rfl) (by kernel_rfl) (fun _ _ _ h => h) (Or.inr ⟨by rfl, rfl⟩) hHeld ?_
    try simp only [Act.put, List.setIfInBounds_toArray, List.set_cons_zero, List.set_cons_succ]
    refine takeAt 16 (some 23) undef rfl rfl (by kernel_rfl) (by kernel_rfl) (by kernel_rfl) (fun _ _ _ h => h) (Or.inr ⟨by rfl, rfl⟩) hHeld ?_
    try simp only [Act.put, List.setIfInBounds_toArray, List.set_cons_zero, List.set_cons_succ]
    refine takeAt 17 (some 24) undef rfl rfl (by kernel_rfl) (by kernel_rfl) (by kernel_rfl) (fun _ _ _ h => h) (Or.inr ⟨by rfl, rfl⟩) hHeld ?_
    try simp only [Act.put, List.setIfInBounds_toArray, List.set_cons_zero, List.set_cons_succ]
    refine takeAt 18 (some 25) ?_ rfl rfl (by kernel_rfl) (by kernel_rfl) (by kernel_rfl) (fun _ _ _ h => h) (Or.inl ⟨by rfl, ?_⟩) hHeld ?_
    rotate_left
    · intro w hSw
      go_simp <;> with_reducible rfl
    try simp only [Act.put, List.setIfInBounds_toArray, List.set_cons_zero, List.set_cons_succ]
    refine takeAt 19 (some 6) ?_ rfl rfl (by kernel_rfl) (by kernel_rfl) (by kernel_rfl) (fun _ _ _ h => h) (Or.inl ⟨by rfl, ?_⟩) hHeld ?_
    rotate_left
    · intro w hSw
      go_simp <;> with_reducible rfl
    try simp only [Act.put, List.setIfInBounds_toArray, List.set_cons_zero, List.set_cons_succ]
    refine wpAnyH_done (by kernel_rfl) ?_ _
    refine NoPanic.normal ?_
    go_wp2_with fail
    go_ret
    exact ⟨rfl, K1.out⟩
  | false =>
  cases fo with
  | false =>
    refine wp_region_noPanic ?_
    refine wp_region_held_drew (S := fun z => Lc 154 m [.string s, .bool false] z ∧ Lc 108 (m + 1) [.int .u64 st.a, .int .u64 st.b, .int .u64 st.c, .int .u64 st.d] z) (by kernel_rfl) (⟨H1.out.2.1.kp (kp_drew _), H1.out.2.2.kp (kp_drew _)⟩) (fun hHeld => ?_)
    refine takeAt 0 (some 7) (.agg #[.int .u64 st.a, .int .u64 st.b, .int .u64 st.c, .int .u64 st.d]) rfl rfl (by kernel_rfl) (by kernel_rfl) (by kernel_rfl) (fun _ _ _ h => h) (Or.inl ⟨by rfl, ?_⟩) hHeld ?_
    · intro w hSw
      have y0 : w.cell? ⟨m + 1, 0, none⟩ = _ := hSw.2.at rfl
      have y1 : w.cell? ⟨m + 1, 1, none⟩ = _ := hSw.2.at rfl
      have y2 : w.cell? ⟨m + 1, 2, none⟩ = _ := hSw.2.at rfl
      have y3 : w.cell? ⟨m + 1, 3, none⟩ = _ := hSw.2.at rfl
      go_simp <;> with_reducible rfl
    try simp only [Act.put, List.setIfInBounds_toArray, List.set_cons_zero, List.set_cons_succ]
    refine takeAt 1 (some 8) ?_ rfl rfl (by kernel_rfl) (by kernel_rfl) (by kernel_rfl) (fun _ _ _ h => h) (Or.inl ⟨by rfl, ?_⟩) hHeld ?_
    rotate_left
    · intro w hSw
      go_simp <;> with_reducible rfl
    try simp only [Act.put, List.setIfInBounds_toArray, List.set_cons_zero, List.set_cons_succ]
    refine callAt 2 9 224 (vals := #[.agg #[.int .u64 st.a, .int .u64 st.b, .int .u64 st.c, .int .u64 st.d], .int .u8 c]) (by kernel_rfl) rfl rfl rfl rfl (by simp [Act.eval]) Tryz.func224 (by kernel_rfl) (by kernel_rfl) ?_
    refine Calls.mono (HH1.out _) ?_
    rintro e x1 ⟨rfl, q⟩
    have K1 : Hid (Kp w x1) := kp_trans (kp_trans H1.out.1 (kp_drew _)) q
    have hS1 : Lc 154 m [.string s, .bool false] x1 ∧ Lc 108 (m + 1) [.int .u64 st.a, .int .u64 st.b, .int .u64 st.c, .int .u64 st.d] x1 := ⟨hHeld.1.kp q, hHeld.2.kp q⟩
    clear q
    refine ⟨_, rfl, hS1, fun hHeld => ?_⟩
    try simp only [Act.put, List.setIfInBounds_toArray, List.set_cons_zero, List.set_cons_succ]
    refine takeAt 3 (some 10) ?_ rfl rfl (by kernel_rfl) (by kernel_rfl) (by kernel_rfl) (fun _ _ _ h => h) (Or.inl ⟨by rfl, ?_⟩) hHeld ?_
    rotate_left
    · intro w hSw
      go_simp <;> with_reducible rfl
    try simp only [Act.put, List.setIfInBounds_toArray, List.set_cons_zero, List.set_cons_succ]
    refine takeAt 4 (some 11) ?_ rfl rfl (by kernel_rfl) (by kernel_rfl) (by kernel_rfl) (fun _ _ _ h => h) (Or.inl ⟨by rfl, ?_⟩) hHeld ?_
    rotate_left
    · intro w hSw
      go_simp <;> with_reducible rfl
    try simp only [Act.put, List.setIfInBounds_toArray, List.set_cons_zero, List.set_cons_succ]
    refine takeAt 5 (some 12) (.bool false) rfl rfl (by kernel_rfl) (by kernel_rfl) (by kernel_rfl) (fun _ _ _ h => h) (Or.inl ⟨by rfl, ?_⟩) hHeld ?_
    · intro w hSw
      have y9 : w.cell? ⟨m, 1, none⟩ = _ := hSw.1.at rfl
      go_simp <;> with_reducible rfl
    try simp only [Act.put, List.setIfInBounds_toArray, List.set_cons_zero, List.set_cons_succ]
    refine takeAt 6 (some 13) ?_ rfl rfl (by kernel_rfl) (by kernel_rfl) (by kernel_rfl) (fun _ _ _ h => h) (Or.inl ⟨by rfl, ?_⟩) hHeld ?_
    rotate_left
    · intro w hSw
      go_simp <;> with_reducible rfl
    try simp only [Act.put, List.setIfInBounds_toArray, List.set_cons_zero, List.set_cons_succ]
    refine takeAt 7 (some 14) undef rfl rfl (by kernel_rfl) (by kernel_rfl) (by kernel_rfl) (fun _ _ _ h => h) (Or.inr ⟨by rfl, rfl⟩) hHeld ?_
    try simp only [Act.put, List.setIfInBounds_toArray, List.set_cons_zero, List.set_cons_succ]
    refine takeAt 8 (some 15) undef rfl rfl (by kernel_rfl) (by kernel_rfl) (by kernel_rfl) (fun _ _ _ h => h) (Or.inr ⟨by rfl, rfl⟩) hHeld ?_
    try simp only [Act.put, List.setIfInBounds_toArray, List.set_cons_zero, List.set_cons_succ]
    refine takeAt 9 (some 16) undef rfl rfl (by kernel_rfl) (by kernel_rfl) (by kernel_rfl) (fun _ _ _ h => h) (Or.inr ⟨by rfl, rfl⟩) hHeld ?_
    try simp only [Act.put, List.setIfInBounds_toArray, List.set_cons_zero, List.set_cons_succ]
    refine takeAt 10 (some 17) undef rfl rfl (by kernel_rfl) (by kernel_rfl) (by kernel_rfl) (fun _ _ _ h => h) (Or.inr ⟨by rfl, rfl⟩) hHeld ?_
    try simp only [Act.put, List.setIfInBounds_toArray, List.set_cons_zero, List.set_cons_succ]
    refine takeAt 11 (some 18) undef rfl rfl (by kernel_rfl) (by kernel_rfl) (by kernel_rfl) (fun _ _ _ h => h) (Or.inr ⟨by rfl, rfl⟩) hHeld ?_
    try simp only [Act.put, List.setIfInBounds_toArray, List.set_cons_zero, List.set_cons_succ]
    refine takeAt 12 (some 19) undef rfl rfl (by kernel_rfl) (by kernel_rfl) (by kernel_rfl) (fun _ _ _ h => h) (Or.inr ⟨by rfl, rfl⟩) hHeld ?_
    try simp only [Act.put, List.setIfInBounds_toArray, List.set_cons_zero, List.set_cons_succ]
    refine takeAt 13 (some 20) undef rfl rfl (by kernel_rfl) (by kernel_rfl) (by kernel_rfl) (fun _ _ _ h => h) (Or.inr ⟨by rfl, rfl⟩) hHeld ?_
    try simp only [Act.put, List.setIfInBounds_toArray, List.set_cons_zero, List.set_cons_succ]
    refine takeAt 14 (some 21) undef rfl rfl (by kernel_rfl) (by kernel_rfl) (by kernel_rfl) (fun _ _ _ h => h) (Or.inr ⟨by rfl, rfl⟩) hHeld ?_
    try simp only [Act.put, List.setIfInBounds_toArray, List.set_cons_zero, List.set_cons_succ]
    refine takeAt 15 (some 22) undef rfl rfl (by kernel_rfl) (by kernel_rfl) (by kernel_rfl) (fun _ _ _ h => h) (Or.inr ⟨by rfl, rfl⟩) hHeld ?_
    try simp only [Act.put, List.setIfInBounds_toArray, List.set_cons_zero, List.set_cons_succ]
    refine takeAt 16 (some 23) undef rfl rfl (by kernel_rfl) (by kernel_rfl) (by kernel_rfl) (fun _ _ _ h => h) (Or.inr ⟨by rfl, rfl⟩) hHeld ?_
    try simp only [Act.put, List.setIfInBounds_toArray, List.set_cons_zero, List.set_cons_succ]
    refine takeAt 17 (some 24) ?_ rfl rfl (by kernel_rfl) (by kernel_rfl) (by kernel_rfl) (fun _ _ _ h => h) (Or.inl ⟨by rfl, ?_⟩) hHeld ?_
    rotate_left
    · intro w hSw
      go_simp <;> with_reducible rfl
    try simp only [Act.put, List.setIfInBounds_toArray, List.set_cons_zero, List.set_cons_succ]
    refine takeAt 18 (some 25) ?_ rfl rfl (by kernel_rfl) (by kernel_rfl) (by kernel_rfl) (fun _ _ _ h => h) (Or.inl ⟨by rfl, ?_⟩) hHeld ?_
    rotate_left
    · intro w hSw
      go_simp <;> with_reducible rfl
    try simp only [Act.put, List.setIfInBounds_toArray, List.set_cons_zero, List.set_cons_succ]
    refine takeAt 19 (some 6) ?_ rfl rfl (by kernel_rfl) (by kernel_rfl) (by kernel_rfl) (fun _ _ _ h => h) (Or.inl ⟨by rfl, ?_⟩) hHeld ?_
    rotate_left
    · intro w hSw
      go_simp <;> with_reducible rfl
    try simp only [Act.put, List.setIfInBounds_toArray, List.set_cons_zero, List.set_cons_succ]
    refine wpAnyH_done (by kernel_rfl) ?_ _
    refine NoPanic.normal ?_
    go_wp2_with fail
    go_ret
    exact ⟨rfl, K1.out⟩
  | true =>
  cases b2 with
  | true =>
    refine wp_region_noPanic ?_
    refine wp_region_held_drew (S := fun z => Lc 154 m [.string s, .bool true] z ∧ Lc 108 (m + 1) [.int .u64 st.a, .int .u64 st.b, .int .u64 st.c, .int .u64 st.d] z) (by kernel_rfl) (⟨H1.out.2.1.kp (kp_drew _), H1.out.2.2.kp (kp_drew _)⟩) (fun hHeld => ?_)
    refine takeAt 0 (some 7) (.agg #[.int .u64 st.a, .int .u64 st.b, .int .u64 st.c, .int .u64 st.d]) rfl rfl (by kernel_rfl) (by kernel_rfl) (by kernel_rfl) (fun _ _ _ h => h) (Or.inl ⟨by rfl, ?_⟩) hHeld ?_
    · intro w hSw
      have y0 : w.cell? ⟨m + 1, 0, none⟩ = _ := hSw.2.at rfl
      have y1 : w.cell? ⟨m + 1, 1, none⟩ = _ := hSw.2.at rfl
      have y2 : w.cell? ⟨m + 1, 2, none⟩ = _ := hSw.2.at rfl
      have y3 : w.cell? ⟨m + 1, 3, none⟩ = _ := hSw.2.at rfl
      go_simp <;> with_reducible rfl
    try simp only [Act.put, List.setIfInBounds_toArray, List.set_cons_zero, List.set_cons_succ]
    refine takeAt 1 (some 8) ?_ rfl rfl (by kernel_rfl) (by kernel_rfl) (by kernel_rfl) (fun _ _ _ h => h) (Or.inl ⟨by rfl, ?_⟩) hHeld ?_
    rotate_left
    · intro w hSw
      go_simp <;> with_reducible rfl
    try simp only [Act.put, List.setIfInBounds_toArray, List.set_cons_zero, List.set_cons_succ]
    refine callAt 2 9 224 (vals := #[.agg #[.int .u64 st.a, .int .u64 st.b, .int .u64 st.c, .int .u64 st.d], .int .u8 c]) (by kernel_rfl) rfl rfl rfl rfl (by simp [Act.eval]) Tryz.func224 (by kernel_rfl) (by kernel_rfl) ?_
    refine Calls.mono (HH1.out _) ?_
    rintro e x1 ⟨rfl, q⟩
    have K1 : Hid (Kp w x1) := kp_trans (kp_trans H1.out.1 (kp_drew _)) q
    have hS1 : Lc 154 m [.string s, .bool true] x1 ∧ Lc 108 (m + 1) [.int .u64 st.a, .int .u64 st.b, .int .u64 st.c, .int .u64 st.d] x1 := ⟨hHeld.1.kp q, hHeld.2.kp q⟩
    clear q
    refine ⟨_, rfl, hS1, fun hHeld => ?_⟩
    try simp only [Act.put, List.setIfInBounds_toArray, List.set_cons_zero, List.set_cons_succ]
    refine takeAt 3 (some 10) ?_ rfl rfl (by kernel_rfl) (by kernel_rfl) (by kernel_rfl) (fun _ _ _ h => h) (Or.inl ⟨by rfl, ?_⟩) hHeld ?_
    rotate_left
    · intro w hSw
      go_simp <;> with_reducible rfl
    try simp only [Act.put, List.setIfInBounds_toArray, List.set_cons_zero, List.set_cons_succ]
    refine takeAt 4 (some 11) ?_ rfl rfl (by kernel_rfl) (by kernel_rfl) (by kernel_rfl) (fun _ _ _ h => h) (Or.inl ⟨by rfl, ?_⟩) hHeld ?_
    rotate_left
    · intro w hSw
      go_simp <;> with_reducible rfl
    try simp only [Act.put, List.setIfInBounds_toArray, List.set_cons_zero, List.set_cons_succ]
    refine takeAt 5 (some 12) (.bool true) rfl rfl (by kernel_rfl) (by kernel_rfl) (by kernel_rfl) (fun _ _ _ h => h) (Or.inl ⟨by rfl, ?_⟩) hHeld ?_
    · intro w hSw
      have y9 : w.cell? ⟨m, 1, none⟩ = _ := hSw.1.at rfl
      go_simp <;> with_reducible rfl
    try simp only [Act.put, List.setIfInBounds_toArray, List.set_cons_zero, List.set_cons_succ]
    refine takeAt 6 (some 13) ?_ rfl rfl (by kernel_rfl) (by kernel_rfl) (by kernel_rfl) (fun _ _ _ h => h) (Or.inl ⟨by rfl, ?_⟩) hHeld ?_
    rotate_left
    · intro w hSw
      go_simp <;> with_reducible rfl
    try simp only [Act.put, List.setIfInBounds_toArray, List.set_cons_zero, List.set_cons_succ]
    refine takeAt 7 (some 14) (.agg #[.int .u64 st.a, .int .u64 st.b, .int .u64 st.c, .int .u64 st.d]) rfl rfl (by kernel_rfl) (by kernel_rfl) (by kernel_rfl) (fun _ _ _ h => h) (Or.inl ⟨by rfl, ?_⟩) hHeld ?_
    · intro w hSw
      have y0 : w.cell? ⟨m + 1, 0, none⟩ = _ := hSw.2.at rfl
      have y1 : w.cell? ⟨m + 1, 1, none⟩ = _ := hSw.2.at rfl
      have y2 : w.cell? ⟨m + 1, 2, none⟩ = _ := hSw.2.at rfl
      have y3 : w.cell? ⟨m + 1, 3, none⟩ = _ := hSw.2.at rfl
      go_simp <;> with_reducible rfl
    try simp only [Act.put, List.setIfInBounds_toArray, List.set_cons_zero, List.set_cons_succ]
    refine takeAt 8 (some 15) ?_ rfl rfl (by kernel_rfl) (by kernel_rfl) (by kernel_rfl) (fun _ _ _ h => h) (Or.inl ⟨by rfl, ?_⟩) hHeld ?_
    rotate_left
    · intro w hSw
      go_simp <;> with_reducible rfl
    try simp only [Act.put, List.setIfInBounds_toArray, List.set_cons_zero, List.set_cons_succ]
    refine callAtG 9 16 203 (vals := #[.int .u8 c]) (by kernel_rfl) rfl rfl rfl (by rfl) (by simp [Act.eval]) Tryz.func203 (by kernel_rfl) (by kernel_rfl) ?_
    refine Calls.mono (HSM.out _) ?_
    rintro e x2 ⟨rfl, q⟩
    have K2 : Hid (Kp w x2) := kp_trans K1.out q
    have hS2 : Lc 154 m [.string s, .bool true] x2 ∧ Lc 108 (m + 1) [.int .u64 st.a, .int .u64 st.b, .int .u64 st.c, .int .u64 st.d] x2 := ⟨hHeld.1.kp q, hHeld.2.kp q⟩
    clear q
    refine ⟨_, rfl, hS2, fun hHeld => ?_⟩
    try simp only [Act.put, List.setIfInBounds_toArray, List.set_cons_zero, List.set_cons_succ]
    refine callAtG 10 17 224 (vals := #[.agg #[.int .u64 st.a, .int .u64 st.b, .int .u64 st.c, .int .u64 st.d], .int .u8 cs]) (by kernel_rfl) rfl rfl rfl (by rfl) (by simp [Act.eval]) Tryz.func224 (by kernel_rfl) (by kernel_rfl) ?_
    refine Calls.mono (HH2.out _) ?_
    rintro e x3 ⟨rfl, q⟩
    have K3 : Hid (Kp w x3) := kp_trans K2.out q
    have hS3 : Lc 154 m [.string s, .bool true] x3 ∧ Lc 108 (m + 1) [.int .u64 st.a, .int .u64 st.b, .int .u64 st.c, .int .u64 st.d] x3 := ⟨hHeld.1.kp q, hHeld.2.kp q⟩
    clear q
    refine ⟨_, rfl, hS3, fun hHeld => ?_⟩
    try simp only [Act.put, List.setIfInBounds_toArray, List.set_cons_zero, List.set_cons_succ]
    refine takeAt 11 (some 18) ?_ rfl rfl (by kernel_rfl) (by kernel_rfl) (by kernel_rfl) (fun _ _ _ h => h) (Or.inl ⟨by rfl, ?_⟩) hHeld ?_
    rotate_left
    · intro w hSw
      go_simp <;> with_reducible rfl
    try simp only [Act.put, List.setIfInBounds_toArray, List.set_cons_zero, List.set_cons_succ]
    refine takeAt 12 (some 19) undef rfl rfl (by kernel_rfl) (by kernel_rfl) (by kernel_rfl) (fun _ _ _ h => h) (Or.inr ⟨by rfl, rfl⟩) hHeld ?_
    try simp only [Act.put, List.setIfInBounds_toArray, List.set_cons_zero, List.set_cons_succ]
    refine takeAt 13 (some 20) undef rfl rfl (by kernel_rfl) (by kernel_rfl) (by kernel_rfl) (fun _ _ _ h => h) (Or.inr ⟨by rfl, rfl⟩) hHeld ?_
    try simp only [Act.put, List.setIfInBounds_toArray, List.set_cons_zero, List.set_cons_succ]
    refine takeAt 14 (some 21) undef rfl rfl (by kernel_rfl) (by kernel_rfl) (by kernel_rfl) (fun _ _ _ h => h) (Or.inr ⟨by rfl, rfl⟩) hHeld ?_
    try simp only [Act.put, List.setIfInBounds_toArray, List.set_cons_zero, List.set_cons_succ]
    refine takeAt 15 (some 22) undef rfl rfl (by kernel_rfl) (by kernel_rfl) (by kernel_rfl) (fun _ _ _ h => h) (Or.inr ⟨by rfl, rfl⟩) hHeld ?_
    try simp only [Act.put, List.setIfInBounds_toArray, List.set_cons_zero, List.set_cons_succ]
    refine takeAt 16 (some 23) ?_ rfl rfl (by kernel_rfl) (by kernel_rfl) (by kernel_rfl) (fun _ _ _ h => h) (Or.inl ⟨by rfl, ?_⟩) hHeld ?_
    rotate_left
    · intro w hSw
      go_simp <;> with_reducible rfl
    try simp only [Act.put, List.setIfInBounds_toArray, List.set_cons_zero, List.set_cons_succ]
    refine takeAt 17 (some 24) ?_ rfl rfl (by kernel_rfl) (by kernel_rfl) (by kernel_rfl) (fun _ _ _ h => h) (Or.inl ⟨by rfl, ?_⟩) hHeld ?_
    rotate_left
    · intro w hSw
      go_simp <;> with_reducible rfl
    try simp only [Act.put, List.setIfInBounds_toArray, List.set_cons_zero, List.set_cons_succ]
    refine takeAt 18 (some 25) ?_ rfl rfl (by kernel_rfl) (by kernel_rfl) (by kernel_rfl) (fun _ _ _ h => h) (Or.inl ⟨by rfl, ?_⟩) hHeld ?_
    rotate_left
    · intro w hSw
      go_simp <;> with_reducible rfl
    try simp only [Act.put, List.setIfInBounds_toArray, List.set_cons_zero, List.set_cons_succ]
    refine takeAt 19 (some 6) ?_ rfl rfl (by kernel_rfl) (by kernel_rfl) (by kernel_rfl) (fun _ _ _ h => h) (Or.inl ⟨by rfl, ?_⟩) hHeld ?_
    rotate_left
    · intro w hSw
      go_simp <;> with_reducible rfl
    try simp only [Act.put, List.setIfInBounds_toArray, List.set_cons_zero, List.set_cons_succ]
    refine wpAnyH_done (by kernel_rfl) ?_ _
    refine NoPanic.normal ?_
    go_wp2_with fail
    go_ret
    exact ⟨rfl, K3.out⟩
  | false =>
    refine wp_region_noPanic ?_
    refine wp_region_held_drew (S := fun z => Lc 154 m [.string s, .bool true] z ∧ Lc 108 (m + 1) [.int .u64 st.a, .int .u64 st.b, .int .u64 st.c, .int .u64 st.d] z) (by kernel_rfl) (⟨H1.out.2.1.kp (kp_drew _), H1.out.2.2.kp (kp_drew _)⟩) (fun hHeld => ?_)
    refine takeAt 0 (some 7) (.agg #[.int .u64 st.a, .int .u64 st.b, .int .u64 st.c, .int .u64 st.d]) rfl rfl (by kernel_rfl) (by kernel_rfl) (by kernel_rfl) (fun _ _ _ h => h) (Or.inl ⟨by rfl, ?_⟩) hHeld ?_
    · intro w hSw
      have y0 : w.cell? ⟨m + 1, 0, none⟩ = _ := hSw.2.at rfl
      have y1 : w.cell? ⟨m + 1, 1, none⟩ = _ := hSw.2.at rfl
      have y2 : w.cell? ⟨m + 1, 2, none⟩ = _ := hSw.2.at rfl
      have y3 : w.cell? ⟨m + 1, 3, none⟩ = _ := hSw.2.at rfl
      go_simp <;> with_reducible rfl
    try simp only [Act.put, List.setIfInBounds_toArray, List.set_cons_zero, List.set_cons_succ]
    refine takeAt 1 (some 8) ?_ rfl rfl (by kernel_rfl) (by kernel_rfl) (by kernel_rfl) (fun _ _ _ h => h) (Or.inl ⟨by rfl, ?_⟩) hHeld ?_
    rotate_left
    · intro w hSw
      go_simp <;> with_reducible rfl
    try simp only [Act.put, List.setIfInBounds_toArray, List.set_cons_zero, List.set_cons_succ]
    refine callAt 2 9 224 (vals := #[.agg #[.int .u64 st.a, .int .u64 st.b, .int .u64 st.c, .int .u64 st.d], .int .u8 c]) (by kernel_rfl) rfl rfl rfl rfl (by simp [Act.eval]) Tryz.func224 (by kernel_rfl) (by kernel_rfl) ?_
    refine Calls.mono (HH1.out _) ?_
    rintro e x1 ⟨rfl, q⟩
    have K1 : Hid (Kp w x1) := kp_trans (kp_trans H1.out.1 (kp_drew _)) q
    have hS1 : Lc 154 m [.string s, .bool true] x1 ∧ Lc 108 (m + 1) [.int .u64 st.a, .int .u64 st.b, .int .u64 st.c, .int .u64 st.d] x1 := ⟨hHeld.1.kp q, hHeld.2.kp q⟩
    clear q
    refine ⟨_, rfl, hS1, fun hHeld => ?_⟩
    try simp only [Act.put, List.setIfInBounds_toArray, List.set_cons_zero, List.set_cons_succ]
    refine takeAt 3 (some 10) ?_ rfl rfl (by kernel_rfl) (by kernel_rfl) (by kernel_rfl) (fun _ _ _ h => h) (Or.inl ⟨by rfl, ?_⟩) hHeld ?_
    rotate_left
    · intro w hSw
      go_simp <;> with_reducible rfl
    try simp only [Act.put, List.setIfInBounds_toArray, List.set_cons_zero, List.set_cons_succ]
    refine takeAt 4 (some 11) ?_ rfl rfl (by kernel_rfl) (by kernel_rfl) (by kernel_rfl) (fun _ _ _ h => h) (Or.inl ⟨by rfl, ?_⟩) hHeld ?_
    rotate_left
    · intro w hSw
      go_simp <;> with_reducible rfl
    try simp only [Act.put, List.setIfInBounds_toArray, List.set_cons_zero, List.set_cons_succ]
    refine takeAt 5 (some 12) (.bool true) rfl rfl (by kernel_rfl) (by kernel_rfl) (by kernel_rfl) (fun _ _ _ h => h) (Or.inl ⟨by rfl, ?_⟩) hHeld ?_
    · intro w hSw
      have y9 : w.cell? ⟨m, 1, none⟩ = _ := hSw.1.at rfl
      go_simp <;> with_reducible rfl
    try simp only [Act.put, List.setIfInBounds_toArray, List.set_cons_zero, List.set_cons_succ]
    refine takeAt 6 (some 13) ?_ rfl rfl (by kernel_rfl) (by kernel_rfl) (by kernel_rfl) (fun _ _ _ h => h) (Or.inl ⟨by rfl, ?_⟩) hHeld ?_
    rotate_left
    · intro w hSw
      go_simp <;> with_reducible rfl
    try simp only [Act.put, List.setIfInBounds_toArray, List.set_cons_zero, List.set_cons_succ]
    refine takeAt 7 (some 14) (.agg #[.int .u64 st.a, .int .u64 st.b, .int .u64 st.c, .int .u64 st.d]) rfl rfl (by kernel_rfl) (by kernel_rfl) (by kernel_rfl) (fun _ _ _ h => h) (Or.inl ⟨by rfl, ?_⟩) hHeld ?_
    · intro w hSw
      have y0 : w.cell? ⟨m + 1, 0, none⟩ = _ := hSw.2.at rfl
      have y1 : w.cell? ⟨m + 1, 1, none⟩ = _ := hSw.2.at rfl
      have y2 : w.cell? ⟨m + 1, 2, none⟩ = _ := hSw.2.at rfl
      have y3 : w.cell? ⟨m + 1, 3, none⟩ = _ := hSw.2.at rfl
      go_simp <;> with_reducible rfl
    try simp only [Act.put, List.setIfInBounds_toArray, List.set_cons_zero, List.set_cons_succ]
    refine takeAt 8 (some 15) ?_ rfl rfl (by kernel_rfl) (by kernel_rfl) (by kernel_rfl) (fun _ _ _ h => h) (Or.inl ⟨by rfl, ?_⟩) hHeld ?_
    rotate_left
    · intro w hSw
      go_simp <;> with_reducible rfl
    try simp only [Act.put, List.setIfInBounds_toArray, List.set_cons_zero, List.set_cons_succ]
    refine callAtG 9 16 203 (vals := #[.int .u8 c]) (by kernel_rfl) rfl rfl rfl (by rfl) (by simp [Act.eval]) Tryz.func203 (by kernel_rfl) (by kernel_rfl) ?_
    refine Calls.mono (HSM.out _) ?_
    rintro e x2 ⟨rfl, q⟩
    have K2 : Hid (Kp w x2) := kp_trans K1.out q
    have hS2 : Lc 154 m [.string s, .bool true] x2 ∧ Lc 108 (m + 1) [.int .u64 st.a, .int .u64 st.b, .int .u64 st.c, .int .u64 st.d] x2 := ⟨hHeld.1.kp q, hHeld.2.kp q⟩
    clear q
    refine ⟨_, rfl, hS2, fun hHeld => ?_⟩
    try simp only [Act.put, List.setIfInBounds_toArray, List.set_cons_zero, List.set_cons_succ]
    refine callAtG 10 17 224 (vals := #[.agg #[.int .u64 st.a, .int .u64 st.b, .int .u64 st.c, .int .u64 st.d], .int .u8 cs]) (by kernel_rfl) rfl rfl rfl (by rfl) (by simp [Act.eval]) Tryz.func224 (by kernel_rfl) (by kernel_rfl) ?_
    refine Calls.mono (HH2.out _) ?_
    rintro e x3 ⟨rfl, q⟩
    have K3 : Hid (Kp w x3) := kp_trans K2.out q
    have hS3 : Lc 154 m [.string s, .bool true] x3 ∧ Lc 108 (m + 1) [.int .u64 st.a, .int .u64 st.b, .int .u64 st.c, .int .u64 st.d] x3 := ⟨hHeld.1.kp q, hHeld.2.kp q⟩
    clear q
    refine ⟨_, rfl, hS3, fun hHeld => ?_⟩
    try simp only [Act.put, List.setIfInBounds_toArray, List.set_cons_zero, List.set_cons_succ]
    refine takeAt 11 (some 18) ?_ rfl rfl (by kernel_rfl) (by kernel_rfl) (by kernel_rfl) (fun _ _ _ h => h) (Or.inl ⟨by rfl, ?_⟩) hHeld ?_
    rotate_left
    · intro w hSw
      go_simp <;> with_reducible rfl
    try simp only [Act.put, List.setIfInBounds_toArray, List.set_cons_zero, List.set_cons_succ]
    refine takeAt 12 (some 19) (.agg #[.int .u64 st.a, .int .u64 st.b, .int .u64 st.c, .int .u64 st.d]) rfl rfl (by kernel_rfl) (by kernel_rfl) (by kernel_rfl) (fun _ _ _ h => h) (Or.inl ⟨by rfl, ?_⟩) hHeld ?_
    · intro w hSw
      have y0 : w.cell? ⟨m + 1, 0, none⟩ = _ := hSw.2.at rfl
      have y1 : w.cell? ⟨m + 1, 1, none⟩ = _ := hSw.2.at rfl
      have y2 : w.cell? ⟨m + 1, 2, none⟩ = _ := hSw.2.at rfl
      have y3 : w.cell? ⟨m + 1, 3, none⟩ = _ := hSw.2.at rfl
      go_simp <;> with_reducible rfl
    try simp only [Act.put, List.setIfInBounds_toArray, List.set_cons_zero, List.set_cons_succ]
    refine takeAt 13 (some 20) ?_ rfl rfl (by kernel_rfl) (by kernel_rfl) (by kernel_rfl) (fun _ _ _ h => h) (Or.inl ⟨by rfl, ?_⟩) hHeld ?_
    rotate_left
    · intro w hSw
      go_simp <;> with_reducible rfl
    try simp only [Act.put, List.setIfInBounds_toArray, List.set_cons_zero, List.set_cons_succ]
    refine callAtG 14 21 202 (vals := #[.int .u8 c]) (by kernel_rfl) rfl rfl rfl (by rfl) (by simp [Act.eval]) Tryz.func202 (by kernel_rfl) (by kernel_rfl) ?_
    refine Calls.mono (HGR.out _) ?_
    rintro e x4 ⟨rfl, q⟩
    have K4 : Hid (Kp w x4) := kp_trans K3.out q
    have hS4 : Lc 154 m [.string s, .bool true] x4 ∧ Lc 108 (m + 1) [.int .u64 st.a, .int .u64 st.b, .int .u64 st.c, .int .u64 st.d] x4 := ⟨hHeld.1.kp q, hHeld.2.kp q⟩
    clear q
    refine ⟨_, rfl, hS4, fun hHeld => ?_⟩
    try simp only [Act.put, List.setIfInBounds_toArray, List.set_cons_zero, List.set_cons_succ]
    refine callAtG 15 22 224 (vals := #[.agg #[.int .u64 st.a, .int .u64 st.b, .int .u64 st.c, .int .u64 st.d], .int .u8 cg]) (by kernel_rfl) rfl rfl rfl (by rfl) (by simp [Act.eval]) Tryz.func224 (by kernel_rfl) (by kernel_rfl) ?_
    refine Calls.mono (HH3.out _) ?_
    rintro e x5 ⟨rfl, q⟩
    have K5 : Hid (Kp w x5) := kp_trans K4.out q
    have hS5 : Lc 154 m [.string s, .bool true] x5 ∧ Lc 108 (m + 1) [.int .u64 st.a, .int .u64 st.b, .int .u64 st.c, .int .u64 st.d] x5 := ⟨hHeld.1.kp q, hHeld.2.kp q⟩
    clear q
    refine ⟨_, rfl, hS5, fun hHeld => ?_⟩
    try simp only [Act.put, List.setIfInBounds_toArray, List.set_cons_zero, List.set_cons_succ]
    refine takeAt 16 (some 23) ?_ rfl rfl (by kernel_rfl) (by kernel_rfl) (by kernel_rfl) (fun _ _ _ h => h) (Or.inl ⟨by rfl, ?_⟩) hHeld ?_
    rotate_left
    · intro w hSw
      go_simp <;> with_reducible rfl
    try simp only [Act.put, List.setIfInBounds_toArray, List.set_cons_zero, List.set_cons_succ]
    refine takeAt 17 (some 24) ?_ rfl rfl (by kernel_rfl) (by kernel_rfl) (by kernel_rfl) (fun _ _ _ h => h) (Or.inl ⟨by rfl, ?_⟩) hHeld ?_
    rotate_left
    · intro w hSw
      go_simp <;> with_reducible rfl
    try simp only [Act.put, List.setIfInBounds_toArray, List.set_cons_zero, List.set_cons_succ]
    refine takeAt 18 (some 25) ?_ rfl rfl (by kernel_rfl) (by kernel_rfl) (by kernel_rfl) (fun _ _ _ h => h) (Or.inl ⟨by rfl, ?_⟩) hHeld ?_
    rotate_left
    · intro w hSw
      go_simp <;> with_reducible rfl
    try simp only [Act.put, List.setIfInBounds_toArray, List.set_cons_zero, List.set_cons_succ]
    refine takeAt 19 (some 6) ?_ rfl rfl (by kernel_rfl) (by kernel_rfl) (by kernel_rfl) (fun _ _ _ h => h) (Or.inl ⟨by rfl, ?_⟩) hHeld ?_
    rotate_left
    · intro w hSw
      go_simp <;> with_reducible rfl
    try simp only [Act.put, List.setIfInBounds_toArray, List.set_cons_zero, List.set_cons_succ]
    refine wpAnyH_done (by kernel_rfl) ?_ _
    refine NoPanic.normal ?_
    go_wp2_with fail
    go_ret
    exact ⟨rfl, K5.out⟩
end Go.Proofs.YtalmajiflmejcaaGreat
/- The matcher: fits. -/
namespace Go.Proofs.YtalmajiflmejcaaGreat
open Go.ChangeShapes Go.WideShapes Go.ChangeAt Go.RowKit
set_option linter.unusedVariables false
set_option linter.unusedSimpArgs false
/-- Is there a byte at a place for which the instruction asks? -/
def fitB (s : ByteArray) (fo : Bool) (d : Ins) (k : Nat) : Bool :=
  if k = s.size then false else if d.op = 1 then smeB fo (byt s k) d.c else if d.op = 3 then ofB d.set fo (byt s k) else true
theorem byt_lt (s : ByteArray) (k : Nat) : byt s k < 256 := by unfold byt; exact UInt8.toNat_lt _
set_option maxHeartbeats 8000000 in
set_option maxRecDepth 100000 in
theorem fits_m (s : ByteArray) (fo : Bool) (d : Ins) (hd : d.set.ok) {k : Nat} (hk : k ≤ s.size) (w : World) : Calls Tryz.prog 206 #[.agg #[.string s, .bool fo], d.val, .int .i64 k] w fun e w' => e = .returned (.bool (fitB s fo d k)) ∧ Kp w w' := by
  obtain ⟨op, c, st, xx, yy⟩ := d
  obtain ⟨R, hR⟩ : ∃ R, fitB s fo ⟨op, c, st, xx, yy⟩ k = R := ⟨_, rfl⟩
  rw [hR]
  have HR : Hid (fitB s fo ⟨op, c, st, xx, yy⟩ k = R) := hR
  have HST : Hid (st.ok) := hd
  unfold Ins.val
  simp only
  obtain ⟨m, hm⟩ : ∃ m, w.heap.size = m := ⟨_, rfl⟩
  obtain ⟨W1, hW1⟩ : ∃ W1, (w.alloc (.cells #[.string s, .bool fo] 154)).alloc (.cells #[.int .u8 op, .int .u8 c, .int .u64 st.a, .int .u64 st.b, .int .u64 st.c, .int .u64 st.d, .int .i64 xx, .int .i64 yy] 110) = W1 := ⟨_, rfl⟩
  have H1 : Hid (Kp w W1 ∧ Lc 154 m [.string s, .bool fo] W1 ∧ Lc 110 (m + 1) (Ins.cells ⟨op, c, st, xx, yy⟩) W1) := by
    rw [← hW1, ← hm]
    refine ⟨kp_trans (kp_alloc _ _) (kp_alloc _ _), (Lc.new w [.string s, .bool fo] _).kp (kp_alloc _ _), ?_⟩
    have := Lc.new (w.alloc (.cells #[.string s, .bool fo] 154)) (Ins.cells ⟨op, c, st, xx, yy⟩) 110
    rw [alloc_size] at this
    exact this
  clear hR hd
  go_enter Tryz.func206, Tryz.ntmps206
  go_upto_region 1 with fail
  try rw [hW1]
  try rw [hm]
  clear hW1 hm
  have t0 : W1.cell? ⟨m, 0, none⟩ = some (.string s) := H1.out.2.1.at rfl
  have t1 : W1.cell? ⟨m, 1, none⟩ = some (.bool fo) := H1.out.2.1.at rfl
  have b0 : W1.cell? ⟨m + 1, 0, none⟩ = some (.int .u8 op) := H1.out.2.2.at rfl
  have b1 : W1.cell? ⟨m + 1, 1, none⟩ = some (.int .u8 c) := H1.out.2.2.at rfl
  by_cases hkz : k = s.size
  · have HRX : Hid (R = false) := by show _ = _; rw [← HR.out]; unfold fitB; rw [if_pos hkz]
    have e1 : ((k : Int) == (s.size : Int)) = true := by simp; omega
    clear hkz hk
    go_wp2_with fail
    go_ret
    rw [HRX.out]
    exact ⟨rfl, H1.out.1⟩
  have hk2 : k < s.size := by omega
  have hki : (0 : Int) ≤ (k : Int) ∧ (k : Int) < (s.size : Int) := by omega
  have e1 : ((k : Int) == (s.size : Int)) = false := by simp; omega
  obtain ⟨x, hx⟩ : ∃ x, (s[k]).toNat = x := ⟨_, rfl⟩
  have HX : Hid (byt s k = x ∧ x < 256) := by
    have e : byt s k = x := by rw [byt_eq hk2]; exact hx
    exact ⟨e, by rw [← e]; exact byt_lt s k⟩
  have hR2 := HR.out
  unfold fitB at hR2
  rw [if_neg hkz, HX.out.1] at hR2
  simp only at hR2
  clear hkz hk HR
  by_cases p1 : op = 1
  · subst p1
    rw [if_pos rfl] at hR2
    have HRX : Hid (smeB fo x c = R) := hR2
    have HK : Hid (∀ z, Calls Tryz.prog 216 #[.int .u8 (x : Int), .int .u8 (c : Int), .bool fo] z fun e w' => e = .returned (.bool R) ∧ w' = z) := fun z => by rw [← HRX.out]; exact kSame_any _ _ _ z
    clear hR2
    go_upto_region 5 with fail
    go_quiet ((go_at_call 216; exact Calls.quiet_of_same (HK.out _)))
    go_wp2_with fail
    go_ret
    exact ⟨rfl, kp_trans H1.out.1 (kp_drewN _ _)⟩
  rw [if_neg p1] at hR2
  have i1 : ((op : Int) == 1) = false := by simp; omega
  by_cases p3 : op = 3
  · subst p3
    rw [if_pos rfl] at hR2
    have HOF : Hid (∀ z, Calls Tryz.prog 219 #[.agg #[.string s, .bool fo], .agg #[.int .u64 st.a, .int .u64 st.b, .int .u64 st.c, .int .u64 st.d], .int .u8 x] z fun e w' => e = .returned (.bool R) ∧ Kp z w') := fun z => by rw [← hR2]; exact isOf_m s fo st HST.out HX.out.2 z
    clear hR2
    go_upto_region 7 with fail
    refine wp_region_noPanic ?_
    refine wp_region_held_drew (S := fun z => Lc 154 m [.string s, .bool fo] z ∧ Lc 110 (m + 1) (Ins.cells ⟨3, c, st, xx, yy⟩) z) (by kernel_rfl) (⟨H1.out.2.1.kp (kp_drew _), H1.out.2.2.kp (kp_drew _)⟩) (fun hHeld => ?_)
    refine takeAt 0 (some 27) (.agg #[.string s, .bool fo]) rfl rfl (by kernel_rfl) (by kernel_rfl) (by kernel_rfl) (fun _ _ _ h => h) (Or.inl ⟨by rfl, ?_⟩) hHeld ?_
    · intro w hSw
      have y0 : w.cell? ⟨m, 0, none⟩ = _ := hSw.1.at rfl
      have y1 : w.cell? ⟨m, 1, none⟩ = _ := hSw.1.at rfl
      go_simp <;> with_reducible rfl
    try simp only [Act.put, List.setIfInBounds_toArray, List.set_cons_zero, List.set_cons_succ]
    refine takeAt 1 (some 28) ?_ rfl rfl (by kernel_rfl) (by kernel_rfl) (by kernel_rfl) (fun _ _ _ h => h) (Or.inl ⟨by rfl, ?_⟩) hHeld ?_
    rotate_left
    · intro w hSw
      go_simp <;> with_reducible rfl
    try simp only [Act.put, List.setIfInBounds_toArray, List.set_cons_zero, List.set_cons_succ]
    refine takeAt 2 (some 29) (.agg #[.int .u64 st.a, .int .u64 st.b, .int .u64 st.c, .int .u64 st.d]) rfl rfl (by kernel_rfl) (by kernel_rfl) (by kernel_rfl) (fun _ _ _ h => h) (Or.inl ⟨by rfl, ?_⟩) hHeld ?_
    · intro w hSw
      have y2 : w.cell? ⟨m + 1, 2, none⟩ = _ := hSw.2.at rfl
      have y3 : w.cell? ⟨m + 1, 3, none⟩ = _ := hSw.2.at rfl
      have y4 : w.cell? ⟨m + 1, 4, none⟩ = _ := hSw.2.at rfl
      have y5 : w.cell? ⟨m + 1, 5, none⟩ = _ := hSw.2.at rfl
      go_simp <;> with_reducible rfl
    try simp only [Act.put, List.setIfInBounds_toArray, List.set_cons_zero, List.set_cons_succ]
    refine takeAt 3 (some 30) ?_ rfl rfl (by kernel_rfl) (by kernel_rfl) (by kernel_rfl) (fun _ _ _ h => h) (Or.inl ⟨by rfl, ?_⟩) hHeld ?_
    rotate_left
    · intro w hSw
      go_simp <;> with_reducible rfl
    try simp only [Act.put, List.setIfInBounds_toArray, List.set_cons_zero, List.set_cons_succ]
    refine takeAt 4 (some 31) (.string s) rfl rfl (by kernel_rfl) (by kernel_rfl) (by kernel_rfl) (fun _ _ _ h => h) (Or.inl ⟨by rfl, ?_⟩) hHeld ?_
    · intro w hSw
      have y0 : w.cell? ⟨m, 0, none⟩ = _ := hSw.1.at rfl
      go_simp <;> with_reducible rfl
    try simp only [Act.put, List.setIfInBounds_toArray, List.set_cons_zero, List.set_cons_succ]
    refine takeAt 5 (some 32) ?_ rfl rfl (by kernel_rfl) (by kernel_rfl) (by kernel_rfl) (fun _ _ _ h => h) (Or.inl ⟨by rfl, ?_⟩) hHeld ?_
    rotate_left
    · intro w hSw
      go_simp <;> with_reducible rfl
    try simp only [Act.put, List.setIfInBounds_toArray, List.set_cons_zero, List.set_cons_succ]
    refine takeAt 6 (some 33) ?_ rfl rfl (by kernel_rfl) (by kernel_rfl) (by kernel_rfl) (fun _ _ _ h => h) (Or.inl ⟨by rfl, ?_⟩) hHeld ?_
    rotate_left
    · intro w hSw
      go_simp <;> with_reducible rfl
    try simp only [Act.put, List.setIfInBounds_toArray, List.set_cons_zero, List.set_cons_succ]
    refine callAt 7 34 219 (vals := #[.agg #[.string s, .bool fo], .agg #[.int .u64 st.a, .int .u64 st.b, .int .u64 st.c, .int .u64 st.d], .int .u8 x]) (by kernel_rfl) rfl rfl rfl rfl (by simp [Act.eval, hx]) Tryz.func219 (by kernel_rfl) (by kernel_rfl) ?_
    refine Calls.mono (HOF.out _) ?_
    rintro e w5 ⟨rfl, q⟩
    have H5 : Hid (Kp w w5) := kp_trans (kp_trans H1.out.1 (kp_drew _)) q
    have hS5 : Lc 154 m [.string s, .bool fo] w5 ∧ Lc 110 (m + 1) (Ins.cells ⟨3, c, st, xx, yy⟩) w5 := ⟨hHeld.1.kp q, hHeld.2.kp q⟩
    clear q
    refine ⟨_, rfl, hS5, fun hHeld => ?_⟩
    try simp only [Act.put, List.setIfInBounds_toArray, List.set_cons_zero, List.set_cons_succ]
    refine takeAt 8 (some 6) ?_ rfl rfl (by kernel_rfl) (by kernel_rfl) (by kernel_rfl) (fun _ _ _ h => h) (Or.inl ⟨by rfl, ?_⟩) hHeld ?_
    rotate_left
    · intro w hSw
      go_simp <;> with_reducible rfl
    try simp only [Act.put, List.setIfInBounds_toArray, List.set_cons_zero, List.set_cons_succ]
    refine wpAnyH_done (by kernel_rfl) ?_ _
    refine NoPanic.normal ?_
    go_wp2_with fail
    go_ret
    exact ⟨rfl, H5.out⟩
  · rw [if_neg p3] at hR2
    have HRX : Hid (R = true) := hR2.symm
    have i3 : ((op : Int) == 3) = false := by simp; omega
    clear hR2
    go_wp2_with fail
    go_ret
    rw [HRX.out]
    exact ⟨rfl, H1.out.1⟩
end Go.Proofs.YtalmajiflmejcaaGreat
/- The matcher: hasGone; group. -/
namespace Go.Proofs.YtalmajiflmejcaaGreat
open Go.ChangeShapes Go.WideShapes Go.ChangeAt Go.RowKit
set_option linter.unusedVariables false
set_option linter.unusedSimpArgs false
section
variable {w : World}
theorem hasGone_m {mb g N cap r : Nat} {b k : Int} (c2 : w.cell? ⟨mb, 2, none⟩ = some (.slice (some ⟨g, 0, none⟩) N cap)) (hr : r < N) (hN : N ≤ 1000000) (cr : w.cell? ⟨g, r, none⟩ = some (.int .i64 b)) :
    Calls Tryz.prog 187 #[.pointer (some ⟨mb, 2, none⟩), .int .i64 r, .int .i64 k] w fun e w' => e = .returned (.bool (b != k)) ∧ w' = w := by
  have cr' : w.cell? ⟨g, 0 + r, none⟩ = some (.int .i64 b) := by rw [Nat.zero_add]; exact cr
  have hri : (0 : Int) ≤ (r : Int) ∧ (r : Int) < (N : Int) := by omega
  go_enter Tryz.func187, Tryz.ntmps187
  go_wp2_with fail
  go_ret
  exact ⟨rfl, rfl⟩
/-- The slots of a try, as they lie. -/
def slv (ss : List Int) : List Value := ss.map fun x => Value.int .i64 x
/-- What a group remembers: from where to where. -/
def grpE (ss : List Int) (n : Nat) : Int × Int :=
  if ss.getD (2 * n) 0 = -1 ∨ ss.getD (2 * n + 1) 0 < ss.getD (2 * n) 0 then (-1, -1) else (ss.getD (2 * n) 0, ss.getD (2 * n + 1) 0)
set_option maxHeartbeats 2000000 in
set_option maxRecDepth 100000 in
theorem group_m {ss : List Int} (hs : ss.length = 22) {n : Nat} (hn : n < 11) (w : World) :
    Calls Tryz.prog 111 #[.agg (slv ss).toArray, .int .i64 n] w fun e w' => e = .returned (.tuple #[.int .i64 (grpE ss n).1, .int .i64 (grpE ss n).2]) ∧ Kp w w' := by
  obtain ⟨a, ha⟩ : ∃ a, ss.getD (2 * n) 0 = a := ⟨_, rfl⟩
  obtain ⟨b, hb⟩ : ∃ b, ss.getD (2 * n + 1) 0 = b := ⟨_, rfl⟩
  obtain ⟨R, hR⟩ : ∃ R, grpE ss n = R := ⟨_, rfl⟩
  have HR : Hid (R = if a = -1 ∨ b < a then (-1, -1) else (a, b)) := by show _ = _; rw [← hR]; unfold grpE; rw [ha, hb]
  rw [hR]
  have HA : Hid (Lc 158 w.heap.size (slv ss) (w.alloc (.cells (slv ss).toArray 158))) := Lc.new w _ _
  have ea : (slv ss)[2 * n]? = some (.int .i64 a) := by
    unfold slv
    rw [List.getElem?_map, List.getElem?_eq_getElem (by omega)]
    rw [List.getD_eq_getElem?_getD, List.getElem?_eq_getElem (by omega)] at ha
    simp only [Option.getD_some] at ha
    rw [ha]; rfl
  have eb : (slv ss)[2 * n + 1]? = some (.int .i64 b) := by
    unfold slv
    rw [List.getElem?_map, List.getElem?_eq_getElem (by omega)]
    rw [List.getD_eq_getElem?_getD, List.getElem?_eq_getElem (by omega)] at hb
    simp only [Option.getD_some] at hb
    rw [hb]; rfl
  obtain ⟨m, hm⟩ : ∃ m, w.heap.size = m := ⟨_, rfl⟩
  obtain ⟨W1, hW1⟩ : ∃ W1, w.alloc (.cells (slv ss).toArray 158) = W1 := ⟨_, rfl⟩
  have H1 : Hid (Lc 158 m (slv ss) W1 ∧ Kp w W1) := by rw [← hW1, ← hm]; exact ⟨HA.out, kp_alloc _ _⟩
  have ca : W1.cell? ⟨m, 2 * n, none⟩ = some (.int .i64 a) := H1.out.1.at ea
  have cb : W1.cell? ⟨m, 2 * n + 1, none⟩ = some (.int .i64 b) := H1.out.1.at eb
  obtain ⟨V, hV⟩ : ∃ V, (slv ss).toArray = V := ⟨_, rfl⟩
  rw [hV] at hW1 ⊢
  obtain ⟨p, hp⟩ : ∃ p, 2 * n = p := ⟨_, rfl⟩
  obtain ⟨q, hq⟩ : ∃ q, p + 1 = q := ⟨_, rfl⟩
  rw [hp] at ca cb
  rw [hq] at cb
  have ep : (2 : Int) * (n : Int) = (p : Int) := by omega
  have eq : (p : Int) + 1 = (q : Int) := by omega
  have ca' : W1.cell? ⟨m, 0 + p, none⟩ = some (.int .i64 a) := by rw [Nat.zero_add]; exact ca
  have cb' : W1.cell? ⟨m, 0 + q, none⟩ = some (.int .i64 b) := by rw [Nat.zero_add]; exact cb
  have hpi : (0 : Int) ≤ (p : Int) ∧ (p : Int) < 22 := by omega
  have hqi : (0 : Int) ≤ (q : Int) ∧ (q : Int) < 22 := by omega
  clear ha hb hR HA ea eb hs hV hp hq
  go_enter Tryz.func111, Tryz.ntmps111
  go_upto_region 1 with fail
  clear hW1 hm
  go_quiet (fail)
  have HK : Hid (Kp w (W1.drewN nq)) := kp_trans H1.out.2 (kp_drewN _ _)
  by_cases h1 : a = -1
  · have HRX : Hid (R = (-1, -1)) := by show _ = _; rw [HR.out, if_pos (.inl h1)]
    subst h1
    go_wp2_with fail
    go_ret2
    rw [HRX.out]
    exact ⟨rfl, HK.out⟩
  have i1 : (a == -1) = false := by simpa using h1
  by_cases h2 : b < a
  · have HRX : Hid (R = (-1, -1)) := by show _ = _; rw [HR.out, if_pos (.inr h2)]
    have d2 : decide (b < a) = true := decide_eq_true h2
    go_wp2_with fail
    go_ret2
    rw [HRX.out]
    exact ⟨rfl, HK.out⟩
  · have HRX : Hid (R = (a, b)) := by show _ = _; rw [HR.out, if_neg (by omega)]
    have d2 : decide (b < a) = false := decide_eq_false h2
    go_wp2_with fail
    go_ret2
    rw [HRX.out]
    exact ⟨rfl, HK.out⟩
end
end Go.Proofs.YtalmajiflmejcaaGreat
/- The matcher as it is, plain; what is kept of it. -/
namespace Go.Proofs.YtalmajiflmejcaaGreat
open Go.ChangeShapes Go.WideShapes Go.ChangeAt Go.RowKit
set_option linter.unusedVariables false
set_option linter.unusedSimpArgs false
def plB (x n : Int) : Bool := decide (0 ≤ x) && decide (x < n)
def fitD (N : Nat) (r : Int) (d : Ins) : Bool :=
  if d.op = 4 then plB d.x N && plB d.y N else if d.op = 5 then plB d.x N else if d.op = 6 then plB d.x 22 else if d.op = 7 then plB d.x 10 else if d.op = 12 ∨ d.op = 13 then plB d.x r else decide (1 ≤ d.op ∧ d.op ≤ 14)
theorem rptB_le {s : ByteArray} {fo : Bool} {a b k : Nat} (h : rptB s fo a b k = true) : b - a ≤ s.size - k := by
  unfold rptB at h
  split at h
  · cases h
  · omega
theorem fitB_lt {s : ByteArray} {fo : Bool} {d : Ins} {k : Nat} (hk : k ≤ s.size) (h : fitB s fo d k = true) : k < s.size := by
  unfold fitB at h
  split at h
  · cases h
  · omega
/-- A try: its slots, its place in the code and in the line, how much was written down when it was laid aside. -/
structure Ty where
  ss : List Int
  nx : Nat
  k : Nat
  ch : Nat
/-- A machine: where its rounds began, what was written down, the try that goes on, those laid aside, the steps that are left. -/
structure Mc where
  bg : List Int
  wt : List (Nat × Int)
  t : Ty
  sd : List Ty
  st : Nat
def startE (x : Nat) (k : Int) (m : Mc) : Mc := { m with wt := m.wt ++ [(x, m.bg.getD x 0)], bg := m.bg.set x k }
/-- So many changes are taken back. -/
def tbE : Nat → List Int → List (Nat × Int) → List Int × List (Nat × Int)
  | 0, bg, wt => (bg, wt)
  | n + 1, bg, wt => match wt.getLast? with
    | none => (bg, wt)
    | some p => tbE n (bg.set p.1 p.2) wt.dropLast
def backE (left : Nat) (m : Mc) : Mc := { m with bg := (tbE (m.wt.length - left) m.bg m.wt).1, wt := (tbE (m.wt.length - left) m.bg m.wt).2 }
def resE (m : Mc) : Option Mc := m.sd.getLast?.map fun t => backE t.ch { m with t := t, sd := m.sd.dropLast }
def Mc.go (m : Mc) (n : Nat) : Mc := { m with t := { m.t with nx := n } }
def Mc.pos (m : Mc) (k : Nat) : Mc := { m with t := { m.t with k := k } }
def asideE (n : Nat) (m : Mc) : Mc := { m with sd := m.sd ++ [{ m.t with nx := n, ch := m.wt.length }] }
def againE (s : ByteArray) (fo : Bool) (n : Nat) (m : Mc) : Bool × Mc :=
  if (grpE m.t.ss n).1 = -1 then (false, m)
  else if rptB s fo (grpE m.t.ss n).1.toNat (grpE m.t.ss n).2.toNat m.t.k then (true, m.pos (m.t.k + ((grpE m.t.ss n).2 - (grpE m.t.ss n).1).toNat)) else (false, m)
def byteE (s : ByteArray) (fo : Bool) (d : Ins) (m : Mc) : Bool × Mc :=
  if fitB s fo d m.t.k then (true, m.pos (m.t.k + 1)) else (false, m)
def passE (s : ByteArray) (fo : Bool) (d : Ins) (m : Mc) : Bool × Mc :=
  if d.op = 6 then (true, { m with t := { m.t with ss := m.t.ss.set d.x.toNat m.t.k } })
  else if d.op = 7 then againE s fo d.x.toNat m
  else if d.op = 8 then (m.t.k == 0, m)
  else if d.op = 9 then (m.t.k == s.size, m)
  else if d.op = 10 then (wrdAt s m.t.k && !wrdAt s (m.t.k - 1 : Int), m)
  else if d.op = 11 then (wrdAt s (m.t.k - 1 : Int) && !wrdAt s m.t.k, m)
  else if d.op = 12 then (true, startE d.x.toNat m.t.k m)
  else if d.op = 13 then (m.bg.getD d.x.toNat 0 != (m.t.k : Int), m)
  else byteE s fo d m
def doE (N : Nat) (s : ByteArray) (fo : Bool) (d : Ins) (m : Mc) : Bool × Mc :=
  if d.op = 4 then (true, (asideE d.y.toNat m).go d.x.toNat)
  else if d.op = 5 then (true, m.go d.x.toNat)
  else if m.t.nx + 1 < N then passE s fo d (m.go (m.t.nx + 1)) else (false, m.go (m.t.nx + 1))
def Mc.steps (m : Mc) (n : Nat) : Mc := { m with st := n }
def insAt (C : List Ins) (n : Nat) : Ins := C.getD n { op := 14 }
/-- So many steps: 0 it failed, 1 it matched, 2 there is no step left. -/
def goE (C : List Ins) (s : ByteArray) (fo : Bool) : Nat → Mc → Nat × Mc
  | 0, m => (2, m)
  | n + 1, m =>
    if (insAt C m.t.nx).op = 14 then (1, m.steps n)
    else if (doE C.length s fo (insAt C m.t.nx) (m.steps n)).1 then goE C s fo n (doE C.length s fo (insAt C m.t.nx) (m.steps n)).2
    else (0, (doE C.length s fo (insAt C m.t.nx) (m.steps n)).2)
def tryE (C : List Ins) (s : ByteArray) (fo : Bool) : Nat → Mc → Nat × Mc
  | 0, m => (0, m)
  | f + 1, m => match resE m with
    | none => (0, m)
    | some m1 => if (goE C s fo m1.st m1).1 = 0 then tryE C s fo f (goE C s fo m1.st m1).2 else goE C s fo m1.st m1
def tyE (k : Nat) : Ty := ⟨(List.replicate 22 (-1)).set 0 (k : Int), 0, k, 0⟩
def atE (C : List Ins) (s : ByteArray) (fo : Bool) (k : Nat) (m : Mc) : Nat × Mc := tryE C s fo (m.st + 2) { m with sd := m.sd ++ [tyE k] }
/-- At so many places from one on. -/
def frmE (C : List Ins) (s : ByteArray) (fo : Bool) : Nat → Nat → Mc → Nat × Nat × Mc
  | 0, k, m => (0, k, m)
  | f + 1, k, m => if (atE C s fo k m).1 = 0 then frmE C s fo f (k + 1) (atE C s fo k m).2 else ((atE C s fo k m).1, k, (atE C s fo k m).2)
def newE (R st : Nat) : Mc := ⟨List.replicate R 0, [], ⟨List.replicate 22 0, 0, 0, 0⟩, [], st⟩
/-- What is kept of a try, of a machine. -/
structure Okt (N Z : Nat) (t : Ty) : Prop where
  len : t.ss.length = 22
  ss : ∀ x ∈ t.ss, -1 ≤ x ∧ x ≤ (Z : Int)
  nx : t.nx < N
  k : t.k ≤ Z
structure Okm (N Z R M : Nat) (m : Mc) : Prop where
  bg : m.bg.length = R
  wt : ∀ p ∈ m.wt, p.1 < R
  t : Okt (N + 1) Z m.t
  sd : ∀ t ∈ m.sd, Okt N Z t
  wl : m.wt.length + m.st ≤ M
  al : m.sd.length + m.st ≤ M + 1
section
variable {N Z R M : Nat} {m : Mc} {t : Ty}
theorem Okt.up (h : Okt N Z t) : Okt (N + 1) Z t := ⟨h.len, h.ss, Nat.lt_succ_of_lt h.nx, h.k⟩
theorem Okt.slot (h : Okt N Z t) (i : Nat) (d : Int) (hd : -1 ≤ d ∧ d ≤ (Z : Int)) : -1 ≤ t.ss.getD i d ∧ t.ss.getD i d ≤ (Z : Int) := by
  rw [List.getD_eq_getElem?_getD]
  cases e : t.ss[i]? with
  | none => exact hd
  | some x => exact h.ss x (List.mem_of_getElem? e)
theorem grp_ok (h : Okt N Z t) (n : Nat) (hn : (grpE t.ss n).1 ≠ -1) : 0 ≤ (grpE t.ss n).1 ∧ (grpE t.ss n).1 ≤ (grpE t.ss n).2 ∧ (grpE t.ss n).2 ≤ (Z : Int) := by
  have h1 := h.slot (2 * n) 0 (by omega)
  have h2 := h.slot (2 * n + 1) 0 (by omega)
  unfold grpE at hn ⊢
  split at hn
  · exact absurd rfl hn
  · rename_i q
    rw [if_neg q]
    simp only at hn ⊢
    omega
theorem tb_len (n : Nat) : ∀ (bg : List Int) (wt : List (Nat × Int)), (tbE n bg wt).1.length = bg.length ∧ (∀ p ∈ (tbE n bg wt).2, p ∈ wt) ∧ (tbE n bg wt).2.length ≤ wt.length := by
  induction n with
  | zero => intro bg wt; exact ⟨rfl, fun _ h => h, Nat.le_refl _⟩
  | succ n ih =>
    intro bg wt
    rw [tbE]
    split
    · exact ⟨rfl, fun _ h => h, Nat.le_refl _⟩
    · obtain ⟨a, b, c⟩ := ih (bg.set _ _) wt.dropLast
      refine ⟨by rw [a, List.length_set], fun p hp => List.dropLast_subset _ (b p hp), Nat.le_trans c ?_⟩
      rw [List.length_dropLast]; omega
theorem Okm.back (h : Okm N Z R M m) (left : Nat) : Okm N Z R M (backE left m) := by
  obtain ⟨a, b, c⟩ := tb_len (m.wt.length - left) m.bg m.wt
  refine ⟨a.trans h.bg, fun p hp => h.wt p (b p hp), h.t, h.sd, ?_, h.al⟩
  have := h.wl
  show (tbE (m.wt.length - left) m.bg m.wt).2.length + m.st ≤ M
  omega
theorem Okm.res (h : Okm N Z R M m) {m1 : Mc} (hr : resE m = some m1) : Okm N Z R M m1 ∧ m1.t.nx < N ∧ m1.st = m.st ∧ m1.sd = m.sd.dropLast ∧ m.sd.getLast? = some m1.t := by
  unfold resE at hr
  cases e : m.sd.getLast? with
  | none => rw [e] at hr; cases hr
  | some t =>
    rw [e] at hr
    simp only [Option.map_some, Option.some.injEq] at hr
    subst hr
    have ht := h.sd t (List.mem_of_getLast? e)
    refine ⟨Okm.back (m := { m with t := t, sd := m.sd.dropLast }) ⟨h.bg, h.wt, ht.up, fun u hu => h.sd u (List.dropLast_subset _ hu), h.wl, ?_⟩ _, ht.nx, rfl, rfl, rfl⟩
    have := h.al
    simp only [List.length_dropLast]
    omega
theorem Okm.start (h : Okm N Z R M m) {x : Nat} (hx : x < R) (k : Int) (hw : m.wt.length + m.st < M) : Okm N Z R M (startE x k m) := by
  refine ⟨by show (m.bg.set x k).length = R; rw [List.length_set, h.bg], fun p hp => ?_, h.t, h.sd, ?_, h.al⟩
  · rcases List.mem_append.1 hp with q | q
    · exact h.wt p q
    · simp only [List.mem_singleton] at q; subst q; exact hx
  · show (m.wt ++ [_]).length + m.st ≤ M
    simp only [List.length_append, List.length_singleton]; omega
theorem Okm.to (h : Okm N Z R M m) {n : Nat} (hn : n ≤ N) : Okm N Z R M (m.go n) := ⟨h.bg, h.wt, ⟨h.t.len, h.t.ss, Nat.lt_succ_of_le hn, h.t.k⟩, h.sd, h.wl, h.al⟩
theorem Okm.at_ (h : Okm N Z R M m) {k : Nat} (hk : k ≤ Z) : Okm N Z R M (m.pos k) := ⟨h.bg, h.wt, ⟨h.t.len, h.t.ss, h.t.nx, hk⟩, h.sd, h.wl, h.al⟩
theorem Okm.aside (h : Okm N Z R M m) {n : Nat} (hn : n < N) (hw : m.sd.length + m.st < M + 1) : Okm N Z R M (asideE n m) := by
  refine ⟨h.bg, h.wt, h.t, fun t ht => ?_, h.wl, ?_⟩
  · rcases List.mem_append.1 ht with q | q
    · exact h.sd t q
    · simp only [List.mem_singleton] at q; subst q; exact ⟨h.t.len, h.t.ss, hn, h.t.k⟩
  · show (m.sd ++ [_]).length + m.st ≤ M + 1
    simp only [List.length_append, List.length_singleton]; omega
/-- What passing leaves alone. -/
theorem pass_st (s : ByteArray) (fo : Bool) (d : Ins) (m : Mc) : (passE s fo d m).2.st = m.st ∧ (passE s fo d m).2.sd = m.sd ∧ (passE s fo d m).2.t.nx = m.t.nx := by
  unfold passE againE byteE
  repeat' split
  all_goals exact ⟨rfl, rfl, rfl⟩
theorem Okm.pass {s : ByteArray} {fo : Bool} {d : Ins} (h : Okm N s.size R M m) (hd : fitD N R d = true) (hw : m.wt.length + m.st < M) : Okm N s.size R M (passE s fo d m).2 := by
  unfold passE
  split
  · refine ⟨h.bg, h.wt, ⟨by show (m.t.ss.set _ _).length = 22; rw [List.length_set]; exact h.t.len, fun x hx => ?_, h.t.nx, h.t.k⟩, h.sd, h.wl, h.al⟩
    rcases List.mem_or_eq_of_mem_set hx with q | q
    · exact h.t.ss x q
    · have := h.t.k; subst q; omega
  split
  · unfold againE
    split
    · exact h
    split
    · rename_i n q
      have g := grp_ok h.t d.x.toNat n
      have := rptB_le q
      have := h.t.k
      exact h.at_ (by omega)
    · exact h
  split
  · exact h
  split
  · exact h
  split
  · exact h
  split
  · exact h
  split
  · rename_i q
    refine h.start ?_ _ hw
    unfold fitD plB at hd
    simp [q] at hd
    omega
  split
  · exact h
  · unfold byteE
    split
    · rename_i q
      exact h.at_ (fitB_lt h.t.k q)
    · exact h
theorem do_st (N : Nat) (s : ByteArray) (fo : Bool) (d : Ins) (m : Mc) : (doE N s fo d m).2.st = m.st := by
  unfold doE
  repeat' split
  · rfl
  · rfl
  · exact (pass_st _ _ _ _).1
  · rfl
theorem Okm.do {s : ByteArray} {fo : Bool} {d : Ins} (h : Okm N s.size R M m) (hn : m.t.nx < N) (hd : fitD N R d = true) (hw : m.wt.length + m.st < M) (ha : m.sd.length + m.st < M + 1) :
    Okm N s.size R M (doE N s fo d m).2 ∧ ((doE N s fo d m).1 = true → (doE N s fo d m).2.t.nx < N) := by
  unfold doE
  split
  · rename_i q
    have : 0 ≤ d.x ∧ d.x < (N : Int) ∧ 0 ≤ d.y ∧ d.y < (N : Int) := by unfold fitD plB at hd; simp [q] at hd; omega
    exact ⟨(h.aside (by omega) ha).to (by omega), fun _ => show d.x.toNat < N by omega⟩
  split
  · rename_i q
    have : 0 ≤ d.x ∧ d.x < (N : Int) := by unfold fitD plB at hd; simp [q] at hd; omega
    exact ⟨h.to (by omega), fun _ => show d.x.toNat < N by omega⟩
  split
  · rename_i q
    exact ⟨(h.to (n := m.t.nx + 1) (by omega)).pass hd hw, fun _ => by rw [(pass_st _ _ _ _).2.2]; exact q⟩
  · exact ⟨h.to (by omega), fun q => by cases q⟩
theorem Okm.stp (h : Okm N Z R M m) {n : Nat} (hn : n ≤ m.st) : Okm N Z R M (m.steps n) := ⟨h.bg, h.wt, h.t, h.sd, by have := h.wl; show m.wt.length + n ≤ M; omega, by have := h.al; show m.sd.length + n ≤ M + 1; omega⟩
end
end Go.Proofs.YtalmajiflmejcaaGreat
/- The matcher, plain: it ends, it keeps what is kept; with more steps there is the same; rounds are taken back. -/
namespace Go.Proofs.YtalmajiflmejcaaGreat
open Go.ChangeShapes Go.WideShapes Go.ChangeAt Go.RowKit
set_option linter.unusedVariables false
set_option linter.unusedSimpArgs false
section
variable {C : List Ins} {s : ByteArray} {fo : Bool} {R M : Nat} {m : Mc}
/-- Each instruction of the code is fit. -/
def Fit (C : List Ins) (R : Nat) : Prop := ∀ d ∈ C, fitD C.length R d = true
theorem Fit.at (h : Fit C R) {n : Nat} (hn : n < C.length) : fitD C.length R (insAt C n) = true := by
  unfold insAt
  rw [List.getD_eq_getElem?_getD, List.getElem?_eq_getElem hn]
  exact h _ (List.getElem_mem hn)
theorem go_ok (hf : Fit C R) (n : Nat) : ∀ m : Mc, Okm C.length s.size R M m → m.t.nx < C.length → m.st = n →
    Okm C.length s.size R M (goE C s fo n m).2 ∧ (goE C s fo n m).2.st ≤ n ∧ ((goE C s fo n m).1 = 0 → (goE C s fo n m).2.st < n) ∧ ((goE C s fo n m).1 = 2 → (goE C s fo n m).2.st = 0) := by
  induction n with
  | zero => intro m h _ e; exact ⟨h, by rw [goE]; show m.st ≤ 0; omega, fun q => (by cases q), fun _ => e⟩
  | succ n ih =>
    intro m h hn e
    have h1 := h.stp (n := n) (by omega)
    rw [goE]
    split
    · exact ⟨h1, Nat.le_succ _, fun q => (by cases q), fun q => (by cases q)⟩
    have h2 := Okm.do (fo := fo) h1 hn (hf.at hn) (by show m.wt.length + n < M; have := h.wl; omega) (by show m.sd.length + n < M + 1; have := h.al; omega)
    have h3 := do_st C.length s fo (insAt C m.t.nx) (m.steps n)
    split
    · rename_i q
      obtain ⟨a, b, c, d⟩ := ih _ h2.1 (h2.2 q) h3
      exact ⟨a, by omega, fun z => by have := c z; omega, d⟩
    · refine ⟨h2.1, ?_, fun _ => ?_, fun q => (by cases q)⟩
      · rw [h3]; show n ≤ _; omega
      · rw [h3]; show n < _; omega
theorem go_cases (n : Nat) : ∀ m : Mc, (goE C s fo n m).1 ≤ 2 := by
  induction n with
  | zero => intro m; exact Nat.le_refl _
  | succ n ih =>
    intro m
    rw [goE]
    split
    · exact Nat.le_succ 1
    split
    · exact ih _
    · exact Nat.zero_le _
theorem try_ok (hf : Fit C R) (f : Nat) : ∀ m : Mc, Okm C.length s.size R M m → m.st + 1 < f →
    Okm C.length s.size R M (tryE C s fo f m).2 ∧ (tryE C s fo f m).2.st ≤ m.st ∧ ((tryE C s fo f m).1 = 0 → (tryE C s fo f m).2.sd = []) := by
  induction f with
  | zero => intro m h hl; omega
  | succ f ih =>
    intro m h hl
    rw [tryE]
    split
    · rename_i q
      refine ⟨h, Nat.le_refl _, fun _ => ?_⟩
      unfold resE at q
      simpa using q
    · rename_i m1 q
      obtain ⟨h1, h2, h3, h4, h5⟩ := h.res q
      obtain ⟨a, b, c, d⟩ := go_ok (fo := fo) hf m1.st m1 h1 h2 rfl
      split
      · rename_i z
        have := c z
        obtain ⟨e1, e2, e3⟩ := ih _ a (by omega)
        exact ⟨e1, by omega, e3⟩
      · rename_i z
        exact ⟨a, by omega, fun q => absurd q z⟩
theorem ty_ok {N Z k : Nat} (hN : 0 < N) (hk : k ≤ Z) : Okt N Z (tyE k) := by
  refine ⟨by simp [tyE], fun x hx => ?_, hN, hk⟩
  rcases List.mem_or_eq_of_mem_set hx with q | q
  · have := (List.mem_replicate.1 q).2; subst this; omega
  · subst q; omega
theorem Okm.first {N Z k : Nat} (h : Okm N Z R M m) (hN : 0 < N) (hk : k ≤ Z) (ha : m.sd = []) (hs : m.st ≤ M) : Okm N Z R M { m with sd := m.sd ++ [tyE k] } := by
  refine ⟨h.bg, h.wt, h.t, fun t ht => ?_, h.wl, ?_⟩
  · simp only [ha, List.nil_append, List.mem_singleton] at ht
    subst ht
    exact ty_ok hN hk
  · simp only [ha, List.nil_append, List.length_singleton]; omega
theorem at_ok (hf : Fit C R) {k : Nat} (h : Okm C.length s.size R M m) (hN : 0 < C.length) (hk : k ≤ s.size) (ha : m.sd = []) :
    Okm C.length s.size R M (atE C s fo k m).2 ∧ (atE C s fo k m).2.st ≤ m.st ∧ ((atE C s fo k m).1 = 0 → (atE C s fo k m).2.sd = []) := by
  have hs : m.st ≤ M := by have := h.wl; omega
  exact try_ok hf _ _ (h.first hN hk ha hs) (Nat.lt_succ_self _)
theorem new_ok {N Z R M st : Nat} (hs : st ≤ M) : Okm N Z R M (newE R st) := by
  refine ⟨by simp [newE], fun p hp => (by cases hp), ⟨by simp [newE], fun x hx => ?_, Nat.succ_pos _, Nat.zero_le _⟩, fun t ht => (by cases ht), by simpa [newE] using hs, by simp [newE]; omega⟩
  have := (List.mem_replicate.1 hx).2; subst this; omega
theorem frm_ok (hf : Fit C R) (hN : 0 < C.length) (f : Nat) : ∀ (k : Nat) (m : Mc), Okm C.length s.size R M m → m.sd = [] → k + f ≤ s.size + 1 →
    Okm C.length s.size R M (frmE C s fo f k m).2.2 ∧ (frmE C s fo f k m).2.2.st ≤ m.st ∧ ((frmE C s fo f k m).1 ≠ 0 → k ≤ (frmE C s fo f k m).2.1 ∧ (frmE C s fo f k m).2.1 ≤ s.size) := by
  induction f with
  | zero => intro k m h _ _; exact ⟨h, Nat.le_refl _, fun q => absurd rfl q⟩
  | succ f ih =>
    intro k m h ha hk
    obtain ⟨a, b, c⟩ := at_ok (fo := fo) hf h hN (k := k) (by omega) ha
    rw [frmE]
    split
    · rename_i z
      obtain ⟨e1, e2, e3⟩ := ih (k + 1) _ a (c z) (by omega)
      exact ⟨e1, by omega, fun q => by have := e3 q; omega⟩
    · exact ⟨a, b, fun _ => ⟨Nat.le_refl _, by show k ≤ _; omega⟩⟩
/-- With so many steps more. -/
def Mc.more (m : Mc) (d : Nat) : Mc := m.steps (m.st + d)
theorem more_pass (d : Nat) (i : Ins) (m : Mc) : passE s fo i (m.more d) = ((passE s fo i m).1, (passE s fo i m).2.more d) := by
  unfold passE againE byteE Mc.more
  repeat' split
  all_goals first | rfl | simp_all [Mc.steps]
theorem more_do (N d : Nat) (i : Ins) (m : Mc) : doE N s fo i (m.more d) = ((doE N s fo i m).1, (doE N s fo i m).2.more d) := by
  unfold doE
  split
  · rfl
  split
  · rfl
  have e : (m.more d).t = m.t := rfl
  rw [e]
  split
  · exact more_pass d i (m.go (m.t.nx + 1))
  · rfl
theorem more_go (d n : Nat) : ∀ m : Mc, m.st = n → (goE C s fo n m).1 ≠ 2 → goE C s fo (n + d) (m.more d) = ((goE C s fo n m).1, (goE C s fo n m).2.more d) := by
  induction n with
  | zero => intro m _ h; exact absurd rfl h
  | succ n ih =>
    intro m e h
    rw [show n + 1 + d = (n + d) + 1 by omega]
    rw [goE] at h ⊢
    rw [goE]
    have e1 : (m.more d).t = m.t := rfl
    have e2 : (m.more d).steps (n + d) = (m.steps n).more d := rfl
    rw [e1, e2]
    split
    · rfl
    rename_i q
    rw [if_neg q] at h
    rw [more_do]
    simp only
    split
    · rename_i z
      rw [if_pos z] at h
      exact ih _ (by rw [do_st]; rfl) h
    · rfl
theorem more_res (d : Nat) (m : Mc) : resE (m.more d) = (resE m).map (·.more d) := by
  unfold resE
  have e1 : (m.more d).sd = m.sd := rfl
  rw [e1]
  cases m.sd.getLast? with
  | none => rfl
  | some t => rfl
theorem more_try (hf : Fit C R) (d f : Nat) : ∀ (m : Mc) (g : Nat), Okm C.length s.size R M m → m.st + 1 < f → m.st + d + 1 < g → (tryE C s fo f m).1 ≠ 2 → tryE C s fo g (m.more d) = ((tryE C s fo f m).1, (tryE C s fo f m).2.more d) := by
  induction f with
  | zero => intro m g _ h; omega
  | succ f ih =>
    intro m g ho h hg hr
    obtain ⟨g, rfl⟩ : ∃ g', g = g' + 1 := ⟨g - 1, by omega⟩
    rw [tryE] at hr ⊢
    rw [tryE, more_res]
    cases hq : resE m with
    | none => rfl
    | some m1 =>
      obtain ⟨h1, h2, h3, h4, h5⟩ := ho.res hq
      obtain ⟨a, b, c, e⟩ := go_ok (fo := fo) hf m1.st m1 h1 h2 rfl
      rw [hq] at hr
      simp only [Option.map_some] at hr ⊢
      have hd : (m1.more d).st = m1.st + d := rfl
      rw [hd]
      by_cases z : (goE C s fo m1.st m1).1 = 0
      · rw [more_go d m1.st m1 rfl (by omega)]
        simp only
        rw [if_pos z, if_pos z]
        rw [if_pos z] at hr
        have := c z
        exact ih _ g a (by omega) (by omega) hr
      · rw [if_neg z] at hr
        rw [more_go d m1.st m1 rfl hr]
        simp only
        rw [if_neg z, if_neg z]
theorem more_at (hf : Fit C R) (d k : Nat) (h : Okm C.length s.size R M m) (hN : 0 < C.length) (hk : k ≤ s.size) (ha : m.sd = []) (hr : (atE C s fo k m).1 ≠ 2) :
    atE C s fo k (m.more d) = ((atE C s fo k m).1, (atE C s fo k m).2.more d) := by
  have hs : m.st ≤ M := by have := h.wl; omega
  unfold atE at hr ⊢
  exact more_try hf d (m.st + 2) { m with sd := m.sd ++ [tyE k] } _ (h.first hN hk ha hs) (Nat.lt_succ_self _) (Nat.lt_succ_self _) hr
theorem more_frm (hf : Fit C R) (hN : 0 < C.length) (d f : Nat) : ∀ (k : Nat) (m : Mc), Okm C.length s.size R M m → m.sd = [] → k + f ≤ s.size + 1 → (frmE C s fo f k m).1 ≠ 2 →
    frmE C s fo f k (m.more d) = ((frmE C s fo f k m).1, (frmE C s fo f k m).2.1, (frmE C s fo f k m).2.2.more d) := by
  induction f with
  | zero => intro k m _ _ _ _; rfl
  | succ f ih =>
    intro k m h ha hk hr
    obtain ⟨a, b, c⟩ := at_ok (fo := fo) hf h hN (k := k) (by omega) ha
    rw [frmE] at hr ⊢
    rw [frmE]
    by_cases z : (atE C s fo k m).1 = 0
    · rw [if_pos z] at hr
      rw [more_at hf d k h hN (by omega) ha (by omega)]
      simp only
      rw [if_pos z, if_pos z]
      exact ih (k + 1) _ a (c z) (by omega) hr
    · rw [if_neg z] at hr
      rw [more_at hf d k h hN (by omega) ha hr]
      simp only
      rw [if_neg z, if_neg z]
/-- All changes taken back. -/
def undo (m : Mc) : List Int := (tbE m.wt.length m.bg m.wt).1
theorem tb_snoc (n : Nat) (bg : List Int) (wt : List (Nat × Int)) (p : Nat × Int) : tbE (n + 1) bg (wt ++ [p]) = tbE n (bg.set p.1 p.2) wt := by
  rw [tbE]; simp
theorem undo_start (x : Nat) (k : Int) (m : Mc) : undo (startE x k m) = undo m := by
  unfold undo startE
  simp only [List.length_append, List.length_singleton]
  rw [tb_snoc, List.set_set]
  congr 2
  apply List.ext_getElem?
  intro i
  by_cases h : x < m.bg.length
  · rw [List.getD_eq_getElem?_getD, List.getElem?_eq_getElem h]
    simp
  · rw [List.set_eq_of_length_le (by omega)]
theorem tb_tb (a : Nat) : ∀ (b : Nat) (bg : List Int) (wt : List (Nat × Int)), a + b = wt.length → tbE b (tbE a bg wt).1 (tbE a bg wt).2 = tbE wt.length bg wt ∧ (tbE a bg wt).2.length = b := by
  induction a with
  | zero => intro b bg wt h; rw [show b = wt.length by omega]; exact ⟨rfl, rfl⟩
  | succ a ih =>
    intro b bg wt h
    rcases List.eq_nil_or_concat wt with rfl | ⟨l, p, rfl⟩
    · simp at h
    · simp only [List.concat_eq_append, List.length_append, List.length_singleton] at h ⊢
      rw [tb_snoc, tb_snoc]
      exact ih b _ l (by omega)
theorem undo_back (left : Nat) (m : Mc) : undo (backE left m) = undo m := by
  unfold undo
  have := tb_tb (m.wt.length - left) (m.wt.length - (m.wt.length - left)) m.bg m.wt (by omega)
  show (tbE (tbE (m.wt.length - left) m.bg m.wt).2.length (tbE (m.wt.length - left) m.bg m.wt).1 (tbE (m.wt.length - left) m.bg m.wt).2).1 = _
  rw [this.2, this.1]
theorem back_zero (m : Mc) : backE 0 m = { m with bg := undo m, wt := [] } := by
  have := tb_tb m.wt.length 0 m.bg m.wt (by omega)
  have e : (tbE m.wt.length m.bg m.wt).2 = [] := List.length_eq_zero_iff.1 this.2
  unfold backE undo
  rw [Nat.sub_zero, e]
theorem undo_pass (i : Ins) (m : Mc) : undo (passE s fo i m).2 = undo m := by
  unfold passE againE byteE
  repeat' split
  all_goals first | rfl | exact undo_start _ _ _
theorem undo_do (N : Nat) (i : Ins) (m : Mc) : undo (doE N s fo i m).2 = undo m := by
  unfold doE
  repeat' split
  all_goals first | rfl | exact undo_pass _ _
theorem undo_go (n : Nat) : ∀ m : Mc, undo (goE C s fo n m).2 = undo m := by
  induction n with
  | zero => intro m; rfl
  | succ n ih =>
    intro m
    rw [goE]
    split
    · rfl
    split
    · rw [ih]; exact undo_do _ _ _
    · exact undo_do _ _ _
theorem undo_res {m m1 : Mc} (h : resE m = some m1) : undo m1 = undo m := by
  unfold resE at h
  cases e : m.sd.getLast? with
  | none => rw [e] at h; cases h
  | some t =>
    rw [e] at h
    simp only [Option.map_some, Option.some.injEq] at h
    subst h
    exact undo_back _ _
theorem undo_try (f : Nat) : ∀ m : Mc, undo (tryE C s fo f m).2 = undo m := by
  induction f with
  | zero => intro m; rfl
  | succ f ih =>
    intro m
    rw [tryE]
    split
    · rfl
    · rename_i m1 q
      have h := undo_res q
      split
      · rw [ih, undo_go, h]
      · rw [undo_go, h]
theorem undo_at (k : Nat) (m : Mc) : undo (atE C s fo k m).2 = undo m := undo_try _ _
/-- What a place comes to hangs on nothing but the steps and what the rounds are when all is taken back. -/
theorem at_same (k : Nat) (m m' : Mc) (ha : m.sd = []) (ha' : m'.sd = []) (hu : undo m = undo m') (hs : m.st = m'.st) : atE C s fo k m = atE C s fo k m' := by
  unfold atE
  have e : ∀ m : Mc, m.sd = [] → resE { m with sd := m.sd ++ [tyE k] } = some ⟨undo m, [], tyE k, [], m.st⟩ := by
    intro m ha
    unfold resE
    simp only [ha, List.nil_append, List.getLast?_singleton, Option.map_some, List.dropLast_singleton]
    rw [show (tyE k).ch = 0 from rfl, back_zero]
    rfl
  show tryE C s fo (m.st + 2) { m with sd := m.sd ++ [tyE k] } = tryE C s fo (m'.st + 2) { m' with sd := m'.sd ++ [tyE k] }
  rw [tryE, tryE, e m ha, e m' ha', hu, hs]
theorem undo_new (R st : Nat) : undo (newE R st) = List.replicate R 0 := rfl
end
end Go.Proofs.YtalmajiflmejcaaGreat
/- The matcher, plain: the least place; what is told of a match. -/
namespace Go.Proofs.YtalmajiflmejcaaGreat
open Go.ChangeShapes Go.WideShapes Go.ChangeAt Go.RowKit
set_option linter.unusedVariables false
set_option linter.unusedSimpArgs false
section
variable {C : List Ins} {s : ByteArray} {fo : Bool} {R M : Nat} {m : Mc}
/-- A place tried by a machine that has come there, and by a new one with no fewer steps. -/
theorem at_new (hf : Fit C R) (hN : 0 < C.length) {k : Nat} (hk : k ≤ s.size) (h : Okm C.length s.size R M m) (ha : m.sd = []) (hu : undo m = List.replicate R 0) (hs : m.st ≤ M) (hr : (atE C s fo k m).1 ≠ 2) :
    (atE C s fo k (newE R M)).1 = (atE C s fo k m).1 ∧ (atE C s fo k (newE R M)).2.t = (atE C s fo k m).2.t := by
  have e := at_same (C := C) (s := s) (fo := fo) k m (newE R m.st) ha rfl (by rw [hu, undo_new]) rfl
  rw [e] at hr ⊢
  have q := more_at (fo := fo) hf (M - m.st) k (new_ok (N := C.length) (Z := s.size) (R := R) (M := M) hs) hN hk rfl hr
  have e2 : (newE R m.st).more (M - m.st) = newE R M := by
    show newE R (m.st + (M - m.st)) = newE R M
    rw [show m.st + (M - m.st) = M by omega]
  rw [e2] at q
  rw [q]
  exact ⟨rfl, rfl⟩
theorem least (hf : Fit C R) (hN : 0 < C.length) (f : Nat) : ∀ (k : Nat) (m : Mc), Okm C.length s.size R M m → m.sd = [] → undo m = List.replicate R 0 → k + f ≤ s.size + 1 → (frmE C s fo f k m).1 ≠ 2 →
    ((frmE C s fo f k m).1 = 0 → ∀ j, k ≤ j → j < k + f → (atE C s fo j (newE R M)).1 = 0) ∧
    ((frmE C s fo f k m).1 ≠ 0 → (frmE C s fo f k m).2.1 < k + f ∧ (∀ j, k ≤ j → j < (frmE C s fo f k m).2.1 → (atE C s fo j (newE R M)).1 = 0) ∧ (atE C s fo (frmE C s fo f k m).2.1 (newE R M)).1 = (frmE C s fo f k m).1 ∧
      (atE C s fo (frmE C s fo f k m).2.1 (newE R M)).2.t = (frmE C s fo f k m).2.2.t) := by
  induction f with
  | zero => intro k m _ _ _ _ _; exact ⟨fun _ j h1 h2 => absurd h2 (by omega), fun q => absurd rfl q⟩
  | succ f ih =>
    intro k m h ha hu hk hr
    have hs : m.st ≤ M := by have := h.wl; omega
    obtain ⟨a, b, c⟩ := at_ok (fo := fo) hf h hN (k := k) (by omega) ha
    rw [frmE] at hr ⊢
    by_cases z : (atE C s fo k m).1 = 0
    · rw [if_pos z] at hr ⊢
      have q := at_new (fo := fo) hf hN (k := k) (by omega) h ha hu hs (by omega)
      rw [z] at q
      obtain ⟨i1, i2⟩ := ih (k + 1) _ a (c z) (by rw [undo_at, hu]) (by omega) hr
      refine ⟨fun e j h1 h2 => ?_, fun e => ?_⟩
      · by_cases hj : j = k
        · rw [hj]; exact q.1
        · exact i1 e j (by omega) (by omega)
      · obtain ⟨j0, j1, j2, j3⟩ := i2 e
        refine ⟨by omega, fun j h1 h2 => ?_, j2, j3⟩
        by_cases hj : j = k
        · rw [hj]; exact q.1
        · exact j1 j (by omega) h2
    · rw [if_neg z] at hr ⊢
      have q := at_new (fo := fo) hf hN (k := k) (by omega) h ha hu hs hr
      exact ⟨fun e => absurd e z, fun _ => ⟨by show k < _; omega, fun j h1 h2 => absurd h2 (by show ¬ j < k; omega), q.1, q.2⟩⟩
/-- What is told of a match: from, to, where groups begin, where they end. -/
def plcE (a b : Int) : Int := if a = -1 then b else a
def mtF (t : Ty) (k : Int) : Int := plcE (t.ss.getD 20 0) k
def mtT (t : Ty) (k : Int) : Int := max (mtF t k) (plcE (t.ss.getD 21 0) t.k)
def mtB (t : Ty) (k : Int) : List Int := (List.range 10).map fun n => if n = 0 then mtF t k else (grpE t.ss n).1
def mtN (t : Ty) (k : Int) : List Int := (List.range 10).map fun n => if n = 0 then mtT t k else (grpE t.ss n).2
def mtE (t : Ty) (k : Int) : List Int := mtF t k :: mtT t k :: (mtB t k ++ mtN t k)
theorem mt_len (t : Ty) (k : Int) : (mtE t k).length = 22 := by simp [mtE, mtB, mtN]
theorem mt_ok {N Z k : Nat} {t : Ty} (h : Okt N Z t) (hk : k ≤ Z) : 0 ≤ mtF t k ∧ mtF t k ≤ mtT t k ∧ mtT t k ≤ (Z : Int) := by
  have h1 := h.slot 20 0 (by omega)
  have h2 := h.slot 21 0 (by omega)
  have h3 := h.k
  unfold mtT
  have : 0 ≤ mtF t k ∧ mtF t k ≤ (Z : Int) := by unfold mtF plcE; split <;> omega
  have : plcE (t.ss.getD 21 0) t.k ≤ (Z : Int) := by unfold plcE; split <;> omega
  omega
theorem grp_two (ss : List Int) (n : Nat) : (grpE ss n).1 = -1 → (grpE ss n).2 = -1 := by
  unfold grpE
  split
  · intro _; rfl
  · rename_i q; intro e; exact absurd (Or.inl e) q
/-- What At and From answer: the match's places, the steps left, is there one, the error. -/
def ansE (C : List Ins) (R : Nat) (s : ByteArray) (fo : Bool) (f k st : Nat) : List Int × Nat × Bool × Nat :=
  if (frmE C s fo f k (newE R st)).1 = 1 then (mtE (frmE C s fo f k (newE R st)).2.2.t (frmE C s fo f k (newE R st)).2.1, (frmE C s fo f k (newE R st)).2.2.st, true, 0)
  else if (frmE C s fo f k (newE R st)).1 = 2 then (List.replicate 22 0, 0, false, 50)
  else (List.replicate 22 0, (frmE C s fo f k (newE R st)).2.2.st, false, 0)
end
end Go.Proofs.YtalmajiflmejcaaGreat
/- A program's code in memory. -/
namespace Go.Proofs.YtalmajiflmejcaaGreat
open Go.ChangeShapes Go.WideShapes Go.ChangeAt Go.RowKit
set_option linter.unusedVariables false
set_option linter.unusedSimpArgs false
section
variable {w w1 : World}
def Cd (w : World) (cv : Value) (C : List Ins) : Prop := ∃ a cap, cv = .slice a C.length cap ∧ C.length ≤ cap ∧ cap ≤ maxLen ∧ ∀ i d, C[i]? = some d → ∃ b o, a = some ⟨b, o, none⟩ ∧ ∀ j u, d.cells[j]? = some u → w.cell? ⟨b, o + i * 8 + j, none⟩ = some u
theorem Cd.kp {cv : Value} {C : List Ins} (h : Cd w cv C) (k : Kp w w1) : Cd w1 cv C := by
  obtain ⟨a, cap, h1, h2, h3, h4⟩ := h
  refine ⟨a, cap, h1, h2, h3, fun i d hi => ?_⟩
  obtain ⟨b, o, e, q⟩ := h4 i d hi
  exact ⟨b, o, e, fun j u hj => kp_cell k (q j u hj)⟩
theorem row_cd {B : Nat} {cv : Value} {C : List Ins} (h : w.ownsRow B 110 8 cv C.length (flatI C)) : Cd w cv C := by
  obtain ⟨a, cap, e, h1, h2⟩ := owns_form h
  refine ⟨a, cap, e, h1, h2, fun i d hi => ?_⟩
  have hlt := (List.getElem?_eq_some_iff.1 hi).1
  rcases h.2 with ⟨_, q⟩ | ⟨g, cap', cur, e', hb, hg, q1, q2, q3, q4⟩
  · omega
  · rw [e'] at e
    injection e with e _ _
    refine ⟨g, 0, e.symm, fun j u hj => ?_⟩
    have hj8 : j < 8 := (List.getElem?_eq_some_iff.1 hj).1
    have := flatI_get hi j hj8
    rw [hj, ← q4, List.getElem?_take] at this
    rw [cell_at hg, Nat.zero_add]
    split at this
    · rw [Array.getElem?_toList] at this; exact this
    · cases this
theorem Cd.at_ {a : Option Addr} {cap : Nat} {C : List Ins} {n : Nat} (h : Cd w (.slice a n cap) C) {i : Nat} {d : Ins} (hi : C[i]? = some d) : ∃ b o, a = some ⟨b, o, none⟩ ∧ ∀ j u, d.cells[j]? = some u → w.cell? ⟨b, o + i * 8 + j, none⟩ = some u := by
  obtain ⟨a', cap', e, _, _, q⟩ := h
  injection e with e _ _
  obtain ⟨b, o, e1, e2⟩ := q i d hi
  exact ⟨b, o, by rw [e, e1], e2⟩
theorem Cd.len {a : Option Addr} {cap : Nat} {C : List Ins} {n : Nat} (h : Cd w (.slice a n cap) C) : n = C.length ∧ n ≤ cap ∧ cap ≤ maxLen := by
  obtain ⟨a', cap', e, h1, h2, _⟩ := h
  injection e with e1 e2 e3
  subst e2 e3
  exact ⟨rfl, h1, h2⟩
theorem Cd.cell8 {b o cap n : Nat} {C : List Ins} (h : Cd w (.slice (some ⟨b, o, none⟩) n cap) C) {i : Nat} {d : Ins} (hi : C[i]? = some d) (j : Nat) (u : Value) (hj : d.cells[j]? = some u) : w.cell? ⟨b, o + i * 8 + j, none⟩ = some u := by
  obtain ⟨b', o', e, q⟩ := h.at_ hi
  injection e with e
  injection e with e1 e2
  subst e1 e2
  exact q j u hj
end
end Go.Proofs.YtalmajiflmejcaaGreat
/- prog.Sound. -/
namespace Go.Proofs.YtalmajiflmejcaaGreat
open Go.ChangeShapes Go.WideShapes Go.ChangeAt Go.RowKit
set_option linter.unusedVariables false
set_option linter.unusedSimpArgs false
def lastB (C : List Ins) : Bool := match C.getLast? with | some d => (d.op : Int) == 14 || (d.op : Int) == 5 | none => false
def sizeB (N : Nat) (r : Int) : Bool := decide (1 ≤ N) && decide (N ≤ 2000) && decide (0 ≤ r) && decide (r ≤ 2000)
def sndF (C : List Ins) (r : Int) : Bool := sizeB C.length r && C.all (fitD C.length r) && lastB C
section
variable {w w1 : World}
theorem gbelow_any (x n : Int) (w : World) : Calls Tryz.prog 161 #[.int .i64 x, .int .i64 n] w fun e w' => e = .returned (.bool (plB x n)) ∧ w' = w := by
  unfold plB
  cases h : decide (0 ≤ x)
  · go_enter Tryz.func161, Tryz.ntmps161
    go_wp2_with fail
    go_ret
    exact ⟨rfl, rfl⟩
  · go_enter Tryz.func161, Tryz.ntmps161
    go_wp2_with fail
    go_ret
    exact ⟨rfl, rfl⟩
set_option maxHeartbeats 4000000 in
set_option maxRecDepth 100000 in
theorem gfits_any (N : Nat) (r : Int) (d : Ins) (w : World) : Calls Tryz.prog 135 #[.agg #[.int .i64 N, .int .i64 r], d.val] w fun e w' => e = .returned (.bool (fitD N r d)) ∧ Kp w w' := by
  obtain ⟨op, c, ⟨sa, sb, sc, sd⟩, x, y⟩ := d
  unfold Ins.val
  have hop : op = 0 ∨ op = 1 ∨ op = 2 ∨ op = 3 ∨ op = 8 ∨ op = 9 ∨ op = 10 ∨ op = 11 ∨ op = 14 ∨ op = 4 ∨ op = 5 ∨ op = 6 ∨ op = 7 ∨ op = 12 ∨ op = 13 ∨ 14 < op := by omega
  rcases hop with rfl | rfl | rfl | rfl | rfl | rfl | rfl | rfl | rfl | rfl | rfl | rfl | rfl | rfl | rfl | hop
  · go_enter Tryz.func135, Tryz.ntmps135
    go_wp2_with fail
    go_ret
    exact ⟨rfl, kp_trans (kp_alloc _ _) (kp_alloc _ _)⟩
  · go_enter Tryz.func135, Tryz.ntmps135
    go_wp2_with fail
    go_ret
    exact ⟨rfl, kp_trans (kp_alloc _ _) (kp_alloc _ _)⟩
  · go_enter Tryz.func135, Tryz.ntmps135
    go_wp2_with fail
    go_ret
    exact ⟨rfl, kp_trans (kp_alloc _ _) (kp_alloc _ _)⟩
  · go_enter Tryz.func135, Tryz.ntmps135
    go_wp2_with fail
    go_ret
    exact ⟨rfl, kp_trans (kp_alloc _ _) (kp_alloc _ _)⟩
  · go_enter Tryz.func135, Tryz.ntmps135
    go_wp2_with fail
    go_ret
    exact ⟨rfl, kp_trans (kp_alloc _ _) (kp_alloc _ _)⟩
  · go_enter Tryz.func135, Tryz.ntmps135
    go_wp2_with fail
    go_ret
    exact ⟨rfl, kp_trans (kp_alloc _ _) (kp_alloc _ _)⟩
  · go_enter Tryz.func135, Tryz.ntmps135
    go_wp2_with fail
    go_ret
    exact ⟨rfl, kp_trans (kp_alloc _ _) (kp_alloc _ _)⟩
  · go_enter Tryz.func135, Tryz.ntmps135
    go_wp2_with fail
    go_ret
    exact ⟨rfl, kp_trans (kp_alloc _ _) (kp_alloc _ _)⟩
  · go_enter Tryz.func135, Tryz.ntmps135
    go_wp2_with fail
    go_ret
    exact ⟨rfl, kp_trans (kp_alloc _ _) (kp_alloc _ _)⟩
  · cases hp : plB x (N : Int)
    · have HP : Hid (plB x (N : Int) = false) := hp
      clear hp
      go_enter Tryz.func135, Tryz.ntmps135
      go_wp2_with fail
      refine Calls.mono (gbelow_any _ _ _) ?_
      rintro e x1 ⟨rfl, hw⟩
      rw [hw, HP.out]
      clear hw x1
      go_wp2_with fail
      go_ret
      exact ⟨by unfold fitD; rw [if_pos rfl]; simp only [HP.out]; rfl, kp_trans (kp_alloc _ _) (kp_alloc _ _)⟩
    · have HP : Hid (plB x (N : Int) = true) := hp
      clear hp
      go_enter Tryz.func135, Tryz.ntmps135
      go_wp2_with fail
      refine Calls.mono (gbelow_any _ _ _) ?_
      rintro e x1 ⟨rfl, hw⟩
      rw [hw, HP.out]
      clear hw x1
      go_wp2_with fail
      refine Calls.mono (gbelow_any _ _ _) ?_
      rintro e x1 ⟨rfl, hw⟩
      rw [hw]
      clear hw x1
      go_wp2_with fail
      go_ret
      exact ⟨by unfold fitD; rw [if_pos rfl]; simp only [HP.out]; rfl, kp_trans (kp_alloc _ _) (kp_alloc _ _)⟩
  · go_enter Tryz.func135, Tryz.ntmps135
    go_wp2_with fail
    refine Calls.mono (gbelow_any _ _ _) ?_
    rintro e x1 ⟨rfl, hw⟩
    rw [hw]
    clear hw x1
    go_wp2_with fail
    go_ret
    exact ⟨rfl, kp_trans (kp_alloc _ _) (kp_alloc _ _)⟩
  · go_enter Tryz.func135, Tryz.ntmps135
    go_wp2_with fail
    refine Calls.mono (gbelow_any _ _ _) ?_
    rintro e x1 ⟨rfl, hw⟩
    rw [hw]
    clear hw x1
    go_wp2_with fail
    go_ret
    exact ⟨rfl, kp_trans (kp_alloc _ _) (kp_alloc _ _)⟩
  · go_enter Tryz.func135, Tryz.ntmps135
    go_wp2_with fail
    refine Calls.mono (gbelow_any _ _ _) ?_
    rintro e x1 ⟨rfl, hw⟩
    rw [hw]
    clear hw x1
    go_wp2_with fail
    go_ret
    exact ⟨rfl, kp_trans (kp_alloc _ _) (kp_alloc _ _)⟩
  · go_enter Tryz.func135, Tryz.ntmps135
    go_wp2_with fail
    refine Calls.mono (gbelow_any _ _ _) ?_
    rintro e x1 ⟨rfl, hw⟩
    rw [hw]
    clear hw x1
    go_wp2_with fail
    go_ret
    exact ⟨rfl, kp_trans (kp_alloc _ _) (kp_alloc _ _)⟩
  · go_enter Tryz.func135, Tryz.ntmps135
    go_wp2_with fail
    refine Calls.mono (gbelow_any _ _ _) ?_
    rintro e x1 ⟨rfl, hw⟩
    rw [hw]
    clear hw x1
    go_wp2_with fail
    go_ret
    exact ⟨rfl, kp_trans (kp_alloc _ _) (kp_alloc _ _)⟩
  · have n1 : ((op : Int) == 1) = false := by simp; omega
    have m1 : decide ((op : Int) = 1) = false := by simp; omega
    have n2 : ((op : Int) == 2) = false := by simp; omega
    have m2 : decide ((op : Int) = 2) = false := by simp; omega
    have n3 : ((op : Int) == 3) = false := by simp; omega
    have m3 : decide ((op : Int) = 3) = false := by simp; omega
    have n4 : ((op : Int) == 4) = false := by simp; omega
    have m4 : decide ((op : Int) = 4) = false := by simp; omega
    have n5 : ((op : Int) == 5) = false := by simp; omega
    have m5 : decide ((op : Int) = 5) = false := by simp; omega
    have n6 : ((op : Int) == 6) = false := by simp; omega
    have m6 : decide ((op : Int) = 6) = false := by simp; omega
    have n7 : ((op : Int) == 7) = false := by simp; omega
    have m7 : decide ((op : Int) = 7) = false := by simp; omega
    have n8 : ((op : Int) == 8) = false := by simp; omega
    have m8 : decide ((op : Int) = 8) = false := by simp; omega
    have n9 : ((op : Int) == 9) = false := by simp; omega
    have m9 : decide ((op : Int) = 9) = false := by simp; omega
    have n10 : ((op : Int) == 10) = false := by simp; omega
    have m10 : decide ((op : Int) = 10) = false := by simp; omega
    have n11 : ((op : Int) == 11) = false := by simp; omega
    have m11 : decide ((op : Int) = 11) = false := by simp; omega
    have n12 : ((op : Int) == 12) = false := by simp; omega
    have m12 : decide ((op : Int) = 12) = false := by simp; omega
    have n13 : ((op : Int) == 13) = false := by simp; omega
    have m13 : decide ((op : Int) = 13) = false := by simp; omega
    have n14 : ((op : Int) == 14) = false := by simp; omega
    have m14 : decide ((op : Int) = 14) = false := by simp; omega
    have l14 : decide ((op : Int) ≤ 14) = false := by simp; omega
    have l1 : decide (1 ≤ (op : Int)) = true := by simp; omega
    have HR : Hid (14 < op) := hop
    clear hop
    go_enter Tryz.func135, Tryz.ntmps135
    go_wp2_with fail
    go_ret
    exact ⟨by have := HR.out; unfold fitD; simp only; rw [if_neg (by omega), if_neg (by omega), if_neg (by omega), if_neg (by omega), if_neg (by omega), decide_eq_false (by omega)]; rfl, kp_trans (kp_alloc _ _) (kp_alloc _ _)⟩
theorem box2 (w : World) (a b : Value) (t : TypeId) : ((w.alloc (.cells #[a, b] t)).cell? ⟨w.heap.size, 0, none⟩ = some a ∧ (w.alloc (.cells #[a, b] t)).cell? ⟨w.heap.size, 1, none⟩ = some b) ∧ Kp w (w.alloc (.cells #[a, b] t)) :=
  ⟨⟨by rw [cell_at (alloc_new w _)]; rfl, by rw [cell_at (alloc_new w _)]; rfl⟩, kp_alloc _ _⟩
theorem box3 (w : World) (a b c : Value) (t : TypeId) : ((w.alloc (.cells #[a, b, c] t)).cell? ⟨w.heap.size, 0, none⟩ = some a ∧ (w.alloc (.cells #[a, b, c] t)).cell? ⟨w.heap.size, 1, none⟩ = some b ∧ (w.alloc (.cells #[a, b, c] t)).cell? ⟨w.heap.size, 2, none⟩ = some c) ∧ Kp w (w.alloc (.cells #[a, b, c] t)) :=
  ⟨⟨by rw [cell_at (alloc_new w _)]; rfl, by rw [cell_at (alloc_new w _)]; rfl, by rw [cell_at (alloc_new w _)]; rfl⟩, kp_alloc _ _⟩
theorem all_step {p : Ins → Bool} {C : List Ins} {j : Nat} {d : Ins} (h : C[j]? = some d) : (C.drop j).all p = (p d && (C.drop (j + 1)).all p) := by
  obtain ⟨hl, hd⟩ := List.getElem?_eq_some_iff.1 h
  rw [List.drop_eq_getElem_cons hl, List.all_cons, hd]
set_option maxHeartbeats 4000000 in
set_option maxRecDepth 100000 in
theorem gall_any {b o N cap : Nat} (K : Nat) (r : Int) {C : List Ins} (h : Cd w (.slice (some ⟨b, o, none⟩) N cap) C) : Calls Tryz.prog 105 #[.agg #[.int .i64 K, .int .i64 r], .slice (some ⟨b, o, none⟩) N cap] w fun e w' => e = .returned (.bool (C.all (fitD K r))) ∧ Kp w w' := by
  obtain ⟨hl, hc1, hm1⟩ := h.len
  unfold maxLen at hm1
  obtain ⟨X, hX⟩ : ∃ X, C.all (fitD K r) = X := ⟨_, rfl⟩
  rw [hX]
  have HC : Hid (Cd w (.slice (some ⟨b, o, none⟩) N cap) C ∧ C.length = N ∧ (C.drop 0).all (fitD K r) = X) := ⟨h, hl.symm, hX⟩
  clear h hl hX
  go_enter Tryz.func105, Tryz.ntmps105
  go_wp2_with fail
  obtain ⟨⟨g0, g1⟩, kx⟩ := box2 w (.int .i64 K) (.int .i64 r) 188
  have HP : Hid (Kp w (w.alloc (.cells #[.int .i64 K, .int .i64 r] 188))) := kx
  clear kx
  obtain ⟨x1, hx1⟩ : ∃ x, w.heap.size = x := ⟨_, rfl⟩
  rw [hx1] at g0 g1 ⊢
  clear hx1
  generalize (w.alloc (.cells #[.int .i64 K, .int .i64 r] 188)) = wp at *
  go_loopw [9] (fun v9 wr => ∃ j : Nat, j ≤ N ∧ v9 = .int .i64 j ∧ Hid ((C.drop j).all (fitD K r) = X ∧ Kp wp wr)) (fun v9 _ => N - (intOf v9).toNat)
  case atStart => exact ⟨0, Nat.zero_le _, rfl, HC.out.2.2, Below.refl _ _⟩
  case round =>
    obtain ⟨j, hj, rfl, HK⟩ := hrel
    replace g0 := kp_cell HK.out.2 g0
    replace g1 := kp_cell HK.out.2 g1
    by_cases hlj : j < N
    · have dj : decide ((j : Int) < (N : Int)) = true := decide_eq_true (by omega)
      obtain ⟨d, hd⟩ : ∃ d, C[j]? = some d := ⟨_, List.getElem?_eq_getElem (by rw [HC.out.2.1]; exact hlj)⟩
      have q1 := HC.out.1.kp (kp_trans HP.out HK.out.2)
      obtain ⟨op, c, ⟨sa, sb, sc, sd⟩, x, y⟩ := d
      have a0 := q1.cell8 hd 0 _ rfl
      have a1 := q1.cell8 hd 1 _ rfl
      have a2 := q1.cell8 hd 2 _ rfl
      have a3 := q1.cell8 hd 3 _ rfl
      have a4 := q1.cell8 hd 4 _ rfl
      have a5 := q1.cell8 hd 5 _ rfl
      have a6 := q1.cell8 hd 6 _ rfl
      have a7 := q1.cell8 hd 7 _ rfl
      simp only [Nat.add_zero] at a0
      have HS : Hid ((fitD K r ⟨op, c, ⟨sa, sb, sc, sd⟩, x, y⟩ && (C.drop (j + 1)).all (fitD K r)) = X) := by show _ = X; rw [← all_step hd]; exact HK.out.1
      have HI : Hid (∀ w, Calls Tryz.prog 135 #[.agg #[.int .i64 K, .int .i64 r], .agg #[.int .u8 op, .int .u8 c, .int .u64 sa, .int .u64 sb, .int .u64 sc, .int .u64 sd, .int .i64 x, .int .i64 y]] w fun e w' => e = .returned (.bool (fitD K r ⟨op, c, ⟨sa, sb, sc, sd⟩, x, y⟩)) ∧ Kp w w') := fun w => gfits_any K r ⟨op, c, ⟨sa, sb, sc, sd⟩, x, y⟩ w
      have g0' := kp_cell (kp_alloc wr (.cells #[.int .u8 op, .int .u8 c, .int .u64 sa, .int .u64 sb, .int .u64 sc, .int .u64 sd, .int .i64 x, .int .i64 y] 110)) g0
      have g1' := kp_cell (kp_alloc wr (.cells #[.int .u8 op, .int .u8 c, .int .u64 sa, .int .u64 sb, .int .u64 sc, .int .u64 sd, .int .i64 x, .int .i64 y] 110)) g1
      clear hd q1
      go_wp2_with fail
      refine Calls.mono (HI.out _) ?_
      cases hf : fitD K r ⟨op, c, ⟨sa, sb, sc, sd⟩, x, y⟩
      · rw [hf, Bool.false_and] at HS
        obtain rfl := HS.out
        rintro e w2 ⟨rfl, q⟩
        have HK2 : Hid (Kp w w2) := kp_trans (kp_trans HP.out HK.out.2) (kp_trans (kp_alloc _ _) q)
        clear q hf
        go_wp2_with fail
        go_ret
        exact ⟨rfl, HK2.out⟩
      · rw [hf, Bool.true_and] at HS
        rintro e w2 ⟨rfl, q⟩
        have HK2 : Hid (Kp wp w2) := kp_trans HK.out.2 (kp_trans (kp_alloc _ _) q)
        clear q hf
        go_wp2_with fail
        go_roundw
        case rel => exact ⟨j + 1, by omega, by go_num, HS.out, HK2.out⟩
        case measure => simp only [intOf]; omega
    · have dj : decide ((j : Int) < (N : Int)) = false := decide_eq_false (by omega)
      have hX : X = true := by rw [← HK.out.1, List.drop_eq_nil_of_le (by rw [HC.out.2.1]; omega)]; rfl
      subst hX
      go_wp2_with fail
      go_ret
      exact ⟨rfl, kp_trans HP.out HK.out.2⟩
theorem gsizes_any (N : Nat) (r : Int) (w : World) : Calls Tryz.prog 104 #[.agg #[.int .i64 N, .int .i64 r]] w fun e w' => e = .returned (.bool (sizeB N r)) ∧ Kp w w' := by
  by_cases h1 : 1 ≤ N
  · have d1 : decide ((1 : Int) ≤ (N : Int)) = true := decide_eq_true (by omega)
    by_cases h2 : N ≤ 2000
    · have d2 : decide ((N : Int) ≤ (2000 : Int)) = true := decide_eq_true (by omega)
      by_cases h3 : 0 ≤ r
      · have d3 : decide (0 ≤ r) = true := decide_eq_true h3
        have HB : Hid (sizeB N r = decide (r ≤ 2000)) := by show _ = _; unfold sizeB; simp [h1, h2, h3]
        clear h1 h2 h3
        go_enter Tryz.func104, Tryz.ntmps104
        go_wp2_with fail
        go_ret
        exact ⟨by rw [HB.out]; rfl, kp_alloc _ _⟩
      · have d3 : decide (0 ≤ r) = false := decide_eq_false h3
        have HB : Hid (sizeB N r = false) := by show _ = _; unfold sizeB; simp [h1, h2, h3]
        clear h1 h2 h3
        go_enter Tryz.func104, Tryz.ntmps104
        go_wp2_with fail
        go_ret
        exact ⟨by rw [HB.out]; rfl, kp_alloc _ _⟩
    · have d2 : decide ((N : Int) ≤ (2000 : Int)) = false := decide_eq_false (by omega)
      have HB : Hid (sizeB N r = false) := by show _ = _; unfold sizeB; simp [h1, h2]
      clear h1 h2
      go_enter Tryz.func104, Tryz.ntmps104
      go_wp2_with fail
      go_ret
      exact ⟨by rw [HB.out]; rfl, kp_alloc _ _⟩
  · have d1 : decide ((1 : Int) ≤ (N : Int)) = false := decide_eq_false (by omega)
    have HB : Hid (sizeB N r = false) := by show _ = _; unfold sizeB; simp [h1]
    clear h1
    go_enter Tryz.func104, Tryz.ntmps104
    go_wp2_with fail
    go_ret
    exact ⟨by rw [HB.out]; rfl, kp_alloc _ _⟩
theorem last_cell {b o N cap : Nat} {C : List Ins} (h : Cd w (.slice (some ⟨b, o, none⟩) N cap) C) (hN : 1 ≤ N) : ∃ op : Nat, w.cell? ⟨b, o + (N - 1) * 8, none⟩ = some (.int .u8 op) ∧ lastB C = ((op : Int) == 14 || (op : Int) == 5) := by
  have hl := h.len.1
  obtain ⟨d, hd⟩ : ∃ d, C[N - 1]? = some d := ⟨_, List.getElem?_eq_getElem (by omega)⟩
  refine ⟨d.op, h.cell8 hd 0 _ rfl, ?_⟩
  unfold lastB
  rw [List.getLast?_eq_getElem?, ← hl, hd]
theorem gends_any {b o N cap : Nat} {C : List Ins} (h : Cd w (.slice (some ⟨b, o, none⟩) N cap) C) (hN : 1 ≤ N) : Calls Tryz.prog 106 #[.slice (some ⟨b, o, none⟩) N cap] w fun e w' => e = .returned (.bool (lastB C)) ∧ Kp w w' := by
  obtain ⟨hl, hc1, hm1⟩ := h.len
  unfold maxLen at hm1
  obtain ⟨op, h0, h1⟩ := last_cell h hN
  rw [h1]
  obtain ⟨k, hk⟩ : ∃ k, N - 1 = k := ⟨_, rfl⟩
  rw [hk] at h0
  have e : (N : Int) - 1 = (k : Int) := by omega
  have hlt : k < N := by omega
  clear h hl h1 hk
  cases h14 : ((op : Int) == 14)
  · go_enter Tryz.func106, Tryz.ntmps106
    go_wp2_with fail
    go_ret
    exact ⟨rfl, Below.refl _ _⟩
  · go_enter Tryz.func106, Tryz.ntmps106
    go_wp2_with fail
    go_ret
    exact ⟨rfl, Below.refl _ _⟩
theorem box32 (w : World) (a b c d e : Value) (t u : TypeId) : (((w.alloc (.cells #[a, b, c] t)).alloc (.cells #[d, e] u)).cell? ⟨w.heap.size, 0, none⟩ = some a ∧ ((w.alloc (.cells #[a, b, c] t)).alloc (.cells #[d, e] u)).cell? ⟨w.heap.size + 1, 0, none⟩ = some d ∧ ((w.alloc (.cells #[a, b, c] t)).alloc (.cells #[d, e] u)).cell? ⟨w.heap.size + 1, 1, none⟩ = some e) ∧ Kp w ((w.alloc (.cells #[a, b, c] t)).alloc (.cells #[d, e] u)) := by
  have h1 := (box3 w a b c t).1.1
  have h2 := (box2 (w.alloc (.cells #[a, b, c] t)) d e u).1
  rw [alloc_size] at h2
  exact ⟨⟨kp_cell (kp_alloc _ _) h1, h2.1, h2.2⟩, kp_trans (kp_alloc _ _) (kp_alloc _ _)⟩
set_option maxHeartbeats 4000000 in
set_option maxRecDepth 100000 in
theorem gsound_any {a : Option Addr} {N cap : Nat} (f : Bool) (r : Int) {C : List Ins} (h : Cd w (.slice a N cap) C) : Calls Tryz.prog 74 #[.agg #[.slice a N cap, .int .i64 r, .bool f]] w fun e w' => e = .returned (.bool (sndF C r)) ∧ Kp w w' := by
  have hl := h.len.1
  cases hs : sizeB N r
  · have HB : Hid (sizeB N r = false ∧ sndF C r = false) := ⟨hs, by unfold sndF; rw [← hl, hs]; rfl⟩
    rw [HB.out.2]
    clear h hs hl
    go_enter Tryz.func74, Tryz.ntmps74
    go_wp2_with fail
    refine Calls.mono (gsizes_any N r _) ?_
    rw [HB.out.1]
    rintro e w2 ⟨rfl, q⟩
    have HK : Hid (Kp w w2) := kp_trans (box32 _ _ _ _ _ _ _ _).2 q
    clear q
    go_wp2_with fail
    go_ret
    exact ⟨rfl, HK.out⟩
  have hN : 1 ≤ N := by unfold sizeB at hs; simp at hs; omega
  obtain ⟨b, o, rfl, t1⟩ := h.at_ (List.getElem?_eq_getElem (show 0 < C.length by omega))
  clear t1
  obtain ⟨⟨y0, y1, y2⟩, yk⟩ := box32 w (.slice (some ⟨b, o, none⟩) N cap) (.int .i64 r) (.bool f) (.int .i64 N) (.int .i64 r) 32 188
  have HB : Hid (sizeB N r = true ∧ Cd w (.slice (some ⟨b, o, none⟩) N cap) C ∧ Kp w ((w.alloc (.cells #[.slice (some ⟨b, o, none⟩) N cap, .int .i64 r, .bool f] 32)).alloc (.cells #[.int .i64 N, .int .i64 r] 188)) ∧ sndF C r = (C.all (fitD N r) && lastB C) ∧ 1 ≤ N) := ⟨hs, h, yk, by unfold sndF; rw [← hl, hs]; rfl, hN⟩
  clear h hs hl yk hN
  cases ha : C.all (fitD N r)
  · have HA : Hid (C.all (fitD N r) = false) := ha
    rw [HB.out.2.2.2.1, HA.out, Bool.false_and]
    clear ha
    go_enter Tryz.func74, Tryz.ntmps74
    go_wp2_with fail
    refine Calls.mono (gsizes_any N r _) ?_
    rw [HB.out.1]
    rintro e w2 ⟨rfl, q⟩
    have HK : Hid (Kp w w2) := kp_trans HB.out.2.2.1 q
    replace y0 := kp_cell q y0
    replace y1 := kp_cell q y1
    replace y2 := kp_cell q y2
    clear q
    go_wp2_with fail
    refine Calls.mono (gall_any N r (HB.out.2.1.kp HK.out)) ?_
    rw [HA.out]
    rintro e w3 ⟨rfl, q⟩
    have HK2 : Hid (Kp w w3) := kp_trans HK.out q
    clear q
    go_wp2_with fail
    go_ret
    exact ⟨rfl, HK2.out⟩
  · have HA : Hid (C.all (fitD N r) = true) := ha
    rw [HB.out.2.2.2.1, HA.out, Bool.true_and]
    clear ha
    go_enter Tryz.func74, Tryz.ntmps74
    go_wp2_with fail
    refine Calls.mono (gsizes_any N r _) ?_
    rw [HB.out.1]
    rintro e w2 ⟨rfl, q⟩
    have HK : Hid (Kp w w2) := kp_trans HB.out.2.2.1 q
    replace y0 := kp_cell q y0
    replace y1 := kp_cell q y1
    replace y2 := kp_cell q y2
    clear q
    go_wp2_with fail
    refine Calls.mono (gall_any N r (HB.out.2.1.kp HK.out)) ?_
    rw [HA.out]
    rintro e w3 ⟨rfl, q⟩
    have HK2 : Hid (Kp w w3) := kp_trans HK.out q
    replace y0 := kp_cell q y0
    replace y1 := kp_cell q y1
    replace y2 := kp_cell q y2
    clear q
    go_wp2_with fail
    refine Calls.mono (gends_any (HB.out.2.1.kp HK2.out) HB.out.2.2.2.2) ?_
    rintro e w4 ⟨rfl, q⟩
    have HK3 : Hid (Kp w w4) := kp_trans HK2.out q
    clear q
    go_wp2_with fail
    go_ret
    exact ⟨rfl, HK3.out⟩
end
end Go.Proofs.YtalmajiflmejcaaGreat
/- The machine in memory. -/
namespace Go.Proofs.YtalmajiflmejcaaGreat
open Go.ChangeShapes Go.WideShapes Go.ChangeAt Go.RowKit
set_option linter.unusedVariables false
set_option linter.unusedSimpArgs false
def tcells (t : Ty) : List Value := slv t.ss ++ [.int .i64 t.nx, .int .i64 t.k, .int .i64 t.ch]
def mcells (s : ByteArray) (fo : Bool) (bv wv : Value) (t : Ty) (cv av : Value) (st : Nat) : List Value :=
  .string s :: .bool fo :: bv :: wv :: (tcells t ++ [cv, av, .int .i64 st])
def wcells (p : Nat × Int) : List Value := [.int .i64 p.1, .int .i64 p.2]
def flatW (l : List (Nat × Int)) : List Value := l.flatMap wcells
def flatT (l : List Ty) : List Value := l.flatMap tcells
section
variable {t : Ty} {s : ByteArray} {fo : Bool} {bv wv cv av : Value} {st : Nat}
theorem slv_len (l : List Int) : (slv l).length = l.length := by unfold slv; rw [List.length_map]
theorem slv_get {l : List Int} {i : Nat} (h : i < l.length) (d : Int) : (slv l)[i]? = some (.int .i64 (l.getD i d)) := by
  unfold slv
  rw [List.getElem?_map, List.getD_eq_getElem?_getD, List.getElem?_eq_getElem h]
  rfl
theorem slv_set (l : List Int) (i : Nat) (x : Int) : (slv l).set i (.int .i64 x) = slv (l.set i x) := by
  unfold slv
  rw [List.map_set]
theorem tc_len (h : t.ss.length = 22) : (tcells t).length = 25 := by unfold tcells; rw [List.length_append, slv_len, h]; rfl
theorem mc_len (h : t.ss.length = 22) : (mcells s fo bv wv t cv av st).length = 32 := by simp [mcells, tc_len h]
theorem mc_tail (h : t.ss.length = 22) (j : Nat) : (mcells s fo bv wv t cv av st)[26 + j]? = ([.int .i64 t.nx, .int .i64 t.k, .int .i64 t.ch, cv, av, .int .i64 st] : List Value)[j]? := by
  unfold mcells tcells
  rw [show 26 + j = (22 + j) + 1 + 1 + 1 + 1 by omega]
  simp only [List.getElem?_cons_succ]
  rw [List.append_assoc, List.getElem?_append_right (by rw [slv_len, h]; omega), slv_len, h]
  rw [show 22 + j - 22 = j by omega]
  rfl
theorem mc_slot (h : t.ss.length = 22) {i : Nat} (hi : i < 22) (d : Int) : (mcells s fo bv wv t cv av st)[4 + i]? = some (.int .i64 (t.ss.getD i d)) := by
  unfold mcells tcells
  rw [show 4 + i = i + 1 + 1 + 1 + 1 by omega]
  simp only [List.getElem?_cons_succ]
  rw [List.append_assoc, List.getElem?_append_left (by rw [slv_len, h]; omega)]
  exact slv_get (by omega) d
theorem mc_set_tail (h : t.ss.length = 22) (j : Nat) (v : Value) : (mcells s fo bv wv t cv av st).set (26 + j) v = .string s :: .bool fo :: bv :: wv :: (slv t.ss ++ ([.int .i64 t.nx, .int .i64 t.k, .int .i64 t.ch, cv, av, .int .i64 st] : List Value).set j v) := by
  unfold mcells tcells
  rw [show 26 + j = (22 + j) + 1 + 1 + 1 + 1 by omega]
  simp only [List.set_cons_succ]
  rw [List.append_assoc, List.set_append_right _ _ (by rw [slv_len, h]; omega), slv_len, h]
  rw [show 22 + j - 22 = j by omega]
  rfl
theorem mc_set26 (h : t.ss.length = 22) (n : Nat) : (mcells s fo bv wv t cv av st).set 26 (.int .i64 n) = mcells s fo bv wv { t with nx := n } cv av st := by
  rw [mc_set_tail h 0]; simp [mcells, tcells]
theorem mc_set27 (h : t.ss.length = 22) (n : Nat) : (mcells s fo bv wv t cv av st).set 27 (.int .i64 n) = mcells s fo bv wv { t with k := n } cv av st := by
  rw [mc_set_tail h 1]; simp [mcells, tcells]
theorem mc_set30 (h : t.ss.length = 22) (v : Value) : (mcells s fo bv wv t cv av st).set 30 v = mcells s fo bv wv t cv v st := by
  rw [mc_set_tail h 4]; simp [mcells, tcells]
theorem mc_set31 (h : t.ss.length = 22) (n : Nat) : (mcells s fo bv wv t cv av st).set 31 (.int .i64 n) = mcells s fo bv wv t cv av n := by
  rw [mc_set_tail h 5]; simp [mcells, tcells]
theorem mc_setSlot (h : t.ss.length = 22) {i : Nat} (hi : i < 22) (x : Int) : (mcells s fo bv wv t cv av st).set (4 + i) (.int .i64 x) = mcells s fo bv wv { t with ss := t.ss.set i x } cv av st := by
  unfold mcells tcells
  rw [show 4 + i = i + 1 + 1 + 1 + 1 by omega]
  simp only [List.set_cons_succ]
  rw [List.append_assoc, List.set_append_left _ _ (by rw [slv_len, h]; omega), slv_set]
  simp
theorem flatW_snoc (l : List (Nat × Int)) (p : Nat × Int) : flatW (l ++ [p]) = flatW l ++ wcells p := by simp [flatW]
theorem flatT_snoc (l : List Ty) (t : Ty) : flatT (l ++ [t]) = flatT l ++ tcells t := by simp [flatT]
theorem flatW_len (l : List (Nat × Int)) : (flatW l).length = l.length * 2 := by
  induction l with
  | nil => rfl
  | cons p l ih =>
    unfold flatW at *
    rw [List.flatMap_cons, List.length_append, ih, List.length_cons]
    have : (wcells p).length = 2 := rfl
    omega
theorem flatT_len (l : List Ty) (h : ∀ t ∈ l, t.ss.length = 22) : (flatT l).length = l.length * 25 := by
  induction l with
  | nil => rfl
  | cons p l ih =>
    unfold flatT at *
    rw [List.flatMap_cons, List.length_append, ih (fun t ht => h t (List.mem_cons_of_mem _ ht)), List.length_cons, tc_len (h p (List.mem_cons_self ..))]
    omega
end
/-- The machine lies at mb; its rows are told apart by their types. -/
structure Mw (w0 : World) (mb : Nat) (s : ByteArray) (fo : Bool) (cv : Value) (m : Mc) (bv wv av : Value) (w : World) : Prop where
  kp : Kp w0 w
  ge : w0.heap.size ≤ mb
  st : Lc 163 mb (mcells s fo bv wv m.t cv av m.st) w
  rb : w.ownsRow w0.heap.size 3 1 bv m.bg.length (slv m.bg)
  rw : w.ownsRow w0.heap.size 241 2 wv m.wt.length (flatW m.wt)
  ra : w.ownsRow w0.heap.size 160 25 av m.sd.length (flatT m.sd)
/-- What a call on the machine comes to. -/
def Mx (w0 : World) (mb : Nat) (s : ByteArray) (fo : Bool) (cv : Value) (m : Mc) (w : World) : Prop := ∃ bv wv av, Mw w0 mb s fo cv m bv wv av w
/-- Boxes of other types stay. -/
def Oth (w w1 : World) : Prop := ∀ (T : TypeId) (b : Nat) (l : List Value), T ≠ 163 → T ≠ 3 → T ≠ 241 → T ≠ 160 → Lc T b l w → Lc T b l w1
section
variable {w0 : World} {mb : Nat} {s : ByteArray} {fo : Bool} {cv bv wv av bv1 wv1 av1 : Value} {m m1 : Mc} {w w1 w2 : World}
theorem Mw.x (h : Mw w0 mb s fo cv m bv wv av w) : Mx w0 mb s fo cv m w := ⟨_, _, _, h⟩
theorem Mw.kpp (h : Mw w0 mb s fo cv m bv wv av w) (k : Kp w w1) : Mw w0 mb s fo cv m bv wv av w1 :=
  ⟨kp_trans h.kp k, h.ge, h.st.kp k, row_kp h.rb k, row_kp h.rw k, row_kp h.ra k⟩
theorem Mw.turn (h : Mw w0 mb s fo cv m bv wv av w) (f : Fr (On mb) w w1) (l : Lc 163 mb (mcells s fo bv1 wv1 m1.t cv av1 m1.st) w1) (h1 : w.ownsRow w0.heap.size 3 1 bv1 m1.bg.length (slv m1.bg))
    (h2 : w.ownsRow w0.heap.size 241 2 wv1 m1.wt.length (flatW m1.wt)) (h3 : w.ownsRow w0.heap.size 160 25 av1 m1.sd.length (flatT m1.sd)) : Mw w0 mb s fo cv m1 bv1 wv1 av1 w1 :=
  ⟨h.kp.trans (f.below h.kp.size fun k hk q => by have := h.ge; unfold On at q; omega), h.ge, l,
    row_fr h1 f (fun j hj q => row_ne h1 h.st (by decide) (by rw [hj, q])), row_fr h2 f (fun j hj q => row_ne h2 h.st (by decide) (by rw [hj, q])), row_fr h3 f (fun j hj q => row_ne h3 h.st (by decide) (by rw [hj, q]))⟩
theorem Mw.c0 (h : Mw w0 mb s fo cv m bv wv av w) : w.cell? ⟨mb, 0, none⟩ = some (.string s) := h.st.at rfl
theorem Mw.c1 (h : Mw w0 mb s fo cv m bv wv av w) : w.cell? ⟨mb, 1, none⟩ = some (.bool fo) := h.st.at rfl
theorem Mw.c2 (h : Mw w0 mb s fo cv m bv wv av w) : w.cell? ⟨mb, 2, none⟩ = some bv := h.st.at rfl
theorem Mw.c3 (h : Mw w0 mb s fo cv m bv wv av w) : w.cell? ⟨mb, 3, none⟩ = some wv := h.st.at rfl
theorem Mw.c26 (h : Mw w0 mb s fo cv m bv wv av w) (hs : m.t.ss.length = 22) : w.cell? ⟨mb, 26, none⟩ = some (.int .i64 m.t.nx) := h.st.at (mc_tail hs 0)
theorem Mw.c27 (h : Mw w0 mb s fo cv m bv wv av w) (hs : m.t.ss.length = 22) : w.cell? ⟨mb, 27, none⟩ = some (.int .i64 m.t.k) := h.st.at (mc_tail hs 1)
theorem Mw.c28 (h : Mw w0 mb s fo cv m bv wv av w) (hs : m.t.ss.length = 22) : w.cell? ⟨mb, 28, none⟩ = some (.int .i64 m.t.ch) := h.st.at (mc_tail hs 2)
theorem Mw.c29 (h : Mw w0 mb s fo cv m bv wv av w) (hs : m.t.ss.length = 22) : w.cell? ⟨mb, 29, none⟩ = some cv := h.st.at (mc_tail hs 3)
theorem Mw.c30 (h : Mw w0 mb s fo cv m bv wv av w) (hs : m.t.ss.length = 22) : w.cell? ⟨mb, 30, none⟩ = some av := h.st.at (mc_tail hs 4)
theorem Mw.c31 (h : Mw w0 mb s fo cv m bv wv av w) (hs : m.t.ss.length = 22) : w.cell? ⟨mb, 31, none⟩ = some (.int .i64 m.st) := h.st.at (mc_tail hs 5)
theorem Mw.cs (h : Mw w0 mb s fo cv m bv wv av w) (hs : m.t.ss.length = 22) {i : Nat} (hi : i < 22) : w.cell? ⟨mb, 4 + i, none⟩ = some (.int .i64 (m.t.ss.getD i 0)) := h.st.at (mc_slot hs hi 0)
theorem Mw.setNx (h : Mw w0 mb s fo cv m bv wv av w) (hs : m.t.ss.length = 22) (n : Nat) : Mw w0 mb s fo cv (m.go n) bv wv av (w.setCell ⟨mb, 26, none⟩ (.int .i64 n)) :=
  h.turn (fr_set _ _ _ _) (by have := h.st.set 26 (.int .i64 n); rw [mc_set26 hs] at this; exact this) h.rb h.rw h.ra
theorem Mw.setK (h : Mw w0 mb s fo cv m bv wv av w) (hs : m.t.ss.length = 22) (n : Nat) : Mw w0 mb s fo cv (m.pos n) bv wv av (w.setCell ⟨mb, 27, none⟩ (.int .i64 n)) :=
  h.turn (fr_set _ _ _ _) (by have := h.st.set 27 (.int .i64 n); rw [mc_set27 hs] at this; exact this) h.rb h.rw h.ra
theorem Mw.setSt (h : Mw w0 mb s fo cv m bv wv av w) (hs : m.t.ss.length = 22) (n : Nat) : Mw w0 mb s fo cv (m.steps n) bv wv av (w.setCell ⟨mb, 31, none⟩ (.int .i64 n)) :=
  h.turn (fr_set _ _ _ _) (by have := h.st.set 31 (.int .i64 n); rw [mc_set31 hs] at this; exact this) h.rb h.rw h.ra
theorem Mw.setSlot (h : Mw w0 mb s fo cv m bv wv av w) (hs : m.t.ss.length = 22) {i : Nat} (hi : i < 22) (x : Int) : Mw w0 mb s fo cv { m with t := { m.t with ss := m.t.ss.set i x } } bv wv av (w.setCell ⟨mb, 4 + i, none⟩ (.int .i64 x)) :=
  h.turn (fr_set _ _ _ _) (by have := h.st.set (4 + i) (.int .i64 x); rw [mc_setSlot hs hi] at this; exact this) h.rb h.rw h.ra
/-- Behind an append to one of its rows, and the new slice stored. -/
theorem Mw.growW (h : Mw w0 mb s fo cv m bv wv av w) (p : Nat × Int) (k : Kp w w1) {g cap n : Nat} (hn : m.wt.length = n)
    (hown : w2.ownsRow w0.heap.size 241 2 (.slice (some ⟨g, 0, none⟩) (n + 1) cap) (n + 1) (flatW m.wt ++ wcells p)) (hg : w1.grownBy w2 wv.ownBlock) :
    (w2.cell? ⟨mb, 3, none⟩ = some wv ∧ w2.frozen? ⟨mb, 3, none⟩ = false) ∧ Mw w0 mb s fo cv { m with wt := m.wt ++ [p] } bv (.slice (some ⟨g, 0, none⟩) (n + 1) cap) av (w2.setCell ⟨mb, 3, none⟩ (.slice (some ⟨g, 0, none⟩) (n + 1) cap)) := by
  have f1 : Fr (fun j => wv.ownBlock = some j) w w2 := ⟨hg.os.trans k.os, hg.tape.trans k.tape, hg.output.trans k.output, Nat.le_trans k.size hg.size, fun j hj hn => by
    rw [hg.block j (Nat.lt_of_lt_of_le hj k.size) (fun e => hn e.symm)]; exact k.block j hj⟩
  have l2 : Lc 163 mb (mcells s fo bv wv m.t cv av m.st) w2 := h.st.fr f1 (row_ne h.rw h.st (by decide))
  have h2 : Mw w0 mb s fo cv { m with wt := m.wt ++ [p] } bv (.slice (some ⟨g, 0, none⟩) (n + 1) cap) av (w2.setCell ⟨mb, 3, none⟩ (.slice (some ⟨g, 0, none⟩) (n + 1) cap)) := by
    have hk2 : Kp w0 w2 := h.kp.trans (f1.below h.kp.size fun j hj q => by have := (h.rw.lt j q).1; omega)
    have r1 := row_fr h.rb f1 (fun j hj q => row_row h.rb h.rw (by decide) j hj q)
    have r3 := row_fr h.ra f1 (fun j hj q => row_row h.ra h.rw (by decide) j hj q)
    have f2 : Fr (On mb) w2 (w2.setCell ⟨mb, 3, none⟩ (.slice (some ⟨g, 0, none⟩) (n + 1) cap)) := fr_set _ _ _ _
    refine ⟨hk2.trans (f2.below hk2.size fun k hk q => by have := h.ge; unfold On at q; omega), h.ge, l2.set 3 _, row_fr r1 f2 (fun j hj q => row_ne r1 l2 (by decide) (by rw [hj, q])), ?_, row_fr r3 f2 (fun j hj q => row_ne r3 l2 (by decide) (by rw [hj, q]))⟩
    have := row_fr hown f2 (fun j hj q => row_ne hown l2 (by decide) (by rw [hj, q]))
    show World.ownsRow _ _ _ _ _ (m.wt ++ [p]).length (flatW (m.wt ++ [p]))
    rw [flatW_snoc, List.length_append, hn]
    exact this
  exact ⟨⟨l2.at rfl, l2.fz _⟩, h2⟩
theorem Mw.growA (h : Mw w0 mb s fo cv m bv wv av w) (hs : m.t.ss.length = 22) (p : Ty) (k : Kp w w1) {g cap n : Nat} (hn : m.sd.length = n)
    (hown : w2.ownsRow w0.heap.size 160 25 (.slice (some ⟨g, 0, none⟩) (n + 1) cap) (n + 1) (flatT m.sd ++ tcells p)) (hg : w1.grownBy w2 av.ownBlock) :
    (w2.cell? ⟨mb, 30, none⟩ = some av ∧ w2.frozen? ⟨mb, 30, none⟩ = false) ∧ Mw w0 mb s fo cv { m with sd := m.sd ++ [p] } bv wv (.slice (some ⟨g, 0, none⟩) (n + 1) cap) (w2.setCell ⟨mb, 30, none⟩ (.slice (some ⟨g, 0, none⟩) (n + 1) cap)) ∧
      Oth w (w2.setCell ⟨mb, 30, none⟩ (.slice (some ⟨g, 0, none⟩) (n + 1) cap)) := by
  have f1 : Fr (fun j => av.ownBlock = some j) w w2 := ⟨hg.os.trans k.os, hg.tape.trans k.tape, hg.output.trans k.output, Nat.le_trans k.size hg.size, fun j hj hn => by
    rw [hg.block j (Nat.lt_of_lt_of_le hj k.size) (fun e => hn e.symm)]; exact k.block j hj⟩
  have l2 : Lc 163 mb (mcells s fo bv wv m.t cv av m.st) w2 := h.st.fr f1 (row_ne h.ra h.st (by decide))
  have f2 : Fr (On mb) w2 (w2.setCell ⟨mb, 30, none⟩ (.slice (some ⟨g, 0, none⟩) (n + 1) cap)) := fr_set _ _ _ _
  have h2 : Mw w0 mb s fo cv { m with sd := m.sd ++ [p] } bv wv (.slice (some ⟨g, 0, none⟩) (n + 1) cap) (w2.setCell ⟨mb, 30, none⟩ (.slice (some ⟨g, 0, none⟩) (n + 1) cap)) := by
    have hk2 : Kp w0 w2 := h.kp.trans (f1.below h.kp.size fun j hj q => by have := (h.ra.lt j q).1; omega)
    have r1 := row_fr h.rb f1 (fun j hj q => row_row h.rb h.ra (by decide) j hj q)
    have r3 := row_fr h.rw f1 (fun j hj q => row_row h.rw h.ra (by decide) j hj q)
    refine ⟨hk2.trans (f2.below hk2.size fun k hk q => by have := h.ge; unfold On at q; omega), h.ge, ?_, row_fr r1 f2 (fun j hj q => row_ne r1 l2 (by decide) (by rw [hj, q])), row_fr r3 f2 (fun j hj q => row_ne r3 l2 (by decide) (by rw [hj, q])), ?_⟩
    · have := l2.set 30 (.slice (some ⟨g, 0, none⟩) (n + 1) cap)
      rw [mc_set30 hs] at this
      exact this
    have := row_fr hown f2 (fun j hj q => row_ne hown l2 (by decide) (by rw [hj, q]))
    show World.ownsRow _ _ _ _ _ (m.sd ++ [p]).length (flatT (m.sd ++ [p]))
    rw [flatT_snoc, List.length_append, hn]
    exact this
  refine ⟨⟨l2.at (mc_tail hs 4), l2.fz _⟩, h2, fun T b l t1 t2 t3 t4 hl => ?_⟩
  have q1 := hl.fr f1 (row_ne h.ra hl t4)
  exact q1.fr f2 (fun q => lc_ne q1 l2 t1 q)
/-- A round's place is put. -/
theorem Mw.setB {g N cap : Nat} (h : Mw w0 mb s fo cv m (.slice (some ⟨g, 0, none⟩) N cap) wv av w) (hN : m.bg.length = N) (i : Nat) (x : Int) : Mw w0 mb s fo cv { m with bg := m.bg.set i x } (.slice (some ⟨g, 0, none⟩) N cap) wv av (w.setCell ⟨g, i, none⟩ (.int .i64 x)) := by
  have f1 : Fr (On g) w (w.setCell ⟨g, i, none⟩ (.int .i64 x)) := fr_set _ _ _ _
  have hb := h.rb
  rw [hN] at hb
  have hgb : w0.heap.size ≤ g := (hb.lt g rfl).1
  refine ⟨h.kp.trans (f1.below h.kp.size fun k hk q => by unfold On at q; omega), h.ge, h.st.fr f1 (fun q => row_ne hb h.st (by decide) (by unfold On at q; rw [q]; rfl)), ?_,
    row_fr h.rw f1 (fun j hj q => row_row h.rw hb (by decide) j hj (by unfold On at q; rw [q]; rfl)), row_fr h.ra f1 (fun j hj q => row_row h.ra hb (by decide) j hj (by unfold On at q; rw [q]; rfl))⟩
  have := (hb.stored i (.int .i64 x)).1
  rw [slv_set] at this
  show World.ownsRow _ _ _ _ _ (m.bg.set i x).length _
  rw [List.length_set, hN]
  exact this
end
end Go.Proofs.YtalmajiflmejcaaGreat
