/- For every byte the statement KindCount returns true: a class and its other one have 256 bytes together, and what is no class has none; no condition. -/
import Derived.Test.YtfbcmabpaecbjaaOf
import Derived.ShutString
import Derived.ChangeOld
namespace Go.Proofs.Ytfbcmabpaecbjaa.kindCount
open Go.ChangeShapes Go.WideShapes Go.ChangeAt Go.RowKit
open Go.ChangeMaps (open_string shut_string)
set_option linter.unusedVariables false

theorem own : ownKnob Try.prog.godebug = none := by kernel_rfl
theorem laidOut : laidOutB Try.prog = true := by kernel_rfl

def cntB (f : Int → Bool) : Nat → Nat
  | 0 => 0
  | n + 1 => if f n then cntB f n + 1 else cntB f n
theorem cnt_yes {f : Int → Bool} {n : Nat} (h : f n = true) : cntB f (n + 1) = cntB f n + 1 := by simp [cntB, h]
theorem cnt_no {f : Int → Bool} {n : Nat} (h : f n = false) : cntB f (n + 1) = cntB f n := by simp [cntB, h]
theorem cnt_le (f : Int → Bool) : ∀ n, cntB f n ≤ n
  | 0 => Nat.le_refl _
  | n + 1 => by
    have := cnt_le f n
    cases h : f n
    · rw [cnt_no h]; omega
    · rw [cnt_yes h]; omega
theorem cnt_pos {f : Int → Bool} {x : Nat} (h : f x = true) : ∀ n, x < n → 0 < cntB f n
  | 0, q => by omega
  | n + 1, q => by
    by_cases e : x = n
    · subst e; rw [cnt_yes h]; omega
    · have := cnt_pos h n (by omega)
      cases g : f n
      · rw [cnt_no g]; omega
      · rw [cnt_yes g]; omega
theorem cnt_lt {f : Int → Bool} {x : Nat} (h : f x = false) : ∀ n, x < n → cntB f n < n
  | 0, q => by omega
  | n + 1, q => by
    by_cases e : x = n
    · subst e; rw [cnt_no h]; have := cnt_le f x; omega
    · have := cnt_lt h n (by omega)
      cases g : f n
      · rw [cnt_no g]; omega
      · rw [cnt_yes g]; omega
theorem cnt_all {f : Int → Bool} (h : ∀ c, f c = true) : ∀ n, cntB f n = n
  | 0 => rfl
  | n + 1 => by rw [cnt_yes (h n), cnt_all h n]
theorem cnt_none {f : Int → Bool} (h : ∀ c, f c = false) : ∀ n, cntB f n = 0
  | 0 => rfl
  | n + 1 => by rw [cnt_no (h n), cnt_none h n]
theorem some_in {k : Int} (h : knB k = true) : ∃ x : Nat, x < 256 ∧ clsB k x = true ∧ clsB k (33 : Nat) = false := by
  rcases knB_yes h with rfl | rfl | rfl | rfl | rfl | rfl | rfl | rfl | rfl
  · exact ⟨48, by decide⟩
  · exact ⟨48, by decide⟩
  · exact ⟨48, by decide⟩
  · exact ⟨48, by decide⟩
  · exact ⟨97, by decide⟩
  · exact ⟨97, by decide⟩
  · exact ⟨97, by decide⟩
  · exact ⟨65, by decide⟩
  · exact ⟨32, by decide⟩
theorem some_many {k : Int} (h : knB (smI k) = true) : 0 < cntB (isB k) 256 ∧ cntB (isB k) 256 < 256 := by
  obtain ⟨x, hx, h1, h2⟩ := some_in h
  cases hg : grtB k
  · exact ⟨cnt_pos (x := x) (by unfold isB; rw [h, h1, hg]; rfl) 256 hx, cnt_lt (x := 33) (by unfold isB; rw [h, h2, hg]; rfl) 256 (by decide)⟩
  · exact ⟨cnt_pos (x := 33) (by unfold isB; rw [h, h2, hg]; rfl) 256 (by decide), cnt_lt (x := x) (by unfold isB; rw [h, h1, hg]; rfl) 256 hx⟩
def otB (k c : Int) : Bool := isB (smI k) c != isB (grI k) c
theorem apart {k : Int} (h : knB (smI k) = true) (c : Int) : otB k c = true := by
  unfold otB
  have q : smI (smI k) = smI k ∧ grtB (smI k) = false ∧ smI (grI k) = smI k ∧ grtB (grI k) = true := by
    cases hg : grtB k
    · have e : smI k = k := by unfold smI; rw [hg]; rfl
      rw [e] at h ⊢
      rcases knB_yes h with rfl | rfl | rfl | rfl | rfl | rfl | rfl | rfl | rfl <;> decide
    · have e : smI k = k + 32 := by unfold smI; rw [hg]; rfl
      obtain ⟨k1, k2⟩ := grtB_iff.1 hg
      have hs : grtB (k + 32) = false := by cases q : grtB (k + 32); rfl; have := grtB_iff.1 q; omega
      have hl : smlB k = false := by cases q : smlB k; rfl; have := smlB_iff.1 q; omega
      have eg : grI k = k := by unfold grI; rw [hl]; rfl
      rw [eg, e]
      exact ⟨by unfold smI; rw [hs]; rfl, hs, rfl, hg⟩
  unfold isB
  rw [q.1, q.2.1, q.2.2.1, q.2.2.2, h]
  cases clsB (smI k) c <;> rfl

set_option maxRecDepth 100000 in
set_option maxHeartbeats 1000000 in
theorem walk (k : Int) (w0 : (Lit.int .u8 k).wf = true) (w : World) :
    Calls Try.prog 4 #[.int .u8 k] w fun e w' => e = .returned (.bool true) ∧ Below w.heap.size w w' := by
  have hq := eq_set
  have hr := set_refl
  go_enter Try.func4, Try.ntmps4
  go_wp2
  go_loopw [3, 4, 5] (fun m n i wr => ∃ j : Nat, j ≤ 256 ∧ i = .int .i64 j ∧ m = .int .i64 (cntB (isB k) j) ∧ n = .int .i64 (cntB (otB k) j) ∧ Below w.heap.size w wr) (fun _ _ i _ => 256 - (intOf i).toNat)
  case atStart => exact ⟨0, Nat.zero_le _, rfl, rfl, rfl, Below.refl _ _⟩
  case round =>
    obtain ⟨j, hj, rfl, rfl, rfl, hbw⟩ := hrel
    by_cases hlt : j < 256
    · have l1 := cnt_le (isB k) j
      have l2 := cnt_le (otB k) j
      cases hf : isB k j <;> cases ha : isB (smI k) j <;> cases hb : isB (grI k) j
      · have H1 : Hid (cntB (isB k) (j + 1) = cntB (isB k) j) := cnt_no hf
        have H2 : Hid (cntB (otB k) (j + 1) = cntB (otB k) j) := cnt_no (f := otB k) (by unfold otB; rw [ha, hb]; rfl)
        generalize cntB (isB k) j = A at *
        generalize cntB (otB k) j = B at *
        go_wp2_with fail
        refine (kIs_any _ _ _).mono ?_
        rintro e w1 ⟨rfl, hb1⟩
        go_wp2_with fail
        refine (kSmall_any _ _).mono ?_
        rintro e w2 ⟨rfl, rfl⟩
        go_wp2_with fail
        refine (kIs_any _ _ _).mono ?_
        rintro e w2 ⟨rfl, hb2⟩
        go_wp2_with fail
        refine (kGreat_any _ _).mono ?_
        rintro e w3 ⟨rfl, rfl⟩
        go_wp2_with fail
        refine (kIs_any _ _ _).mono ?_
        rintro e w3 ⟨rfl, hb3⟩
        have hbz := bw_trans (bw_trans (bw_trans hbw hb1) hb2) hb3
        go_wp2
        go_roundw
        case rel => exact ⟨j + 1, by omega, by go_num, by rw [H1.out], by rw [H2.out], hbz⟩
        case measure => simp [intOf]; omega
      · have H1 : Hid (cntB (isB k) (j + 1) = cntB (isB k) j) := cnt_no hf
        have H2 : Hid (cntB (otB k) (j + 1) = cntB (otB k) j + 1) := cnt_yes (f := otB k) (by unfold otB; rw [ha, hb]; rfl)
        generalize cntB (isB k) j = A at *
        generalize cntB (otB k) j = B at *
        go_wp2_with fail
        refine (kIs_any _ _ _).mono ?_
        rintro e w1 ⟨rfl, hb1⟩
        go_wp2_with fail
        refine (kSmall_any _ _).mono ?_
        rintro e w2 ⟨rfl, rfl⟩
        go_wp2_with fail
        refine (kIs_any _ _ _).mono ?_
        rintro e w2 ⟨rfl, hb2⟩
        go_wp2_with fail
        refine (kGreat_any _ _).mono ?_
        rintro e w3 ⟨rfl, rfl⟩
        go_wp2_with fail
        refine (kIs_any _ _ _).mono ?_
        rintro e w3 ⟨rfl, hb3⟩
        have hbz := bw_trans (bw_trans (bw_trans hbw hb1) hb2) hb3
        go_wp2
        go_roundw
        case rel => exact ⟨j + 1, by omega, by go_num, by rw [H1.out], by rw [H2.out]; go_num, hbz⟩
        case measure => simp [intOf]; omega
      · have H1 : Hid (cntB (isB k) (j + 1) = cntB (isB k) j) := cnt_no hf
        have H2 : Hid (cntB (otB k) (j + 1) = cntB (otB k) j + 1) := cnt_yes (f := otB k) (by unfold otB; rw [ha, hb]; rfl)
        generalize cntB (isB k) j = A at *
        generalize cntB (otB k) j = B at *
        go_wp2_with fail
        refine (kIs_any _ _ _).mono ?_
        rintro e w1 ⟨rfl, hb1⟩
        go_wp2_with fail
        refine (kSmall_any _ _).mono ?_
        rintro e w2 ⟨rfl, rfl⟩
        go_wp2_with fail
        refine (kIs_any _ _ _).mono ?_
        rintro e w2 ⟨rfl, hb2⟩
        go_wp2_with fail
        refine (kGreat_any _ _).mono ?_
        rintro e w3 ⟨rfl, rfl⟩
        go_wp2_with fail
        refine (kIs_any _ _ _).mono ?_
        rintro e w3 ⟨rfl, hb3⟩
        have hbz := bw_trans (bw_trans (bw_trans hbw hb1) hb2) hb3
        go_wp2
        go_roundw
        case rel => exact ⟨j + 1, by omega, by go_num, by rw [H1.out], by rw [H2.out]; go_num, hbz⟩
        case measure => simp [intOf]; omega
      · have H1 : Hid (cntB (isB k) (j + 1) = cntB (isB k) j) := cnt_no hf
        have H2 : Hid (cntB (otB k) (j + 1) = cntB (otB k) j) := cnt_no (f := otB k) (by unfold otB; rw [ha, hb]; rfl)
        generalize cntB (isB k) j = A at *
        generalize cntB (otB k) j = B at *
        go_wp2_with fail
        refine (kIs_any _ _ _).mono ?_
        rintro e w1 ⟨rfl, hb1⟩
        go_wp2_with fail
        refine (kSmall_any _ _).mono ?_
        rintro e w2 ⟨rfl, rfl⟩
        go_wp2_with fail
        refine (kIs_any _ _ _).mono ?_
        rintro e w2 ⟨rfl, hb2⟩
        go_wp2_with fail
        refine (kGreat_any _ _).mono ?_
        rintro e w3 ⟨rfl, rfl⟩
        go_wp2_with fail
        refine (kIs_any _ _ _).mono ?_
        rintro e w3 ⟨rfl, hb3⟩
        have hbz := bw_trans (bw_trans (bw_trans hbw hb1) hb2) hb3
        go_wp2
        go_roundw
        case rel => exact ⟨j + 1, by omega, by go_num, by rw [H1.out], by rw [H2.out], hbz⟩
        case measure => simp [intOf]; omega
      · have H1 : Hid (cntB (isB k) (j + 1) = cntB (isB k) j + 1) := cnt_yes hf
        have H2 : Hid (cntB (otB k) (j + 1) = cntB (otB k) j) := cnt_no (f := otB k) (by unfold otB; rw [ha, hb]; rfl)
        generalize cntB (isB k) j = A at *
        generalize cntB (otB k) j = B at *
        go_wp2_with fail
        refine (kIs_any _ _ _).mono ?_
        rintro e w1 ⟨rfl, hb1⟩
        go_wp2_with fail
        refine (kSmall_any _ _).mono ?_
        rintro e w2 ⟨rfl, rfl⟩
        go_wp2_with fail
        refine (kIs_any _ _ _).mono ?_
        rintro e w2 ⟨rfl, hb2⟩
        go_wp2_with fail
        refine (kGreat_any _ _).mono ?_
        rintro e w3 ⟨rfl, rfl⟩
        go_wp2_with fail
        refine (kIs_any _ _ _).mono ?_
        rintro e w3 ⟨rfl, hb3⟩
        have hbz := bw_trans (bw_trans (bw_trans hbw hb1) hb2) hb3
        go_wp2
        go_roundw
        case rel => exact ⟨j + 1, by omega, by go_num, by rw [H1.out]; go_num, by rw [H2.out], hbz⟩
        case measure => simp [intOf]; omega
      · have H1 : Hid (cntB (isB k) (j + 1) = cntB (isB k) j + 1) := cnt_yes hf
        have H2 : Hid (cntB (otB k) (j + 1) = cntB (otB k) j + 1) := cnt_yes (f := otB k) (by unfold otB; rw [ha, hb]; rfl)
        generalize cntB (isB k) j = A at *
        generalize cntB (otB k) j = B at *
        go_wp2_with fail
        refine (kIs_any _ _ _).mono ?_
        rintro e w1 ⟨rfl, hb1⟩
        go_wp2_with fail
        refine (kSmall_any _ _).mono ?_
        rintro e w2 ⟨rfl, rfl⟩
        go_wp2_with fail
        refine (kIs_any _ _ _).mono ?_
        rintro e w2 ⟨rfl, hb2⟩
        go_wp2_with fail
        refine (kGreat_any _ _).mono ?_
        rintro e w3 ⟨rfl, rfl⟩
        go_wp2_with fail
        refine (kIs_any _ _ _).mono ?_
        rintro e w3 ⟨rfl, hb3⟩
        have hbz := bw_trans (bw_trans (bw_trans hbw hb1) hb2) hb3
        go_wp2
        go_roundw
        case rel => exact ⟨j + 1, by omega, by go_num, by rw [H1.out]; go_num, by rw [H2.out]; go_num, hbz⟩
        case measure => simp [intOf]; omega
      · have H1 : Hid (cntB (isB k) (j + 1) = cntB (isB k) j + 1) := cnt_yes hf
        have H2 : Hid (cntB (otB k) (j + 1) = cntB (otB k) j + 1) := cnt_yes (f := otB k) (by unfold otB; rw [ha, hb]; rfl)
        generalize cntB (isB k) j = A at *
        generalize cntB (otB k) j = B at *
        go_wp2_with fail
        refine (kIs_any _ _ _).mono ?_
        rintro e w1 ⟨rfl, hb1⟩
        go_wp2_with fail
        refine (kSmall_any _ _).mono ?_
        rintro e w2 ⟨rfl, rfl⟩
        go_wp2_with fail
        refine (kIs_any _ _ _).mono ?_
        rintro e w2 ⟨rfl, hb2⟩
        go_wp2_with fail
        refine (kGreat_any _ _).mono ?_
        rintro e w3 ⟨rfl, rfl⟩
        go_wp2_with fail
        refine (kIs_any _ _ _).mono ?_
        rintro e w3 ⟨rfl, hb3⟩
        have hbz := bw_trans (bw_trans (bw_trans hbw hb1) hb2) hb3
        go_wp2
        go_roundw
        case rel => exact ⟨j + 1, by omega, by go_num, by rw [H1.out]; go_num, by rw [H2.out]; go_num, hbz⟩
        case measure => simp [intOf]; omega
      · have H1 : Hid (cntB (isB k) (j + 1) = cntB (isB k) j + 1) := cnt_yes hf
        have H2 : Hid (cntB (otB k) (j + 1) = cntB (otB k) j) := cnt_no (f := otB k) (by unfold otB; rw [ha, hb]; rfl)
        generalize cntB (isB k) j = A at *
        generalize cntB (otB k) j = B at *
        go_wp2_with fail
        refine (kIs_any _ _ _).mono ?_
        rintro e w1 ⟨rfl, hb1⟩
        go_wp2_with fail
        refine (kSmall_any _ _).mono ?_
        rintro e w2 ⟨rfl, rfl⟩
        go_wp2_with fail
        refine (kIs_any _ _ _).mono ?_
        rintro e w2 ⟨rfl, hb2⟩
        go_wp2_with fail
        refine (kGreat_any _ _).mono ?_
        rintro e w3 ⟨rfl, rfl⟩
        go_wp2_with fail
        refine (kIs_any _ _ _).mono ?_
        rintro e w3 ⟨rfl, hb3⟩
        have hbz := bw_trans (bw_trans (bw_trans hbw hb1) hb2) hb3
        go_wp2
        go_roundw
        case rel => exact ⟨j + 1, by omega, by go_num, by rw [H1.out]; go_num, by rw [H2.out], hbz⟩
        case measure => simp [intOf]; omega
    · have hk2 : j = 256 := by omega
      subst hk2
      cases h : knB (smI k)
      · have hno : ∀ c, isB k c = false := fun c => by unfold isB; rw [h]; rfl
        rw [cnt_none hno 256]
        have HS : Hid (foldS (isB k) 256 = zeroS) := fold_none hno 256
        have KO : Hid (∀ w, Calls Try.prog 10 #[.int .u8 k] w fun e w' =>
            e = .returned (.tuple #[.agg #[.int .u64 0, .int .u64 0, .int .u64 0, .int .u64 0], .bool false]) ∧ Below w.heap.size w w') := by
          intro w
          have := kOf_any k w
          rw [HS.out, h] at this
          exact this
        clear HS hno
        generalize cntB (otB k) 256 = B
        go_wp2_with fail
        refine (KO.out _).mono ?_
        rintro e w1 ⟨rfl, hb1⟩
        go_wp2_with fail
        refine (kKnown_any _ _).mono ?_
        rintro e w2 ⟨rfl, hb2⟩
        have hz : w1.heap.size < w2.heap.size := by have := hb2.size; rw [size_alloc] at this; omega
        have b1 : Box w2 w1.heap.size zeroS := (box_new w1 zeroS 24).below hb2 (by simp only [size_alloc]; omega)
        go_wp2_with fail
        refine (known_any _).mono ?_
        rintro e w3 ⟨rfl, hb3⟩
        have b2 := b1.below hb3 hz
        have hbz := bw_trans (bw_trans (bw_alloc (bw_trans hbw hb1) _) hb2) hb3
        have c0 : w3.cell? ⟨w1.heap.size, 0, none⟩ = some (.int .u64 0) := b2.1
        have c1 : w3.cell? ⟨w1.heap.size, 1, none⟩ = some (.int .u64 0) := b2.2.1
        have c2 : w3.cell? ⟨w1.heap.size, 2, none⟩ = some (.int .u64 0) := b2.2.2.1
        have c3 : w3.cell? ⟨w1.heap.size, 3, none⟩ = some (.int .u64 0) := b2.2.2.2
        clear hb1 hb2 hb3 b1 b2
        go_wp2
        go_ret
        exact ⟨rfl, hbz⟩
      · obtain ⟨m1, m2⟩ := some_many h
        rw [cnt_all (apart h) 256]
        have KO : Hid (∀ w, Calls Try.prog 10 #[.int .u8 k] w fun e w' =>
            e = .returned (.tuple #[.agg #[.int .u64 (foldS (isB k) 256).a, .int .u64 (foldS (isB k) 256).b, .int .u64 (foldS (isB k) 256).c, .int .u64 (foldS (isB k) 256).d], .bool true]) ∧ Below w.heap.size w w') := by
          intro w
          have := kOf_any k w
          rwa [h] at this
        generalize foldS (isB k) 256 = s at *
        generalize cntB (isB k) 256 = A at *
        have m3 : (0 : Int) < A := by omega
        have m4 : (A : Int) < 256 := by omega
        go_wp2_with fail
        refine (KO.out _).mono ?_
        rintro e w1 ⟨rfl, hb1⟩
        go_wp2_with fail
        refine (kKnown_any _ _).mono ?_
        rintro e w2 ⟨rfl, hb2⟩
        go_wp2_with fail
        refine (known_any _).mono ?_
        rintro e w3 ⟨rfl, hb3⟩
        have hbz := bw_trans (bw_trans (bw_alloc (bw_trans hbw hb1) _) hb2) hb3
        go_wp2
        go_ret
        exact ⟨rfl, hbz⟩

set_option maxRecDepth 100000 in
theorem lifted (os : Os) (started : os.Started) (H : Type) (enc : TypeId × Value → H) :
    ReturnsInHanded {} Try.checked os 4 .any (Rows.kindCountSpec.pre6 enc Try.prog Try.f4 Rows.kindCountRow.domain false) (Rows.kindCountSpec.post enc Try.prog Try.f4 false true false false) := by
  refine returnsInHanded_of_change (C := Try.checked) own started (by kernel_rfl) Try.func4
    (ChangeSpec.witness6 (enc := enc) (C := Try.checked) false ⟨#[], #[.int .u8 0], []⟩ 8 (by kernel_rfl) (by kernel_rfl) (by kernel_rfl) (by kernel_rfl)) ?_
  intro W base args ds gs before hval0 hW hcnd _
  have hval : ∀ (j : Nat) t v, Try.f4.params[j]? = some t → args[j]? = some v → Value.okWide Try.prog W .any base t v := hval0
  have hW' := hW
  obtain ⟨p, q, hA0, hV, rfl, hfz, hnd⟩ := hW
  have hA : DataW.TrodAll enc Try.prog W 0 (fun _ => true) true Try.f4.params.toList args.toList ds p := hA0
  rw [Try.params4] at hA hval
  obtain ⟨v0, vs0, d0, ds0, p0, q0, hargs, rfl, rfl, h0, r0⟩ := trodAll_cons hA
  obtain ⟨rfl, rfl, rfl⟩ := trodAll_nil r0
  obtain rfl : args = #[v0] := by cases args; simp_all
  obtain ⟨rfl, rfl⟩ := trodVars_none hV
  obtain ⟨a0, rfl, rfl, rfl, w0⟩ := open_int Try.underlying5 (hval 0 5 v0 rfl rfl) h0
  clear hA0 hval0
  refine (walk a0 w0 W).mono fun e W' ⟨he, bel⟩ => ?_
  subst he
  exact ⟨_, rfl, _, _, _, [], _, [], hW', trodAll_mk1 (shut_bool Try.underlying4 _), (trodAll_cons_mk (shut_int Try.underlying5 w0) trodAll_mk0), rfl, bel.frame _, fun h => by cases h⟩

theorem over : Rows.kindCountRow.holds Try.pinned (OpenSpec.ofChange Rows.kindCountSpec) :=
  OpenClaim.holds_of_wide 4 Try.f4 rfl rfl rfl rfl rfl rfl rfl ⟨rfl, rfl, rfl, rfl, rfl⟩ rfl rfl rfl rfl rfl (by kernel_rfl) Try.func4 (by kernel_rfl)
    (of_decide_eq_true (by kernel_rfl)) (by unfold Func.isWrapper; first | (rw [if_pos (by decide +kernel)]; kernel_rfl) | (rw [if_neg (by decide +kernel)]; exact ⟨rfl, rfl⟩))
    (fun os started H enc _ => lifted os started H enc)

end Go.Proofs.Ytfbcmabpaecbjaa.kindCount
namespace Go.Proofs.Ytfbcmabpaecbjaa
theorem kindCount_holds : Rows.KindCountSaid := kindCount.over
#print axioms kindCount_holds
end Go.Proofs.Ytfbcmabpaecbjaa
