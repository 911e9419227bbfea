/- The document's answer for one byte (its classes, its letters) returns just what plain functions of the byte say, and leaves the world as it was. -/
import Derived.Test.YtfbcmabpaecbjabLeaf
namespace Go.Proofs.Ytfbcmabpaecbjab
open Go.ChangeShapes Go.WideShapes Go.ChangeAt Go.RowKit

def smI (c : Int) : Int := if grtB c then c + 32 else c
def grI (c : Int) : Int := if smlB c then c - 32 else c
def knB (k : Int) : Bool := k == 100 || k == 120 || k == 111 || k == 119 || k == 104 || k == 97 || k == 108 || k == 117 || k == 115
def clsB (k c : Int) : Bool :=
  if k = 100 then digB c else if k = 120 then hexB c else if k = 111 then octB c else if k = 119 then wrdB c else if k = 104 then hedB c
  else if k = 97 then letB c else if k = 108 then smlB c else if k = 117 then grtB c else if k = 115 then blkB c else false
def isB (k c : Int) : Bool := knB (smI k) && (clsB (smI k) c != grtB k)

theorem ret_u8 {a b : Int} (h : a = b) : Ending.returned (.int .u8 a) = .returned (.int .u8 b) := by rw [h]
theorem grtB_iff {c : Int} : grtB c = true ↔ 65 ≤ c ∧ c ≤ 90 := by simp [grtB, bt]
theorem smlB_iff {c : Int} : smlB c = true ↔ 97 ≤ c ∧ c ≤ 122 := by simp [smlB, bt]
theorem knB_no {k : Int} (h : knB k = false) : (k == 100) = false ∧ (k == 120) = false ∧ (k == 111) = false ∧ (k == 119) = false ∧ (k == 104) = false ∧ (k == 97) = false ∧ (k == 108) = false ∧ (k == 117) = false ∧ (k == 115) = false := by
  simpa [knB, and_assoc] using h
theorem knB_yes {k : Int} (h : knB k = true) : k = 100 ∨ k = 120 ∨ k = 111 ∨ k = 119 ∨ k = 104 ∨ k = 97 ∨ k = 108 ∨ k = 117 ∨ k = 115 := by
  simpa [knB, or_assoc] using h
theorem clsB_no {k : Int} (c : Int) (h : knB k = false) : clsB k c = false := by
  obtain ⟨h1, h2, h3, h4, h5, h6, h7, h8, h9⟩ := knB_no h
  simp only [beq_eq_false_iff_ne, ne_eq] at h1 h2 h3 h4 h5 h6 h7 h8 h9
  simp [clsB, h1, h2, h3, h4, h5, h6, h7, h8, h9]

theorem rbetween_any (c a b : Int) (w : World) :
    Calls Try.prog 29 #[.int .u8 c, .int .u8 a, .int .u8 b] w fun e w' => e = .returned (.bool (bt c a b)) ∧ w' = w := by
  by_cases h1 : a ≤ c
  · by_cases h2 : c ≤ b
    · rw [bt_yes h1 h2]
      go_enter Try.func29, Try.ntmps29
      go_wp2
      go_ret
      exact ⟨rfl, rfl⟩
    · rw [bt_no2 h2]
      go_enter Try.func29, Try.ntmps29
      go_wp2
      go_ret
      exact ⟨rfl, rfl⟩
  · rw [bt_no1 h1]
    go_enter Try.func29, Try.ntmps29
    go_wp2
    go_ret
    exact ⟨rfl, rfl⟩
theorem rsmall_any (c : Int) (w : World) :
    Calls Try.prog 24 #[.int .u8 c] w fun e w' => e = .returned (.bool (smlB c)) ∧ w' = w := by
  unfold smlB
  go_enter Try.func24, Try.ntmps24
  go_wp2_with (go_at_call 29; refine (rbetween_any _ _ _ _).mono ?_; rintro e w' ⟨rfl, rfl⟩)
  go_ret
  exact ⟨rfl, rfl⟩
theorem rgreat_any (c : Int) (w : World) :
    Calls Try.prog 22 #[.int .u8 c] w fun e w' => e = .returned (.bool (grtB c)) ∧ w' = w := by
  unfold grtB
  go_enter Try.func22, Try.ntmps22
  go_wp2_with (go_at_call 29; refine (rbetween_any _ _ _ _).mono ?_; rintro e w' ⟨rfl, rfl⟩)
  go_ret
  exact ⟨rfl, rfl⟩
theorem rSmall_any (c : Int) (w : World) :
    Calls Try.prog 9 #[.int .u8 c] w fun e w' => e = .returned (.int .u8 (smI c)) ∧ w' = w := by
  unfold smI
  cases h : grtB c
  · go_enter Try.func9, Try.ntmps9
    go_wp2_with (go_at_call 22; refine (rgreat_any _ _).mono ?_; rintro e w' ⟨rfl, rfl⟩)
    go_ret
    exact ⟨rfl, rfl⟩
  · obtain ⟨h1, h2⟩ := grtB_iff.1 h
    go_enter Try.func9, Try.ntmps9
    go_wp2_with (go_at_call 22; refine (rgreat_any _ _).mono ?_; rintro e w' ⟨rfl, rfl⟩)
    go_ret
    exact ⟨rfl, rfl⟩
theorem rGreat_any (c : Int) (w : World) :
    Calls Try.prog 11 #[.int .u8 c] w fun e w' => e = .returned (.int .u8 (grI c)) ∧ w' = w := by
  unfold grI
  cases h : smlB c
  · go_enter Try.func11, Try.ntmps11
    go_wp2_with (go_at_call 24; refine (rsmall_any _ _).mono ?_; rintro e w' ⟨rfl, rfl⟩)
    go_ret
    exact ⟨rfl, rfl⟩
  · obtain ⟨h1, h2⟩ := smlB_iff.1 h
    go_enter Try.func11, Try.ntmps11
    go_wp2_with (go_at_call 24; refine (rsmall_any _ _).mono ?_; rintro e w' ⟨rfl, rfl⟩)
    go_ret
    exact ⟨rfl, rfl⟩
theorem rSame_any (a b : Int) (f : Bool) (w : World) :
    Calls Try.prog 13 #[.int .u8 a, .int .u8 b, .bool f] w fun e w' => e = .returned (.bool (a == b || f && smI a == smI b)) ∧ w' = w := by
  cases h1 : (a == b) <;> cases f
  all_goals
    go_enter Try.func13, Try.ntmps13
    go_wp2_with (go_at_call 9; refine (rSmall_any _ _).mono ?_; rintro e w' ⟨rfl, rfl⟩)
    go_ret
    exact ⟨by simp, rfl⟩

end Go.Proofs.Ytfbcmabpaecbjab
