/- The document's answer for one byte (its classes, its letters) returns just what plain functions of the byte say, and leaves the world as it was. -/
import Derived.Test.YtfbcmabpaecbjaaLeaf
namespace Go.Proofs.Ytfbcmabpaecbjaa
open Go.ChangeShapes Go.WideShapes Go.ChangeAt Go.RowKit

def smI (c : Int) : Int := if grtB c then c + 32 else c
def grI (c : Int) : Int := if smlB c then c - 32 else c
def knB (k : Int) : Bool := k == 100 || k == 120 || k == 111 || k == 119 || k == 104 || k == 97 || k == 108 || k == 117 || k == 115
def clsB (k c : Int) : Bool :=
  if k = 100 then digB c else if k = 120 then hexB c else if k = 111 then octB c else if k = 119 then wrdB c else if k = 104 then hedB c
  else if k = 97 then letB c else if k = 108 then smlB c else if k = 117 then grtB c else if k = 115 then blkB c else false
def isB (k c : Int) : Bool := knB (smI k) && (clsB (smI k) c != grtB k)

theorem ret_u8 {a b : Int} (h : a = b) : Ending.returned (.int .u8 a) = .returned (.int .u8 b) := by rw [h]
theorem grtB_iff {c : Int} : grtB c = true ↔ 65 ≤ c ∧ c ≤ 90 := by simp [grtB, bt]
theorem smlB_iff {c : Int} : smlB c = true ↔ 97 ≤ c ∧ c ≤ 122 := by simp [smlB, bt]
theorem knB_no {k : Int} (h : knB k = false) : (k == 100) = false ∧ (k == 120) = false ∧ (k == 111) = false ∧ (k == 119) = false ∧ (k == 104) = false ∧ (k == 97) = false ∧ (k == 108) = false ∧ (k == 117) = false ∧ (k == 115) = false := by
  simpa [knB, and_assoc] using h
theorem knB_yes {k : Int} (h : knB k = true) : k = 100 ∨ k = 120 ∨ k = 111 ∨ k = 119 ∨ k = 104 ∨ k = 97 ∨ k = 108 ∨ k = 117 ∨ k = 115 := by
  simpa [knB, or_assoc] using h
theorem clsB_no {k : Int} (c : Int) (h : knB k = false) : clsB k c = false := by
  obtain ⟨h1, h2, h3, h4, h5, h6, h7, h8, h9⟩ := knB_no h
  simp only [beq_eq_false_iff_ne, ne_eq] at h1 h2 h3 h4 h5 h6 h7 h8 h9
  simp [clsB, h1, h2, h3, h4, h5, h6, h7, h8, h9]

theorem rbetween_any (c a b : Int) (w : World) :
    Calls Try.prog 43 #[.int .u8 c, .int .u8 a, .int .u8 b] w fun e w' => e = .returned (.bool (bt c a b)) ∧ w' = w := by
  by_cases h1 : a ≤ c
  · by_cases h2 : c ≤ b
    · rw [bt_yes h1 h2]
      go_enter Try.func43, Try.ntmps43
      go_wp2
      go_ret
      exact ⟨rfl, rfl⟩
    · rw [bt_no2 h2]
      go_enter Try.func43, Try.ntmps43
      go_wp2
      go_ret
      exact ⟨rfl, rfl⟩
  · rw [bt_no1 h1]
    go_enter Try.func43, Try.ntmps43
    go_wp2
    go_ret
    exact ⟨rfl, rfl⟩
theorem rsmall_any (c : Int) (w : World) :
    Calls Try.prog 44 #[.int .u8 c] w fun e w' => e = .returned (.bool (smlB c)) ∧ w' = w := by
  unfold smlB
  go_enter Try.func44, Try.ntmps44
  go_wp2_with (go_at_call 43; refine (rbetween_any _ _ _ _).mono ?_; rintro e w' ⟨rfl, rfl⟩)
  go_ret
  exact ⟨rfl, rfl⟩
theorem rgreat_any (c : Int) (w : World) :
    Calls Try.prog 37 #[.int .u8 c] w fun e w' => e = .returned (.bool (grtB c)) ∧ w' = w := by
  unfold grtB
  go_enter Try.func37, Try.ntmps37
  go_wp2_with (go_at_call 43; refine (rbetween_any _ _ _ _).mono ?_; rintro e w' ⟨rfl, rfl⟩)
  go_ret
  exact ⟨rfl, rfl⟩
theorem rdigit_any (c : Int) (w : World) :
    Calls Try.prog 42 #[.int .u8 c] w fun e w' => e = .returned (.bool (digB c)) ∧ w' = w := by
  unfold digB
  go_enter Try.func42, Try.ntmps42
  go_wp2_with (go_at_call 43; refine (rbetween_any _ _ _ _).mono ?_; rintro e w' ⟨rfl, rfl⟩)
  go_ret
  exact ⟨rfl, rfl⟩
theorem rSmall_any (c : Int) (w : World) :
    Calls Try.prog 36 #[.int .u8 c] w fun e w' => e = .returned (.int .u8 (smI c)) ∧ w' = w := by
  unfold smI
  cases h : grtB c
  · go_enter Try.func36, Try.ntmps36
    go_wp2_with (go_at_call 37; refine (rgreat_any _ _).mono ?_; rintro e w' ⟨rfl, rfl⟩)
    go_ret
    exact ⟨rfl, rfl⟩
  · obtain ⟨h1, h2⟩ := grtB_iff.1 h
    go_enter Try.func36, Try.ntmps36
    go_wp2_with (go_at_call 37; refine (rgreat_any _ _).mono ?_; rintro e w' ⟨rfl, rfl⟩)
    go_ret
    exact ⟨rfl, rfl⟩
theorem plain_no (k c : Int) (w : World) (h : knB k = false) :
    Calls Try.prog 35 #[.int .u8 k, .int .u8 c] w fun e w' => e = .returned (.tuple #[.bool false, .bool false]) ∧ w' = w := by
  obtain ⟨h1, h2, h3, h4, h5, h6, h7, h8, h9⟩ := knB_no h
  clear h
  go_enter Try.func35, Try.ntmps35
  go_wp2
  go_ret2
  exact ⟨rfl, rfl⟩
theorem plain_d (c : Int) (w : World) :
    Calls Try.prog 35 #[.int .u8 100, .int .u8 c] w fun e w' => e = .returned (.tuple #[.bool (digB c), .bool true]) ∧ w' = w := by
  go_enter Try.func35, Try.ntmps35
  go_wp2_with (go_at_call 42; refine (rdigit_any _ _).mono ?_; rintro e w' ⟨rfl, rfl⟩)
  go_ret2
  exact ⟨rfl, rfl⟩
theorem plain_x (c : Int) (w : World) :
    Calls Try.prog 35 #[.int .u8 120, .int .u8 c] w fun e w' => e = .returned (.tuple #[.bool (hexB c), .bool true]) ∧ w' = w := by
  unfold hexB
  cases h1 : digB c <;> cases h2 : bt c 97 102
  all_goals
    go_enter Try.func35, Try.ntmps35
    go_wp2_with (first | (go_at_call 42; refine (rdigit_any _ _).mono ?_; rintro e w' ⟨rfl, rfl⟩) | (go_at_call 43; refine (rbetween_any _ _ _ _).mono ?_; rintro e w' ⟨rfl, rfl⟩))
    go_ret2
    exact ⟨rfl, rfl⟩
theorem plain_o (c : Int) (w : World) :
    Calls Try.prog 35 #[.int .u8 111, .int .u8 c] w fun e w' => e = .returned (.tuple #[.bool (octB c), .bool true]) ∧ w' = w := by
  unfold octB
  go_enter Try.func35, Try.ntmps35
  go_wp2_with (go_at_call 43; refine (rbetween_any _ _ _ _).mono ?_; rintro e w' ⟨rfl, rfl⟩)
  go_ret2
  exact ⟨rfl, rfl⟩
theorem wrd_other (c : Int) : wrdB c = (smlB c || grtB c || digB c || c == 95) := by
  unfold wrdB hedB letB
  cases smlB c <;> cases grtB c <;> cases digB c <;> cases (c == 95) <;> rfl
theorem plain_w (c : Int) (w : World) :
    Calls Try.prog 35 #[.int .u8 119, .int .u8 c] w fun e w' => e = .returned (.tuple #[.bool (wrdB c), .bool true]) ∧ w' = w := by
  rw [wrd_other]
  cases h1 : smlB c <;> cases h2 : grtB c <;> cases h3 : digB c
  all_goals
    go_enter Try.func35, Try.ntmps35
    go_wp2_with (first | (go_at_call 42; refine (rdigit_any _ _).mono ?_; rintro e w' ⟨rfl, rfl⟩) | (go_at_call 44; refine (rsmall_any _ _).mono ?_; rintro e w' ⟨rfl, rfl⟩) | (go_at_call 37; refine (rgreat_any _ _).mono ?_; rintro e w' ⟨rfl, rfl⟩))
    go_ret2
    exact ⟨rfl, rfl⟩
theorem plain_h (c : Int) (w : World) :
    Calls Try.prog 35 #[.int .u8 104, .int .u8 c] w fun e w' => e = .returned (.tuple #[.bool (hedB c), .bool true]) ∧ w' = w := by
  unfold hedB letB
  cases h1 : smlB c <;> cases h2 : grtB c
  all_goals
    go_enter Try.func35, Try.ntmps35
    go_wp2_with (first | (go_at_call 44; refine (rsmall_any _ _).mono ?_; rintro e w' ⟨rfl, rfl⟩) | (go_at_call 37; refine (rgreat_any _ _).mono ?_; rintro e w' ⟨rfl, rfl⟩))
    go_ret2
    exact ⟨rfl, rfl⟩
theorem plain_a (c : Int) (w : World) :
    Calls Try.prog 35 #[.int .u8 97, .int .u8 c] w fun e w' => e = .returned (.tuple #[.bool (letB c), .bool true]) ∧ w' = w := by
  unfold letB
  cases h1 : smlB c
  all_goals
    go_enter Try.func35, Try.ntmps35
    go_wp2_with (first | (go_at_call 44; refine (rsmall_any _ _).mono ?_; rintro e w' ⟨rfl, rfl⟩) | (go_at_call 37; refine (rgreat_any _ _).mono ?_; rintro e w' ⟨rfl, rfl⟩))
    go_ret2
    exact ⟨rfl, rfl⟩
theorem plain_l (c : Int) (w : World) :
    Calls Try.prog 35 #[.int .u8 108, .int .u8 c] w fun e w' => e = .returned (.tuple #[.bool (smlB c), .bool true]) ∧ w' = w := by
  go_enter Try.func35, Try.ntmps35
  go_wp2_with (go_at_call 44; refine (rsmall_any _ _).mono ?_; rintro e w' ⟨rfl, rfl⟩)
  go_ret2
  exact ⟨rfl, rfl⟩
theorem plain_u (c : Int) (w : World) :
    Calls Try.prog 35 #[.int .u8 117, .int .u8 c] w fun e w' => e = .returned (.tuple #[.bool (grtB c), .bool true]) ∧ w' = w := by
  go_enter Try.func35, Try.ntmps35
  go_wp2_with (go_at_call 37; refine (rgreat_any _ _).mono ?_; rintro e w' ⟨rfl, rfl⟩)
  go_ret2
  exact ⟨rfl, rfl⟩
theorem plain_s (c : Int) (w : World) :
    Calls Try.prog 35 #[.int .u8 115, .int .u8 c] w fun e w' => e = .returned (.tuple #[.bool (blkB c), .bool true]) ∧ w' = w := by
  unfold blkB
  cases h : (c == 32)
  all_goals
    go_enter Try.func35, Try.ntmps35
    go_wp2
    go_ret2
    exact ⟨rfl, rfl⟩
theorem plain_any (k c : Int) (w : World) :
    Calls Try.prog 35 #[.int .u8 k, .int .u8 c] w fun e w' => e = .returned (.tuple #[.bool (clsB k c), .bool (knB k)]) ∧ w' = w := by
  cases h : knB k
  · rw [clsB_no c h]
    exact plain_no k c w h
  · rcases knB_yes h with rfl | rfl | rfl | rfl | rfl | rfl | rfl | rfl | rfl
    · exact plain_d c w
    · exact plain_x c w
    · exact plain_o c w
    · exact plain_w c w
    · exact plain_h c w
    · exact plain_a c w
    · exact plain_l c w
    · exact plain_u c w
    · exact plain_s c w
theorem rKnown_any (k : Int) (w : World) :
    Calls Try.prog 19 #[.int .u8 k] w fun e w' => e = .returned (.bool (knB (smI k))) ∧ w' = w := by
  go_enter Try.func19, Try.ntmps19
  go_wp2_with (first | (go_at_call 36; refine (rSmall_any _ _).mono ?_; rintro e w' ⟨rfl, rfl⟩) | (go_at_call 35; refine (plain_any _ _ _).mono ?_; rintro e w' ⟨rfl, rfl⟩))
  go_ret
  exact ⟨rfl, rfl⟩
theorem rIs_any (k c : Int) (w : World) :
    Calls Try.prog 18 #[.int .u8 k, .int .u8 c] w fun e w' => e = .returned (.bool (isB k c)) ∧ w' = w := by
  unfold isB
  cases h1 : knB (smI k) <;> cases h2 : grtB k
  all_goals
    go_enter Try.func18, Try.ntmps18
    go_wp2_with (first | (go_at_call 36; refine (rSmall_any _ _).mono ?_; rintro e w' ⟨rfl, rfl⟩) | (go_at_call 35; refine (plain_any _ _ _).mono ?_; rintro e w' ⟨rfl, rfl⟩) | (go_at_call 37; refine (rgreat_any _ _).mono ?_; rintro e w' ⟨rfl, rfl⟩))
    go_ret
    exact ⟨by simp, rfl⟩

end Go.Proofs.Ytfbcmabpaecbjaa
