/- Texts that the proof of the law stands on: Leaf, Ref, Cls, SetMath, Sets, Gather, Of, Named, RNamed, PBase, NBase, Lc, Lc2. -/
import Derived.Test.YtalmajiflmejcaaGreatRows
import Derived.WalkKit
import Derived.ProofKit
import Derived.OpenShut
import Derived.BigQuiet
import Derived.Laws.EntriesVeiled
import Derived.WalkSmall
import Derived.Below
import Derived.Deep.QuietTactic
import Derived.Laws.BitsAllLaws
import Derived.LoopTactic
import Derived.RegionTactic
import Derived.Deep.RegionWith
import Derived.Deep.RegionHeld3
import Derived.BigRegion
import Derived.Deep.RegionLaw
import Derived.Laws.AppendOwn
import Derived.Deep.AppendLies
import Derived.Deep.MidRow
/- Each test of a byte in package kind, and each one of the document's answer, returns just what a plain function of the byte says, and leaves the world as it was; for every byte. -/
namespace Go.Proofs.YtalmajiflmejcaaGreat
open Go.ChangeShapes Go.WideShapes Go.ChangeAt Go.RowKit

def bt (c a b : Int) : Bool := decide (a ≤ c ∧ c ≤ b)
def digB (c : Int) : Bool := bt c 48 57
def octB (c : Int) : Bool := bt c 48 55
def smlB (c : Int) : Bool := bt c 97 122
def grtB (c : Int) : Bool := bt c 65 90
def letB (c : Int) : Bool := smlB c || grtB c
def ladB (c : Int) : Bool := letB c || digB c
def hedB (c : Int) : Bool := letB c || c == 95
def wrdB (c : Int) : Bool := hedB c || digB c
def blkB (c : Int) : Bool := c == 32 || c == 9
def spcB (c : Int) : Bool := c == 32 || bt c 9 13
def hexB (c : Int) : Bool := digB c || bt c 97 102 || bt c 65 70
def ctlB (c : Int) : Bool := decide (c < 32) || c == 127
def pctB (c : Int) : Bool := bt c 33 47 || bt c 58 64 || bt c 91 96 || bt c 123 126

theorem bt_yes {c a b : Int} (h1 : a ≤ c) (h2 : c ≤ b) : bt c a b = true := by simp [bt, h1, h2]
theorem bt_no1 {c a b : Int} (h1 : ¬ a ≤ c) : bt c a b = false := by simp [bt, h1]
theorem bt_no2 {c a b : Int} (h2 : ¬ c ≤ b) : bt c a b = false := by simp [bt, h2]

theorem between_any (c a b : Int) (w : World) :
    Calls Tryz.prog 222 #[.int .u8 c, .int .u8 a, .int .u8 b] w fun e w' => e = .returned (.bool (bt c a b)) ∧ w' = w := by
  by_cases h1 : a ≤ c
  · by_cases h2 : c ≤ b
    · rw [bt_yes h1 h2]
      go_enter Tryz.func222, Tryz.ntmps222
      go_wp2
      go_ret
      exact ⟨rfl, rfl⟩
    · rw [bt_no2 h2]
      go_enter Tryz.func222, Tryz.ntmps222
      go_wp2
      go_ret
      exact ⟨rfl, rfl⟩
  · rw [bt_no1 h1]
    go_enter Tryz.func222, Tryz.ntmps222
    go_wp2
    go_ret
    exact ⟨rfl, rfl⟩

theorem isDigit_any (c : Int) (w : World) :
    Calls Tryz.prog 226 #[.int .u8 c] w fun e w' => e = .returned (.bool (digB c)) ∧ w' = w := by
  unfold digB
  go_enter Tryz.func226, Tryz.ntmps226
  go_wp2_with (go_at_call 222; refine (between_any _ _ _ _).mono ?_; rintro e w' ⟨rfl, rfl⟩)
  go_ret
  exact ⟨rfl, rfl⟩

theorem isOctal_any (c : Int) (w : World) :
    Calls Tryz.prog 228 #[.int .u8 c] w fun e w' => e = .returned (.bool (octB c)) ∧ w' = w := by
  unfold octB
  go_enter Tryz.func228, Tryz.ntmps228
  go_wp2_with (go_at_call 222; refine (between_any _ _ _ _).mono ?_; rintro e w' ⟨rfl, rfl⟩)
  go_ret
  exact ⟨rfl, rfl⟩

theorem isSmall_any (c : Int) (w : World) :
    Calls Tryz.prog 214 #[.int .u8 c] w fun e w' => e = .returned (.bool (smlB c)) ∧ w' = w := by
  unfold smlB
  go_enter Tryz.func214, Tryz.ntmps214
  go_wp2_with (go_at_call 222; refine (between_any _ _ _ _).mono ?_; rintro e w' ⟨rfl, rfl⟩)
  go_ret
  exact ⟨rfl, rfl⟩

theorem isGreat_any (c : Int) (w : World) :
    Calls Tryz.prog 215 #[.int .u8 c] w fun e w' => e = .returned (.bool (grtB c)) ∧ w' = w := by
  unfold grtB
  go_enter Tryz.func215, Tryz.ntmps215
  go_wp2_with (go_at_call 222; refine (between_any _ _ _ _).mono ?_; rintro e w' ⟨rfl, rfl⟩)
  go_ret
  exact ⟨rfl, rfl⟩

theorem isLetter_any (c : Int) (w : World) :
    Calls Tryz.prog 231 #[.int .u8 c] w fun e w' => e = .returned (.bool (letB c)) ∧ w' = w := by
  unfold letB
  cases h : smlB c
  all_goals
    go_enter Tryz.func231, Tryz.ntmps231
    go_wp2_with (first | (go_at_call 214; refine (isSmall_any _ _).mono ?_; rintro e w' ⟨rfl, rfl⟩) | (go_at_call 215; refine (isGreat_any _ _).mono ?_; rintro e w' ⟨rfl, rfl⟩))
    go_ret
    exact ⟨rfl, rfl⟩


theorem isHead_any (c : Int) (w : World) :
    Calls Tryz.prog 230 #[.int .u8 c] w fun e w' => e = .returned (.bool (hedB c)) ∧ w' = w := by
  unfold hedB
  cases h : letB c
  all_goals
    go_enter Tryz.func230, Tryz.ntmps230
    go_wp2_with (go_at_call 231; refine (isLetter_any _ _).mono ?_; rintro e w' ⟨rfl, rfl⟩)
    go_ret
    exact ⟨rfl, rfl⟩

theorem isWord_any (c : Int) (w : World) :
    Calls Tryz.prog 229 #[.int .u8 c] w fun e w' => e = .returned (.bool (wrdB c)) ∧ w' = w := by
  unfold wrdB
  cases h : hedB c
  all_goals
    go_enter Tryz.func229, Tryz.ntmps229
    go_wp2_with (first | (go_at_call 230; refine (isHead_any _ _).mono ?_; rintro e w' ⟨rfl, rfl⟩) | (go_at_call 226; refine (isDigit_any _ _).mono ?_; rintro e w' ⟨rfl, rfl⟩))
    go_ret
    exact ⟨rfl, rfl⟩

theorem isBlank_any (c : Int) (w : World) :
    Calls Tryz.prog 232 #[.int .u8 c] w fun e w' => e = .returned (.bool (blkB c)) ∧ w' = w := by
  unfold blkB
  cases h : (c == 32)
  all_goals
    go_enter Tryz.func232, Tryz.ntmps232
    go_wp2
    go_ret
    exact ⟨rfl, rfl⟩


theorem isHex_any (c : Int) (w : World) :
    Calls Tryz.prog 227 #[.int .u8 c] w fun e w' => e = .returned (.bool (hexB c)) ∧ w' = w := by
  unfold hexB
  cases h1 : digB c <;> cases h2 : bt c 97 102
  all_goals
    go_enter Tryz.func227, Tryz.ntmps227
    go_wp2_with (first | (go_at_call 226; refine (isDigit_any _ _).mono ?_; rintro e w' ⟨rfl, rfl⟩) | (go_at_call 222; refine (between_any _ _ _ _).mono ?_; rintro e w' ⟨rfl, rfl⟩))
    go_ret
    exact ⟨rfl, rfl⟩

end Go.Proofs.YtalmajiflmejcaaGreat
/- The document's answer for one byte (its classes, its letters) returns just what plain functions of the byte say, and leaves the world as it was. -/
namespace Go.Proofs.YtalmajiflmejcaaGreat
open Go.ChangeShapes Go.WideShapes Go.ChangeAt Go.RowKit

def smI (c : Int) : Int := if grtB c then c + 32 else c
def grI (c : Int) : Int := if smlB c then c - 32 else c
def knB (k : Int) : Bool := k == 100 || k == 120 || k == 111 || k == 119 || k == 104 || k == 97 || k == 108 || k == 117 || k == 115
def clsB (k c : Int) : Bool :=
  if k = 100 then digB c else if k = 120 then hexB c else if k = 111 then octB c else if k = 119 then wrdB c else if k = 104 then hedB c
  else if k = 97 then letB c else if k = 108 then smlB c else if k = 117 then grtB c else if k = 115 then blkB c else false
def isB (k c : Int) : Bool := knB (smI k) && (clsB (smI k) c != grtB k)

theorem ret_u8 {a b : Int} (h : a = b) : Ending.returned (.int .u8 a) = .returned (.int .u8 b) := by rw [h]
theorem grtB_iff {c : Int} : grtB c = true ↔ 65 ≤ c ∧ c ≤ 90 := by simp [grtB, bt]
theorem smlB_iff {c : Int} : smlB c = true ↔ 97 ≤ c ∧ c ≤ 122 := by simp [smlB, bt]
theorem knB_no {k : Int} (h : knB k = false) : (k == 100) = false ∧ (k == 120) = false ∧ (k == 111) = false ∧ (k == 119) = false ∧ (k == 104) = false ∧ (k == 97) = false ∧ (k == 108) = false ∧ (k == 117) = false ∧ (k == 115) = false := by
  simpa [knB, and_assoc] using h
theorem knB_yes {k : Int} (h : knB k = true) : k = 100 ∨ k = 120 ∨ k = 111 ∨ k = 119 ∨ k = 104 ∨ k = 97 ∨ k = 108 ∨ k = 117 ∨ k = 115 := by
  simpa [knB, or_assoc] using h
theorem clsB_no {k : Int} (c : Int) (h : knB k = false) : clsB k c = false := by
  obtain ⟨h1, h2, h3, h4, h5, h6, h7, h8, h9⟩ := knB_no h
  simp only [beq_eq_false_iff_ne, ne_eq] at h1 h2 h3 h4 h5 h6 h7 h8 h9
  simp [clsB, h1, h2, h3, h4, h5, h6, h7, h8, h9]

-- BEGIN rbetween
theorem rbetween_any (c a b : Int) (w : World) :
    Calls Tryz.prog 118 #[.int .u8 c, .int .u8 a, .int .u8 b] w fun e w' => e = .returned (.bool (bt c a b)) ∧ w' = w := by
  by_cases h1 : a ≤ c
  · by_cases h2 : c ≤ b
    · rw [bt_yes h1 h2]
      go_enter Tryz.func118, Tryz.ntmps118
      go_wp2
      go_ret
      exact ⟨rfl, rfl⟩
    · rw [bt_no2 h2]
      go_enter Tryz.func118, Tryz.ntmps118
      go_wp2
      go_ret
      exact ⟨rfl, rfl⟩
  · rw [bt_no1 h1]
    go_enter Tryz.func118, Tryz.ntmps118
    go_wp2
    go_ret
    exact ⟨rfl, rfl⟩
-- END
-- BEGIN rbetween rsmall
theorem rsmall_any (c : Int) (w : World) :
    Calls Tryz.prog 150 #[.int .u8 c] w fun e w' => e = .returned (.bool (smlB c)) ∧ w' = w := by
  unfold smlB
  go_enter Tryz.func150, Tryz.ntmps150
  go_wp2_with (go_at_call 118; refine (rbetween_any _ _ _ _).mono ?_; rintro e w' ⟨rfl, rfl⟩)
  go_ret
  exact ⟨rfl, rfl⟩
-- END
-- BEGIN rbetween rgreat
theorem rgreat_any (c : Int) (w : World) :
    Calls Tryz.prog 82 #[.int .u8 c] w fun e w' => e = .returned (.bool (grtB c)) ∧ w' = w := by
  unfold grtB
  go_enter Tryz.func82, Tryz.ntmps82
  go_wp2_with (go_at_call 118; refine (rbetween_any _ _ _ _).mono ?_; rintro e w' ⟨rfl, rfl⟩)
  go_ret
  exact ⟨rfl, rfl⟩
-- END
-- BEGIN rbetween rdigit
theorem rdigit_any (c : Int) (w : World) :
    Calls Tryz.prog 171 #[.int .u8 c] w fun e w' => e = .returned (.bool (digB c)) ∧ w' = w := by
  unfold digB
  go_enter Tryz.func171, Tryz.ntmps171
  go_wp2_with (go_at_call 118; refine (rbetween_any _ _ _ _).mono ?_; rintro e w' ⟨rfl, rfl⟩)
  go_ret
  exact ⟨rfl, rfl⟩
-- END
-- BEGIN rSmall rgreat
theorem rSmall_any (c : Int) (w : World) :
    Calls Tryz.prog 52 #[.int .u8 c] w fun e w' => e = .returned (.int .u8 (smI c)) ∧ w' = w := by
  unfold smI
  cases h : grtB c
  · go_enter Tryz.func52, Tryz.ntmps52
    go_wp2_with (go_at_call 82; refine (rgreat_any _ _).mono ?_; rintro e w' ⟨rfl, rfl⟩)
    go_ret
    exact ⟨rfl, rfl⟩
  · obtain ⟨h1, h2⟩ := grtB_iff.1 h
    go_enter Tryz.func52, Tryz.ntmps52
    go_wp2_with (go_at_call 82; refine (rgreat_any _ _).mono ?_; rintro e w' ⟨rfl, rfl⟩)
    go_ret
    exact ⟨rfl, rfl⟩
-- END
-- BEGIN rGreat rsmall
theorem rGreat_any (c : Int) (w : World) :
    Calls Tryz.prog 122 #[.int .u8 c] w fun e w' => e = .returned (.int .u8 (grI c)) ∧ w' = w := by
  unfold grI
  cases h : smlB c
  · go_enter Tryz.func122, Tryz.ntmps122
    go_wp2_with (go_at_call 150; refine (rsmall_any _ _).mono ?_; rintro e w' ⟨rfl, rfl⟩)
    go_ret
    exact ⟨rfl, rfl⟩
  · obtain ⟨h1, h2⟩ := smlB_iff.1 h
    go_enter Tryz.func122, Tryz.ntmps122
    go_wp2_with (go_at_call 150; refine (rsmall_any _ _).mono ?_; rintro e w' ⟨rfl, rfl⟩)
    go_ret
    exact ⟨rfl, rfl⟩
-- END
-- BEGIN plain
theorem plain_no (k c : Int) (w : World) (h : knB k = false) :
    Calls Tryz.prog 151 #[.int .u8 k, .int .u8 c] w fun e w' => e = .returned (.tuple #[.bool false, .bool false]) ∧ w' = w := by
  obtain ⟨h1, h2, h3, h4, h5, h6, h7, h8, h9⟩ := knB_no h
  clear h
  go_enter Tryz.func151, Tryz.ntmps151
  go_wp2
  go_ret2
  exact ⟨rfl, rfl⟩
theorem plain_d (c : Int) (w : World) :
    Calls Tryz.prog 151 #[.int .u8 100, .int .u8 c] w fun e w' => e = .returned (.tuple #[.bool (digB c), .bool true]) ∧ w' = w := by
  go_enter Tryz.func151, Tryz.ntmps151
  go_wp2_with (go_at_call 171; refine (rdigit_any _ _).mono ?_; rintro e w' ⟨rfl, rfl⟩)
  go_ret2
  exact ⟨rfl, rfl⟩
theorem plain_x (c : Int) (w : World) :
    Calls Tryz.prog 151 #[.int .u8 120, .int .u8 c] w fun e w' => e = .returned (.tuple #[.bool (hexB c), .bool true]) ∧ w' = w := by
  unfold hexB
  cases h1 : digB c <;> cases h2 : bt c 97 102
  all_goals
    go_enter Tryz.func151, Tryz.ntmps151
    go_wp2_with (first | (go_at_call 171; refine (rdigit_any _ _).mono ?_; rintro e w' ⟨rfl, rfl⟩) | (go_at_call 118; refine (rbetween_any _ _ _ _).mono ?_; rintro e w' ⟨rfl, rfl⟩))
    go_ret2
    exact ⟨rfl, rfl⟩
theorem plain_o (c : Int) (w : World) :
    Calls Tryz.prog 151 #[.int .u8 111, .int .u8 c] w fun e w' => e = .returned (.tuple #[.bool (octB c), .bool true]) ∧ w' = w := by
  unfold octB
  go_enter Tryz.func151, Tryz.ntmps151
  go_wp2_with (go_at_call 118; refine (rbetween_any _ _ _ _).mono ?_; rintro e w' ⟨rfl, rfl⟩)
  go_ret2
  exact ⟨rfl, rfl⟩
theorem wrd_other (c : Int) : wrdB c = (smlB c || grtB c || digB c || c == 95) := by
  unfold wrdB hedB letB
  cases smlB c <;> cases grtB c <;> cases digB c <;> cases (c == 95) <;> rfl
theorem plain_w (c : Int) (w : World) :
    Calls Tryz.prog 151 #[.int .u8 119, .int .u8 c] w fun e w' => e = .returned (.tuple #[.bool (wrdB c), .bool true]) ∧ w' = w := by
  rw [wrd_other]
  cases h1 : smlB c <;> cases h2 : grtB c <;> cases h3 : digB c
  all_goals
    go_enter Tryz.func151, Tryz.ntmps151
    go_wp2_with (first | (go_at_call 171; refine (rdigit_any _ _).mono ?_; rintro e w' ⟨rfl, rfl⟩) | (go_at_call 150; refine (rsmall_any _ _).mono ?_; rintro e w' ⟨rfl, rfl⟩) | (go_at_call 82; refine (rgreat_any _ _).mono ?_; rintro e w' ⟨rfl, rfl⟩))
    go_ret2
    exact ⟨rfl, rfl⟩
theorem plain_h (c : Int) (w : World) :
    Calls Tryz.prog 151 #[.int .u8 104, .int .u8 c] w fun e w' => e = .returned (.tuple #[.bool (hedB c), .bool true]) ∧ w' = w := by
  unfold hedB letB
  cases h1 : smlB c <;> cases h2 : grtB c
  all_goals
    go_enter Tryz.func151, Tryz.ntmps151
    go_wp2_with (first | (go_at_call 150; refine (rsmall_any _ _).mono ?_; rintro e w' ⟨rfl, rfl⟩) | (go_at_call 82; refine (rgreat_any _ _).mono ?_; rintro e w' ⟨rfl, rfl⟩))
    go_ret2
    exact ⟨rfl, rfl⟩
theorem plain_a (c : Int) (w : World) :
    Calls Tryz.prog 151 #[.int .u8 97, .int .u8 c] w fun e w' => e = .returned (.tuple #[.bool (letB c), .bool true]) ∧ w' = w := by
  unfold letB
  cases h1 : smlB c
  all_goals
    go_enter Tryz.func151, Tryz.ntmps151
    go_wp2_with (first | (go_at_call 150; refine (rsmall_any _ _).mono ?_; rintro e w' ⟨rfl, rfl⟩) | (go_at_call 82; refine (rgreat_any _ _).mono ?_; rintro e w' ⟨rfl, rfl⟩))
    go_ret2
    exact ⟨rfl, rfl⟩
theorem plain_l (c : Int) (w : World) :
    Calls Tryz.prog 151 #[.int .u8 108, .int .u8 c] w fun e w' => e = .returned (.tuple #[.bool (smlB c), .bool true]) ∧ w' = w := by
  go_enter Tryz.func151, Tryz.ntmps151
  go_wp2_with (go_at_call 150; refine (rsmall_any _ _).mono ?_; rintro e w' ⟨rfl, rfl⟩)
  go_ret2
  exact ⟨rfl, rfl⟩
theorem plain_u (c : Int) (w : World) :
    Calls Tryz.prog 151 #[.int .u8 117, .int .u8 c] w fun e w' => e = .returned (.tuple #[.bool (grtB c), .bool true]) ∧ w' = w := by
  go_enter Tryz.func151, Tryz.ntmps151
  go_wp2_with (go_at_call 82; refine (rgreat_any _ _).mono ?_; rintro e w' ⟨rfl, rfl⟩)
  go_ret2
  exact ⟨rfl, rfl⟩
theorem plain_s (c : Int) (w : World) :
    Calls Tryz.prog 151 #[.int .u8 115, .int .u8 c] w fun e w' => e = .returned (.tuple #[.bool (blkB c), .bool true]) ∧ w' = w := by
  unfold blkB
  cases h : (c == 32)
  all_goals
    go_enter Tryz.func151, Tryz.ntmps151
    go_wp2
    go_ret2
    exact ⟨rfl, rfl⟩
theorem plain_any (k c : Int) (w : World) :
    Calls Tryz.prog 151 #[.int .u8 k, .int .u8 c] w fun e w' => e = .returned (.tuple #[.bool (clsB k c), .bool (knB k)]) ∧ w' = w := by
  cases h : knB k
  · rw [clsB_no c h]
    exact plain_no k c w h
  · rcases knB_yes h with rfl | rfl | rfl | rfl | rfl | rfl | rfl | rfl | rfl
    · exact plain_d c w
    · exact plain_x c w
    · exact plain_o c w
    · exact plain_w c w
    · exact plain_h c w
    · exact plain_a c w
    · exact plain_l c w
    · exact plain_u c w
    · exact plain_s c w
-- END
-- BEGIN plain rKnown rSmall
theorem rKnown_any (k : Int) (w : World) :
    Calls Tryz.prog 195 #[.int .u8 k] w fun e w' => e = .returned (.bool (knB (smI k))) ∧ w' = w := by
  go_enter Tryz.func195, Tryz.ntmps195
  go_wp2_with (first | (go_at_call 52; refine (rSmall_any _ _).mono ?_; rintro e w' ⟨rfl, rfl⟩) | (go_at_call 151; refine (plain_any _ _ _).mono ?_; rintro e w' ⟨rfl, rfl⟩))
  go_ret
  exact ⟨rfl, rfl⟩
-- END
-- BEGIN plain rIs rSmall rgreat
theorem rIs_any (k c : Int) (w : World) :
    Calls Tryz.prog 123 #[.int .u8 k, .int .u8 c] w fun e w' => e = .returned (.bool (isB k c)) ∧ w' = w := by
  unfold isB
  cases h1 : knB (smI k) <;> cases h2 : grtB k
  all_goals
    go_enter Tryz.func123, Tryz.ntmps123
    go_wp2_with (first | (go_at_call 52; refine (rSmall_any _ _).mono ?_; rintro e w' ⟨rfl, rfl⟩) | (go_at_call 151; refine (plain_any _ _ _).mono ?_; rintro e w' ⟨rfl, rfl⟩) | (go_at_call 82; refine (rgreat_any _ _).mono ?_; rintro e w' ⟨rfl, rfl⟩))
    go_ret
    exact ⟨by simp, rfl⟩
-- END
-- BEGIN rSame rSmall
theorem rSame_any (a b : Int) (f : Bool) (w : World) :
    Calls Tryz.prog 120 #[.int .u8 a, .int .u8 b, .bool f] w fun e w' => e = .returned (.bool (a == b || f && smI a == smI b)) ∧ w' = w := by
  cases h1 : (a == b) <;> cases f
  all_goals
    go_enter Tryz.func120, Tryz.ntmps120
    go_wp2_with (go_at_call 52; refine (rSmall_any _ _).mono ?_; rintro e w' ⟨rfl, rfl⟩)
    go_ret
    exact ⟨by simp, rfl⟩
-- END

end Go.Proofs.YtalmajiflmejcaaGreat
/- The calls of package kind that ask one byte (Small, Great, Same, Known, Is) return just what plain functions of the bytes say, and write nothing that was there. -/
namespace Go.Proofs.YtalmajiflmejcaaGreat
open Go.ChangeShapes Go.WideShapes Go.ChangeAt Go.RowKit

theorem bw_alloc {a b : World} (h : Below a.heap.size a b) (o : Obj) : Below a.heap.size a (b.alloc o) := h.alloc h.size o
theorem bw_trans {a b c : World} (h : Below a.heap.size a b) (k : Below b.heap.size b c) : Below a.heap.size a c := h.trans (k.mono h.size)

theorem kSmall_any (c : Int) (w : World) :
    Calls Tryz.prog 203 #[.int .u8 c] w fun e w' => e = .returned (.int .u8 (smI c)) ∧ w' = w := by
  unfold smI
  cases h : grtB c
  · go_enter Tryz.func203, Tryz.ntmps203
    go_wp2_with (go_at_call 215; refine (isGreat_any _ _).mono ?_; rintro e w' ⟨rfl, rfl⟩)
    go_ret
    exact ⟨rfl, rfl⟩
  · obtain ⟨h1, h2⟩ := grtB_iff.1 h
    go_enter Tryz.func203, Tryz.ntmps203
    go_wp2_with (go_at_call 215; refine (isGreat_any _ _).mono ?_; rintro e w' ⟨rfl, rfl⟩)
    go_ret
    exact ⟨ret_u8 (by omega), rfl⟩
-- BEGIN kGreat
theorem kGreat_any (c : Int) (w : World) :
    Calls Tryz.prog 202 #[.int .u8 c] w fun e w' => e = .returned (.int .u8 (grI c)) ∧ w' = w := by
  unfold grI
  cases h : smlB c
  · go_enter Tryz.func202, Tryz.ntmps202
    go_wp2_with (go_at_call 214; refine (isSmall_any _ _).mono ?_; rintro e w' ⟨rfl, rfl⟩)
    go_ret
    exact ⟨rfl, rfl⟩
  · obtain ⟨h1, h2⟩ := smlB_iff.1 h
    go_enter Tryz.func202, Tryz.ntmps202
    go_wp2_with (go_at_call 214; refine (isSmall_any _ _).mono ?_; rintro e w' ⟨rfl, rfl⟩)
    go_ret
    exact ⟨ret_u8 (by omega), rfl⟩
-- END
theorem kSame_any (a b : Int) (f : Bool) (w : World) :
    Calls Tryz.prog 216 #[.int .u8 a, .int .u8 b, .bool f] w fun e w' => e = .returned (.bool (a == b || f && smI a == smI b)) ∧ w' = w := by
  cases h1 : (a == b) <;> cases f
  all_goals
    go_enter Tryz.func216, Tryz.ntmps216
    go_wp2_with (go_at_call 203; refine (kSmall_any _ _).mono ?_; rintro e w' ⟨rfl, rfl⟩)
    go_ret
    exact ⟨by simp, rfl⟩

/-- the test of a class, by its small letter -/
def fnum (k : Int) : Option Nat :=
  if k = 100 then some 226 else if k = 120 then some 227 else if k = 111 then some 228 else if k = 119 then some 229 else if k = 104 then some 230
  else if k = 97 then some 231 else if k = 108 then some 214 else if k = 117 then some 215 else if k = 115 then some 232 else none
theorem fnum_some {k : Int} {n : Nat} (h : fnum k = some n) : (k = 100 ∧ n = 226) ∨ (k = 120 ∧ n = 227) ∨ (k = 111 ∧ n = 228) ∨ (k = 119 ∧ n = 229) ∨ (k = 104 ∧ n = 230) ∨ (k = 97 ∧ n = 231) ∨ (k = 108 ∧ n = 214) ∨ (k = 117 ∧ n = 215) ∨ (k = 115 ∧ n = 232) := by
  unfold fnum at h
  repeat' split at h
  all_goals simp at h
  all_goals omega
theorem fnum_none {k : Int} (h : fnum k = none) : knB k = false := by
  cases hk : knB k
  · rfl
  · rcases knB_yes hk with rfl | rfl | rfl | rfl | rfl | rfl | rfl | rfl | rfl <;> simp [fnum] at h
theorem fnum_is {k : Int} {n : Nat} (h : fnum k = some n) : knB k = true := by
  rcases fnum_some h with ⟨rfl, _⟩ | ⟨rfl, _⟩ | ⟨rfl, _⟩ | ⟨rfl, _⟩ | ⟨rfl, _⟩ | ⟨rfl, _⟩ | ⟨rfl, _⟩ | ⟨rfl, _⟩ | ⟨rfl, _⟩ <;> rfl

theorem test_yes {k : Int} {n : Nat} (h : fnum k = some n) (c : Int) (w : World) :
    Calls Tryz.prog n #[.int .u8 c] w fun e w' => e = .returned (.bool (clsB k c)) ∧ w' = w := by
  rcases fnum_some h with ⟨rfl, rfl⟩ | ⟨rfl, rfl⟩ | ⟨rfl, rfl⟩ | ⟨rfl, rfl⟩ | ⟨rfl, rfl⟩ | ⟨rfl, rfl⟩ | ⟨rfl, rfl⟩ | ⟨rfl, rfl⟩ | ⟨rfl, rfl⟩
  · exact isDigit_any c w
  · exact isHex_any c w
  · exact isOctal_any c w
  · exact isWord_any c w
  · exact isHead_any c w
  · exact isLetter_any c w
  · exact isSmall_any c w
  · exact isGreat_any c w
  · exact isBlank_any c w

theorem classTest_no {k : Int} (h : fnum k = none) (w : World) :
    Calls Tryz.prog 223 #[.int .u8 k] w fun e w' => e = .returned .nilFunc ∧ w' = w := by
  obtain ⟨h1, h2, h3, h4, h5, h6, h7, h8, h9⟩ := knB_no (fnum_none h)
  clear h
  go_enter Tryz.func223, Tryz.ntmps223
  go_wp2
  go_ret
  exact ⟨rfl, rfl⟩
theorem classTest_yes {k : Int} {n : Nat} (h : fnum k = some n) (w : World) :
    Calls Tryz.prog 223 #[.int .u8 k] w fun e w' => e = .returned (.func (Fn.func n) #[] #[]) ∧ w' = w := by
  rcases fnum_some h with ⟨rfl, rfl⟩ | ⟨rfl, rfl⟩ | ⟨rfl, rfl⟩ | ⟨rfl, rfl⟩ | ⟨rfl, rfl⟩ | ⟨rfl, rfl⟩ | ⟨rfl, rfl⟩ | ⟨rfl, rfl⟩ | ⟨rfl, rfl⟩
  all_goals
    clear h
    go_enter Tryz.func223, Tryz.ntmps223
    go_wp2
    go_ret
    exact ⟨rfl, rfl⟩

theorem eql_nil (w : World) : Sem.run Tryz.prog (binOp BinOp.eql 284 Value.nilFunc Value.nilFunc) w = .ok (.bool true) w := by kernel_rfl
theorem eql_fn (n : Nat) (w : World) : Sem.run Tryz.prog (binOp BinOp.eql 284 (Value.func (Fn.func n) #[] #[]) Value.nilFunc) w = .ok (.bool false) w := by kernel_rfl

theorem classOf_no {k : Int} (h : fnum (smI k) = none) (w : World) :
    Calls Tryz.prog 217 #[.int .u8 k] w fun e w' => e = .returned (.tuple #[.agg #[.nilFunc, .bool false], .bool false]) ∧ Below w.heap.size w w' := by
  have hq := eql_nil
  go_enter Tryz.func217, Tryz.ntmps217
  go_wp2_with (first | (go_at_call 203; refine (kSmall_any _ _).mono ?_; rintro e w' ⟨rfl, rfl⟩) | (go_at_call 223; refine (classTest_no h _).mono ?_; rintro e w' ⟨rfl, rfl⟩))
  exact bodyPost_ret (v := .tuple #[.agg #[.nilFunc, .bool false], .bool false]) (by simp [results, Tryz.results217, go_sem]) rfl ⟨rfl, bw_alloc (Below.refl _ _) _⟩
theorem classOf_yes {k : Int} {n : Nat} (h : fnum (smI k) = some n) (w : World) :
    Calls Tryz.prog 217 #[.int .u8 k] w fun e w' => e = .returned (.tuple #[.agg #[.func (Fn.func n) #[] #[], .bool (smI k != k)], .bool true]) ∧ Below w.heap.size w w' := by
  have hq := eql_fn n
  go_enter Tryz.func217, Tryz.ntmps217
  go_wp2_with (first | (go_at_call 203; refine (kSmall_any _ _).mono ?_; rintro e w' ⟨rfl, rfl⟩) | (go_at_call 223; refine (classTest_yes h _).mono ?_; rintro e w' ⟨rfl, rfl⟩))
  exact bodyPost_ret (v := .tuple #[.agg #[.func (Fn.func n) #[] #[], .bool (smI k != k)], .bool true]) (by simp [results, Tryz.results217, go_sem]) rfl ⟨rfl, bw_alloc (Below.refl _ _) _⟩

theorem ghas_isDigit (o : Bool) (c : Int) (w : World) :
    Calls Tryz.prog 218 #[.agg #[.func (Fn.func 226) #[] #[], .bool o], .int .u8 c] w fun e w' => e = .returned (.bool (digB c != o)) ∧ Below w.heap.size w w' := by
  go_enter Tryz.func218, Tryz.ntmps218
  go_wp2
  go_quiet ((go_at_call 226; exact Calls.quiet_of_same (isDigit_any _ _)))
  go_wp2
  go_ret
  exact ⟨rfl, below_drewN (bw_alloc (Below.refl _ _) _) _⟩
theorem ghas_isHex (o : Bool) (c : Int) (w : World) :
    Calls Tryz.prog 218 #[.agg #[.func (Fn.func 227) #[] #[], .bool o], .int .u8 c] w fun e w' => e = .returned (.bool (hexB c != o)) ∧ Below w.heap.size w w' := by
  go_enter Tryz.func218, Tryz.ntmps218
  go_wp2
  go_quiet ((go_at_call 227; exact Calls.quiet_of_same (isHex_any _ _)))
  go_wp2
  go_ret
  exact ⟨rfl, below_drewN (bw_alloc (Below.refl _ _) _) _⟩
theorem ghas_isOctal (o : Bool) (c : Int) (w : World) :
    Calls Tryz.prog 218 #[.agg #[.func (Fn.func 228) #[] #[], .bool o], .int .u8 c] w fun e w' => e = .returned (.bool (octB c != o)) ∧ Below w.heap.size w w' := by
  go_enter Tryz.func218, Tryz.ntmps218
  go_wp2
  go_quiet ((go_at_call 228; exact Calls.quiet_of_same (isOctal_any _ _)))
  go_wp2
  go_ret
  exact ⟨rfl, below_drewN (bw_alloc (Below.refl _ _) _) _⟩
theorem ghas_isWord (o : Bool) (c : Int) (w : World) :
    Calls Tryz.prog 218 #[.agg #[.func (Fn.func 229) #[] #[], .bool o], .int .u8 c] w fun e w' => e = .returned (.bool (wrdB c != o)) ∧ Below w.heap.size w w' := by
  go_enter Tryz.func218, Tryz.ntmps218
  go_wp2
  go_quiet ((go_at_call 229; exact Calls.quiet_of_same (isWord_any _ _)))
  go_wp2
  go_ret
  exact ⟨rfl, below_drewN (bw_alloc (Below.refl _ _) _) _⟩
theorem ghas_isHead (o : Bool) (c : Int) (w : World) :
    Calls Tryz.prog 218 #[.agg #[.func (Fn.func 230) #[] #[], .bool o], .int .u8 c] w fun e w' => e = .returned (.bool (hedB c != o)) ∧ Below w.heap.size w w' := by
  go_enter Tryz.func218, Tryz.ntmps218
  go_wp2
  go_quiet ((go_at_call 230; exact Calls.quiet_of_same (isHead_any _ _)))
  go_wp2
  go_ret
  exact ⟨rfl, below_drewN (bw_alloc (Below.refl _ _) _) _⟩
theorem ghas_isLetter (o : Bool) (c : Int) (w : World) :
    Calls Tryz.prog 218 #[.agg #[.func (Fn.func 231) #[] #[], .bool o], .int .u8 c] w fun e w' => e = .returned (.bool (letB c != o)) ∧ Below w.heap.size w w' := by
  go_enter Tryz.func218, Tryz.ntmps218
  go_wp2
  go_quiet ((go_at_call 231; exact Calls.quiet_of_same (isLetter_any _ _)))
  go_wp2
  go_ret
  exact ⟨rfl, below_drewN (bw_alloc (Below.refl _ _) _) _⟩
theorem ghas_isSmall (o : Bool) (c : Int) (w : World) :
    Calls Tryz.prog 218 #[.agg #[.func (Fn.func 214) #[] #[], .bool o], .int .u8 c] w fun e w' => e = .returned (.bool (smlB c != o)) ∧ Below w.heap.size w w' := by
  go_enter Tryz.func218, Tryz.ntmps218
  go_wp2
  go_quiet ((go_at_call 214; exact Calls.quiet_of_same (isSmall_any _ _)))
  go_wp2
  go_ret
  exact ⟨rfl, below_drewN (bw_alloc (Below.refl _ _) _) _⟩
theorem ghas_isGreat (o : Bool) (c : Int) (w : World) :
    Calls Tryz.prog 218 #[.agg #[.func (Fn.func 215) #[] #[], .bool o], .int .u8 c] w fun e w' => e = .returned (.bool (grtB c != o)) ∧ Below w.heap.size w w' := by
  go_enter Tryz.func218, Tryz.ntmps218
  go_wp2
  go_quiet ((go_at_call 215; exact Calls.quiet_of_same (isGreat_any _ _)))
  go_wp2
  go_ret
  exact ⟨rfl, below_drewN (bw_alloc (Below.refl _ _) _) _⟩
theorem ghas_isBlank (o : Bool) (c : Int) (w : World) :
    Calls Tryz.prog 218 #[.agg #[.func (Fn.func 232) #[] #[], .bool o], .int .u8 c] w fun e w' => e = .returned (.bool (blkB c != o)) ∧ Below w.heap.size w w' := by
  go_enter Tryz.func218, Tryz.ntmps218
  go_wp2
  go_quiet ((go_at_call 232; exact Calls.quiet_of_same (isBlank_any _ _)))
  go_wp2
  go_ret
  exact ⟨rfl, below_drewN (bw_alloc (Below.refl _ _) _) _⟩
theorem ghas_any {k : Int} {n : Nat} (h : fnum k = some n) (o : Bool) (c : Int) (w : World) :
    Calls Tryz.prog 218 #[.agg #[.func (Fn.func n) #[] #[], .bool o], .int .u8 c] w fun e w' => e = .returned (.bool (clsB k c != o)) ∧ Below w.heap.size w w' := by
  rcases fnum_some h with ⟨rfl, rfl⟩ | ⟨rfl, rfl⟩ | ⟨rfl, rfl⟩ | ⟨rfl, rfl⟩ | ⟨rfl, rfl⟩ | ⟨rfl, rfl⟩ | ⟨rfl, rfl⟩ | ⟨rfl, rfl⟩ | ⟨rfl, rfl⟩
  · exact ghas_isDigit o c w
  · exact ghas_isHex o c w
  · exact ghas_isOctal o c w
  · exact ghas_isWord o c w
  · exact ghas_isHead o c w
  · exact ghas_isLetter o c w
  · exact ghas_isSmall o c w
  · exact ghas_isGreat o c w
  · exact ghas_isBlank o c w

theorem great_is (k : Int) : (smI k != k) = grtB k := by
  unfold smI
  cases h : grtB k
  · simp
  · simp
    omega

theorem kIs_any (k c : Int) (w : World) :
    Calls Tryz.prog 205 #[.int .u8 k, .int .u8 c] w fun e w' => e = .returned (.bool (isB k c)) ∧ Below w.heap.size w w' := by
  unfold isB
  cases h : fnum (smI k) with
  | none =>
    rw [fnum_none h]
    go_enter Tryz.func205, Tryz.ntmps205
    go_wp2_with (go_at_call 217; refine (classOf_no h _).mono ?_; rintro e w1 ⟨rfl, hb1⟩)
    go_ret
    exact ⟨rfl, bw_alloc hb1 _⟩
  | some n =>
    rw [fnum_is h, ← great_is k, Bool.true_and]
    go_enter Tryz.func205, Tryz.ntmps205
    go_wp2_with (first | (go_at_call 217; refine (classOf_yes h _).mono ?_; rintro e w1 ⟨rfl, hb1⟩) | (go_at_call 218; refine (ghas_any h _ _ _).mono ?_; rintro e w2 ⟨rfl, hb2⟩))
    go_ret
    exact ⟨rfl, bw_trans (bw_alloc hb1 _) hb2⟩

-- END

end Go.Proofs.YtalmajiflmejcaaGreat
/- Sets of bytes as four words of 64 bits, as plain mathematics: what With, Not, Both and gather come to, and that two sets with the same bytes are one. -/
namespace Go.Proofs.YtalmajiflmejcaaGreat

structure S4 where
  a : Nat
  b : Nat
  c : Nat
  d : Nat
def S4.ok (s : S4) : Prop := s.a < 18446744073709551616 ∧ s.b < 18446744073709551616 ∧ s.c < 18446744073709551616 ∧ s.d < 18446744073709551616
def zeroS : S4 := ⟨0, 0, 0, 0⟩
def withS (s : S4) (x : Nat) : S4 :=
  if x < 64 then ⟨s.a ||| 2 ^ x, s.b, s.c, s.d⟩ else if x < 128 then ⟨s.a, s.b ||| 2 ^ (x - 64), s.c, s.d⟩
  else if x < 192 then ⟨s.a, s.b, s.c ||| 2 ^ (x - 128), s.d⟩ else ⟨s.a, s.b, s.c, s.d ||| 2 ^ (x - 192)⟩
def hasS (s : S4) (x : Nat) : Bool :=
  if x < 64 then s.a.testBit x else if x < 128 then s.b.testBit (x - 64) else if x < 192 then s.c.testBit (x - 128) else s.d.testBit (x - 192)
def mask : Nat := 18446744073709551615
def notW (x : Nat) : Nat := mask ^^^ x
def notS (s : S4) : S4 := ⟨notW s.a, notW s.b, notW s.c, notW s.d⟩
def bothS (s t : S4) : S4 := ⟨s.a ||| t.a, s.b ||| t.b, s.c ||| t.c, s.d ||| t.d⟩
def foldS (f : Int → Bool) : Nat → S4
  | 0 => zeroS
  | n + 1 => if f n then withS (foldS f n) n else foldS f n

theorem p64 : (18446744073709551616 : Nat) = 2 ^ 64 := by decide
theorem ok_zero : zeroS.ok := by unfold S4.ok zeroS; decide
theorem or_lt {x j : Nat} (hx : x < 18446744073709551616) (hj : j < 64) : x ||| 2 ^ j < 18446744073709551616 := by
  rw [p64] at *
  exact Nat.or_lt_two_pow hx (Nat.pow_lt_pow_right (by decide) hj)
theorem ok_with {s : S4} (h : s.ok) {x : Nat} (hx : x < 256) : (withS s x).ok := by
  obtain ⟨h1, h2, h3, h4⟩ := h
  unfold withS
  split
  · exact ⟨or_lt h1 (by omega), h2, h3, h4⟩
  · split
    · exact ⟨h1, or_lt h2 (by omega), h3, h4⟩
    · split
      · exact ⟨h1, h2, or_lt h3 (by omega), h4⟩
      · exact ⟨h1, h2, h3, or_lt h4 (by omega)⟩
theorem ok_fold (f : Int → Bool) : ∀ n, n ≤ 256 → (foldS f n).ok
  | 0, _ => ok_zero
  | n + 1, h => by
    unfold foldS
    split
    · exact ok_with (ok_fold f n (by omega)) (by omega)
    · exact ok_fold f n (by omega)
theorem notW_lt {x : Nat} (h : x < 18446744073709551616) : notW x < 18446744073709551616 := by
  unfold notW
  rw [p64] at *
  exact Nat.xor_lt_two_pow (by unfold mask; decide) h
theorem ok_not {s : S4} (h : s.ok) : (notS s).ok := ⟨notW_lt h.1, notW_lt h.2.1, notW_lt h.2.2.1, notW_lt h.2.2.2⟩
theorem or_lt2 {x y : Nat} (hx : x < 18446744073709551616) (hy : y < 18446744073709551616) : x ||| y < 18446744073709551616 := by
  rw [p64] at *
  exact Nat.or_lt_two_pow hx hy
theorem ok_both {s t : S4} (h : s.ok) (k : t.ok) : (bothS s t).ok := by
  obtain ⟨h1, h2, h3, h4⟩ := h
  obtain ⟨k1, k2, k3, k4⟩ := k
  exact ⟨or_lt2 h1 k1, or_lt2 h2 k2, or_lt2 h3 k3, or_lt2 h4 k4⟩

theorem xor_twice (m x : Nat) : m ^^^ (m ^^^ x) = x := by rw [← Nat.xor_assoc, Nat.xor_self, Nat.zero_xor]
theorem notW_eq (x : Nat) : notW x = mask ^^^ x := rfl
theorem notW_notW (x : Nat) : notW (notW x) = x := by rw [notW_eq, notW_eq, xor_twice]
theorem not_not (s : S4) : notS (notS s) = s := by
  unfold notS
  simp only [notW_notW]
theorem m64 : mask = 2 ^ 64 - 1 := by decide
theorem bit_not {x j : Nat} (hj : j < 64) : (notW x).testBit j = !x.testBit j := by
  unfold notW
  rw [Nat.testBit_xor, m64, Nat.testBit_two_pow_sub_one, decide_eq_true hj, Bool.true_xor]
theorem bit_or (x j k : Nat) : (x ||| 2 ^ j).testBit k = (x.testBit k || decide (j = k)) := by
  rw [Nat.testBit_or, Nat.testBit_two_pow]
theorem has_not (s : S4) {x : Nat} (hx : x < 256) : hasS (notS s) x = !hasS s x := by
  unfold hasS notS
  split
  · exact bit_not (by omega)
  · split
    · exact bit_not (by omega)
    · split
      · exact bit_not (by omega)
      · exact bit_not (by omega)
theorem has_both (s t : S4) (x : Nat) : hasS (bothS s t) x = (hasS s x || hasS t x) := by
  unfold hasS bothS
  simp only [Nat.testBit_or]
  repeat' split
  all_goals rfl
theorem has_with (s : S4) {x y : Nat} (hx : x < 256) (hy : y < 256) : hasS (withS s x) y = (hasS s y || decide (x = y)) := by
  by_cases e : x = y
  · subst e
    unfold hasS withS
    by_cases h1 : x < 64
    · simp [h1]
    · by_cases h2 : x < 128
      · simp [h1, h2]
      · by_cases h3 : x < 192
        · simp [h1, h2, h3]
        · simp [h1, h2, h3]
  · rw [decide_eq_false e, Bool.or_false]
    unfold hasS withS
    by_cases h1 : x < 64
    · rw [if_pos h1]
      repeat' split
      · rw [bit_or, decide_eq_false e, Bool.or_false]
      all_goals rfl
    · rw [if_neg h1]
      by_cases h2 : x < 128
      · rw [if_pos h2]
        split
        · rfl
        · split
          · rw [bit_or, decide_eq_false (by omega), Bool.or_false]
          · rfl
      · rw [if_neg h2]
        by_cases h3 : x < 192
        · rw [if_pos h3]
          split
          · rfl
          · split
            · rfl
            · split
              · rw [bit_or, decide_eq_false (by omega), Bool.or_false]
              · rfl
        · rw [if_neg h3]
          split
          · rfl
          · split
            · rfl
            · split
              · rfl
              · rw [bit_or, decide_eq_false (by omega), Bool.or_false]
theorem has_zero (x : Nat) : hasS zeroS x = false := by
  unfold hasS zeroS
  repeat' split
  all_goals exact Nat.zero_testBit _
theorem has_fold (f : Int → Bool) (x : Nat) : ∀ n, n ≤ 256 → x < 256 → hasS (foldS f n) x = (decide (x < n) && f x)
  | 0, _, _ => by rw [show foldS f 0 = zeroS from rfl, has_zero]; simp
  | n + 1, h, hx => by
    have ih := has_fold f x n (by omega) hx
    unfold foldS
    by_cases e : n = x
    · subst e
      cases hf : f n
      · simp only [Bool.false_eq_true, if_false]
        rw [ih, hf, Bool.and_false, Bool.and_false]
      · simp only [if_true]
        rw [has_with _ (by omega) hx]
        simp
    · have e2 : decide (x < n + 1) = decide (x < n) := by by_cases q : x < n <;> simp [q] <;> omega
      split
      · rw [has_with _ (by omega) hx, decide_eq_false e, Bool.or_false, ih, e2]
      · rw [ih, e2]
theorem has_all (f : Int → Bool) {x : Nat} (hx : x < 256) : hasS (foldS f 256) x = f x := by
  rw [has_fold f x 256 (by omega) hx, decide_eq_true hx, Bool.true_and]
theorem word_ext {x y : Nat} (hx : x < 18446744073709551616) (hy : y < 18446744073709551616) (h : ∀ j, j < 64 → x.testBit j = y.testBit j) : x = y := by
  refine Nat.eq_of_testBit_eq fun j => ?_
  by_cases hj : j < 64
  · exact h j hj
  · rw [p64] at hx hy
    have hp : 2 ^ 64 ≤ 2 ^ j := Nat.pow_le_pow_right (by decide) (by omega)
    rw [Nat.testBit_lt_two_pow (Nat.lt_of_lt_of_le hx hp), Nat.testBit_lt_two_pow (Nat.lt_of_lt_of_le hy hp)]
theorem set_ext {s t : S4} (hs : s.ok) (ht : t.ok) (h : ∀ x, x < 256 → hasS s x = hasS t x) : s = t := by
  obtain ⟨s1, s2, s3, s4⟩ := hs
  obtain ⟨t1, t2, t3, t4⟩ := ht
  have a := word_ext s1 t1 fun j hj => by have := h j (by omega); simpa [hasS, hj] using this
  have b := word_ext s2 t2 fun j hj => by
    have := h (64 + j) (by omega)
    simpa [hasS, show ¬ 64 + j < 64 from by omega, show 64 + j < 128 from by omega] using this
  have c := word_ext s3 t3 fun j hj => by
    have := h (128 + j) (by omega)
    simpa [hasS, show ¬ 128 + j < 64 from by omega, show ¬ 128 + j < 128 from by omega, show 128 + j < 192 from by omega] using this
  have d := word_ext s4 t4 fun j hj => by
    have := h (192 + j) (by omega)
    simpa [hasS, show ¬ 192 + j < 64 from by omega, show ¬ 192 + j < 128 from by omega, show ¬ 192 + j < 192 from by omega] using this
  cases s
  cases t
  simp only at a b c d
  rw [a, b, c, d]
theorem fold_congr {f g : Int → Bool} (h : ∀ x : Nat, x < 256 → f x = g x) : foldS f 256 = foldS g 256 :=
  set_ext (ok_fold f 256 (by omega)) (ok_fold g 256 (by omega)) fun x hx => by rw [has_all f hx, has_all g hx, h x hx]
/- a set has a byte just if the set with it is the set -/
theorem with_same {s : S4} (hs : s.ok) {x : Nat} (hx : x < 256) : withS s x = s ↔ hasS s x = true := by
  constructor
  · intro h
    have := has_with s hx hx
    rw [h] at this
    simpa using this
  · intro h
    refine set_ext (ok_with hs hx) hs fun y hy => ?_
    rw [has_with s hx hy]
    by_cases e : x = y
    · subst e
      simp [h]
    · simp [e]
end Go.Proofs.YtalmajiflmejcaaGreat
/- The calls of package kind on sets (Has, With, Not, Both), and the document's, return just what plain functions of the four words say, and write nothing that was there. -/
namespace Go.Proofs.YtalmajiflmejcaaGreat
open Go.ChangeShapes Go.WideShapes Go.ChangeAt Go.RowKit

theorem ret_set {a b c d a' b' c' d' : Int} (h1 : a = a') (h2 : b = b') (h3 : c = c') (h4 : d = d') :
    Ending.returned (.agg #[.int .u64 a, .int .u64 b, .int .u64 c, .int .u64 d]) = .returned (.agg #[.int .u64 a', .int .u64 b', .int .u64 c', .int .u64 d']) := by
  rw [h1, h2, h3, h4]
theorem bit_lt {j : Nat} (hj : j < 64) : 2 ^ j < 18446744073709551616 := by
  rw [p64]
  exact Nat.pow_lt_pow_right (by decide) hj
theorem wrap_bit {j : Nat} (hj : j < 64) : IntKind.u64.wrap (2 ^ j) = ((2 ^ j : Nat) : Int) := by
  have h := bit_lt hj
  rw [IntKind.wrap_u64, show ((2 : Int) ^ j) = ((2 ^ j : Nat) : Int) from by simp]
  generalize 2 ^ j = n at h
  exact Int.emod_eq_of_lt (by omega) (by omega)
theorem or_bit0 {x j : Nat} (hx : x < 18446744073709551616) (hj : j < 64) : bits BinOp.or IntKind.u64 (x : Int) (IntKind.u64.wrap (2 ^ j)) = ((x ||| 2 ^ j : Nat) : Int) := by
  rw [wrap_bit hj]
  exact u64_or_nat x (2 ^ j) hx (bit_lt hj)

theorem kWith_any (s : S4) (hs : s.ok) (x : Nat) (hx : x < 256) (w : World) :
    Calls Tryz.prog 233 #[.agg #[.int .u64 s.a, .int .u64 s.b, .int .u64 s.c, .int .u64 s.d], .int .u8 x] w fun e w' =>
      e = .returned (.agg #[.int .u64 (withS s x).a, .int .u64 (withS s x).b, .int .u64 (withS s x).c, .int .u64 (withS s x).d]) ∧ Below w.heap.size w w' := by
  obtain ⟨h1, h2, h3, h4⟩ := hs
  by_cases c1 : x < 64
  · have e : withS s x = ⟨s.a ||| 2 ^ x, s.b, s.c, s.d⟩ := by simp [withS, c1]
    rw [e]
    have q1 : (x : Int) / 64 = 0 := by omega
    have q2 : (x : Int) % 64 = x := by omega
    clear e
    go_enter Tryz.func233, Tryz.ntmps233
    go_wp2
    exact bodyPost_ret (v := .agg #[.int .u64 (bits BinOp.or IntKind.u64 (s.a : Int) (IntKind.u64.wrap (2 ^ x))), .int .u64 s.b, .int .u64 s.c, .int .u64 s.d]) (by simp [results, Tryz.results233, go_sem]) rfl ⟨ret_set (or_bit0 h1 (by omega)) rfl rfl rfl, bw_alloc (bw_alloc (Below.refl _ _) _) _⟩
  · skip
    by_cases c2 : x < 128
    · have e : withS s x = ⟨s.a, s.b ||| 2 ^ (x - 64), s.c, s.d⟩ := by simp [withS, c1, c2]
      rw [e]
      have q1 : (x : Int) / 64 = 1 := by omega
      have q2 : (x : Int) % 64 = x - 64 := by omega
      clear e
      go_enter Tryz.func233, Tryz.ntmps233
      go_wp2
      exact bodyPost_ret (v := .agg #[.int .u64 s.a, .int .u64 (bits BinOp.or IntKind.u64 (s.b : Int) (IntKind.u64.wrap (2 ^ (x - 64)))), .int .u64 s.c, .int .u64 s.d]) (by simp [results, Tryz.results233, go_sem]) rfl ⟨ret_set rfl (or_bit0 h2 (by omega)) rfl rfl, bw_alloc (bw_alloc (Below.refl _ _) _) _⟩
    · skip
      by_cases c3 : x < 192
      · have e : withS s x = ⟨s.a, s.b, s.c ||| 2 ^ (x - 128), s.d⟩ := by simp [withS, c1, c2, c3]
        rw [e]
        have q1 : (x : Int) / 64 = 2 := by omega
        have q2 : (x : Int) % 64 = x - 128 := by omega
        clear e
        go_enter Tryz.func233, Tryz.ntmps233
        go_wp2
        exact bodyPost_ret (v := .agg #[.int .u64 s.a, .int .u64 s.b, .int .u64 (bits BinOp.or IntKind.u64 (s.c : Int) (IntKind.u64.wrap (2 ^ (x - 128)))), .int .u64 s.d]) (by simp [results, Tryz.results233, go_sem]) rfl ⟨ret_set rfl rfl (or_bit0 h3 (by omega)) rfl, bw_alloc (bw_alloc (Below.refl _ _) _) _⟩
      · skip
        have e : withS s x = ⟨s.a, s.b, s.c, s.d ||| 2 ^ (x - 192)⟩ := by simp [withS, c1, c2, c3]
        rw [e]
        have q1 : (x : Int) / 64 = 3 := by omega
        have q2 : (x : Int) % 64 = x - 192 := by omega
        clear e
        go_enter Tryz.func233, Tryz.ntmps233
        go_wp2
        exact bodyPost_ret (v := .agg #[.int .u64 s.a, .int .u64 s.b, .int .u64 s.c, .int .u64 (bits BinOp.or IntKind.u64 (s.d : Int) (IntKind.u64.wrap (2 ^ (x - 192))))]) (by simp [results, Tryz.results233, go_sem]) rfl ⟨ret_set rfl rfl rfl (or_bit0 h4 (by omega)), bw_alloc (bw_alloc (Below.refl _ _) _) _⟩
-- BEGIN rWith
theorem rWith_any (s : S4) (hs : s.ok) (x : Nat) (hx : x < 256) (w : World) :
    Calls Tryz.prog 193 #[.agg #[.int .u64 s.a, .int .u64 s.b, .int .u64 s.c, .int .u64 s.d], .int .u8 x] w fun e w' =>
      e = .returned (.agg #[.int .u64 (withS s x).a, .int .u64 (withS s x).b, .int .u64 (withS s x).c, .int .u64 (withS s x).d]) ∧ Below w.heap.size w w' := by
  obtain ⟨h1, h2, h3, h4⟩ := hs
  by_cases c1 : x < 64
  · have e : withS s x = ⟨s.a ||| 2 ^ x, s.b, s.c, s.d⟩ := by simp [withS, c1]
    rw [e]
    have q1 : (x : Int) / 64 = 0 := by omega
    have q2 : (x : Int) % 64 = x := by omega
    clear e
    go_enter Tryz.func193, Tryz.ntmps193
    go_wp2
    exact bodyPost_ret (v := .agg #[.int .u64 (bits BinOp.or IntKind.u64 (s.a : Int) (IntKind.u64.wrap (2 ^ x))), .int .u64 s.b, .int .u64 s.c, .int .u64 s.d]) (by simp [results, Tryz.results193, go_sem]) rfl ⟨ret_set (or_bit0 h1 (by omega)) rfl rfl rfl, bw_alloc (bw_alloc (Below.refl _ _) _) _⟩
  · skip
    by_cases c2 : x < 128
    · have e : withS s x = ⟨s.a, s.b ||| 2 ^ (x - 64), s.c, s.d⟩ := by simp [withS, c1, c2]
      rw [e]
      have q1 : (x : Int) / 64 = 1 := by omega
      have q2 : (x : Int) % 64 = x - 64 := by omega
      clear e
      go_enter Tryz.func193, Tryz.ntmps193
      go_wp2
      exact bodyPost_ret (v := .agg #[.int .u64 s.a, .int .u64 (bits BinOp.or IntKind.u64 (s.b : Int) (IntKind.u64.wrap (2 ^ (x - 64)))), .int .u64 s.c, .int .u64 s.d]) (by simp [results, Tryz.results193, go_sem]) rfl ⟨ret_set rfl (or_bit0 h2 (by omega)) rfl rfl, bw_alloc (bw_alloc (Below.refl _ _) _) _⟩
    · skip
      by_cases c3 : x < 192
      · have e : withS s x = ⟨s.a, s.b, s.c ||| 2 ^ (x - 128), s.d⟩ := by simp [withS, c1, c2, c3]
        rw [e]
        have q1 : (x : Int) / 64 = 2 := by omega
        have q2 : (x : Int) % 64 = x - 128 := by omega
        clear e
        go_enter Tryz.func193, Tryz.ntmps193
        go_wp2
        exact bodyPost_ret (v := .agg #[.int .u64 s.a, .int .u64 s.b, .int .u64 (bits BinOp.or IntKind.u64 (s.c : Int) (IntKind.u64.wrap (2 ^ (x - 128)))), .int .u64 s.d]) (by simp [results, Tryz.results193, go_sem]) rfl ⟨ret_set rfl rfl (or_bit0 h3 (by omega)) rfl, bw_alloc (bw_alloc (Below.refl _ _) _) _⟩
      · skip
        have e : withS s x = ⟨s.a, s.b, s.c, s.d ||| 2 ^ (x - 192)⟩ := by simp [withS, c1, c2, c3]
        rw [e]
        have q1 : (x : Int) / 64 = 3 := by omega
        have q2 : (x : Int) % 64 = x - 192 := by omega
        clear e
        go_enter Tryz.func193, Tryz.ntmps193
        go_wp2
        exact bodyPost_ret (v := .agg #[.int .u64 s.a, .int .u64 s.b, .int .u64 s.c, .int .u64 (bits BinOp.or IntKind.u64 (s.d : Int) (IntKind.u64.wrap (2 ^ (x - 192))))]) (by simp [results, Tryz.results193, go_sem]) rfl ⟨ret_set rfl rfl rfl (or_bit0 h4 (by omega)), bw_alloc (bw_alloc (Below.refl _ _) _) _⟩
-- END

theorem sgn : IntKind.u64.signed = false := rfl
theorem not_word {x : Nat} (hx : x < 18446744073709551616) : bits BinOp.xor IntKind.u64 IntKind.u64.max (x : Int) = ((notW x : Nat) : Int) := by
  rw [show IntKind.u64.max = ((mask : Nat) : Int) from by decide, u64_xor_nat mask x (by unfold mask; decide) hx, notW_eq]
theorem rNot_any (s : S4) (hs : s.ok) (w : World) :
    Calls Tryz.prog 189 #[.agg #[.int .u64 s.a, .int .u64 s.b, .int .u64 s.c, .int .u64 s.d]] w fun e w' =>
      e = .returned (.agg #[.int .u64 (notS s).a, .int .u64 (notS s).b, .int .u64 (notS s).c, .int .u64 (notS s).d]) ∧ Below w.heap.size w w' := by
  have hsg := sgn
  go_enter Tryz.func189, Tryz.ntmps189
  go_wp2
  refine wp_loop_rounds 5 ?_
  rw [rounds_succ]
  go_wp2
  rw [rounds_succ]
  go_wp2
  rw [rounds_succ]
  go_wp2
  rw [rounds_succ]
  go_wp2
  rw [rounds_succ]
  go_wp2
  exact bodyPost_ret (v := .agg #[.int .u64 (bits BinOp.xor IntKind.u64 IntKind.u64.max s.a), .int .u64 (bits BinOp.xor IntKind.u64 IntKind.u64.max s.b), .int .u64 (bits BinOp.xor IntKind.u64 IntKind.u64.max s.c), .int .u64 (bits BinOp.xor IntKind.u64 IntKind.u64.max s.d)]) (by simp [results, Tryz.results189, go_sem]) rfl
    ⟨ret_set (not_word hs.1) (not_word hs.2.1) (not_word hs.2.2.1) (not_word hs.2.2.2), bw_alloc (bw_alloc (Below.refl _ _) _) _⟩
-- END
-- BEGIN rBoth
theorem rBoth_any (s t : S4) (hs : s.ok) (ht : t.ok) (w : World) :
    Calls Tryz.prog 191 #[.agg #[.int .u64 s.a, .int .u64 s.b, .int .u64 s.c, .int .u64 s.d], .agg #[.int .u64 t.a, .int .u64 t.b, .int .u64 t.c, .int .u64 t.d]] w fun e w' =>
      e = .returned (.agg #[.int .u64 (bothS s t).a, .int .u64 (bothS s t).b, .int .u64 (bothS s t).c, .int .u64 (bothS s t).d]) ∧ Below w.heap.size w w' := by
  have hsg := sgn
  go_enter Tryz.func191, Tryz.ntmps191
  go_wp2
  refine wp_loop_rounds 5 ?_
  rw [rounds_succ]
  go_wp2
  go_region
  go_wp2
  rw [rounds_succ]
  go_wp2
  go_region
  go_wp2
  rw [rounds_succ]
  go_wp2
  go_region
  go_wp2
  rw [rounds_succ]
  go_wp2
  go_region
  go_wp2
  rw [rounds_succ]
  go_wp2
  exact bodyPost_ret (v := .agg #[.int .u64 (bits BinOp.or IntKind.u64 s.a t.a), .int .u64 (bits BinOp.or IntKind.u64 s.b t.b), .int .u64 (bits BinOp.or IntKind.u64 s.c t.c), .int .u64 (bits BinOp.or IntKind.u64 s.d t.d)]) (by simp [results, Tryz.results191, go_sem]) rfl
    ⟨ret_set (u64_or_nat _ _ hs.1 ht.1) (u64_or_nat _ _ hs.2.1 ht.2.1) (u64_or_nat _ _ hs.2.2.1 ht.2.2.1) (u64_or_nat _ _ hs.2.2.2 ht.2.2.2), by repeat (first | exact Below.refl _ _ | refine Below.drew ?_ | refine bw_alloc ?_ _)⟩
-- END
theorem bit_shown {n j : Nat} (hn : n < 18446744073709551616) : (bits BinOp.and IntKind.u64 ((n : Int) / 2 ^ j) 1 == 1) = n.testBit j := by
  have h : n / 2 ^ j < 18446744073709551616 := Nat.lt_of_le_of_lt (Nat.div_le_self _ _) hn
  rw [show ((n : Int) / 2 ^ j) = ((n / 2 ^ j : Nat) : Int) from by simp, show (1 : Int) = ((1 : Nat) : Int) from rfl, u64_and_nat (n / 2 ^ j) 1 h (by decide), nat_mask1, Nat.testBit_eq_decide_div_mod_eq, Bool.eq_iff_iff]
  simp only [beq_iff_eq, decide_eq_true_eq]
  omega
theorem bcell {W w1 : World} (hb : Below W.heap.size W w1) : (∀ b o, b < W.heap.size → w1.cell? ⟨b, o, none⟩ = W.cell? ⟨b, o, none⟩) ∧ (∀ b o, b < W.heap.size → w1.frozen? ⟨b, o, none⟩ = W.frozen? ⟨b, o, none⟩) :=
  ⟨fun b o h => hb.cell (p := ⟨b, o, none⟩) h, fun b o h => hb.frozen (p := ⟨b, o, none⟩) h⟩
theorem eq_set (a b c d a' b' c' d' : Int) (w : World) : (Op.equalIn 10000 108 (.agg #[.int .u64 a, .int .u64 b, .int .u64 c, .int .u64 d]) (.agg #[.int .u64 a', .int .u64 b', .int .u64 c', .int .u64 d'])).run Tryz.prog w = .ok (a == a' && b == b' && c == c' && d == d') w := by
  have u3 := Tryz.underlying106
  have a3 := Tryz.isAgg106
  have z3 := Tryz.sizeOf106
  rw [show (10000 : Nat) = 9999 + 1 from rfl, Op.equalIn]
  simp only [Sem.run_bind, run_underlying Tryz.underlying108, Result.andThen_ok]
  simp only [Std.Legacy.Range.forIn_eq_forIn_range', Std.Legacy.Range.size, Nat.sub_zero, Nat.add_sub_cancel, Nat.div_one, List.range'_succ, List.range'_zero, List.forIn_cons, List.forIn_nil]
  go_simp
  by_cases h1 : a = a' <;> by_cases h2 : b = b' <;> by_cases h3 : c = c' <;> by_cases h4 : d = d' <;> simp [h1, h2, h3, h4]
theorem eq_has (s : S4) (hs : s.ok) (x : Nat) (hx : x < 256) : (((withS s x).a : Int) == s.a && ((withS s x).b : Int) == s.b && ((withS s x).c : Int) == s.c && ((withS s x).d : Int) == s.d) = hasS s x := by
  rw [Bool.eq_iff_iff, ← with_same hs hx]
  simp only [Bool.and_eq_true, beq_iff_eq, Int.natCast_inj]
  constructor
  · rintro ⟨⟨⟨h1, h2⟩, h3⟩, h4⟩
    generalize withS s x = t at *
    cases s
    cases t
    simp_all
  · intro h
    rw [h]
    exact ⟨⟨⟨rfl, rfl⟩, rfl⟩, rfl⟩
theorem kHas_any (s : S4) (hs : s.ok) (x : Nat) (hx : x < 256) (w : World) :
    Calls Tryz.prog 224 #[.agg #[.int .u64 s.a, .int .u64 s.b, .int .u64 s.c, .int .u64 s.d], .int .u8 x] w fun e w' =>
      e = .returned (.bool (hasS s x)) ∧ Below w.heap.size w w' := by
  have hq := eq_set
  have he := eq_has s hs x hx
  go_enter Tryz.func224, Tryz.ntmps224
  go_wp2
  go_region_with (go_at_call 233; refine (kWith_any s hs x hx _).mono ?_; rintro e w1 ⟨rfl, hb⟩; obtain ⟨hc, hf⟩ := bcell hb)
  all_goals
    go_wp2
    go_ret
    exact ⟨rfl, bw_trans (Below.drew (bw_alloc (Below.refl _ _) _)) hb⟩
-- BEGIN rHas
theorem rHas_any (s : S4) (hs : s.ok) (x : Nat) (hx : x < 256) (w : World) :
    Calls Tryz.prog 121 #[.agg #[.int .u64 s.a, .int .u64 s.b, .int .u64 s.c, .int .u64 s.d], .int .u8 x] w fun e w' =>
      e = .returned (.bool (hasS s x)) ∧ Below w.heap.size w w' := by
  obtain ⟨h1, h2, h3, h4⟩ := hs
  by_cases c1 : x < 64
  · have e : hasS s x = (bits BinOp.and IntKind.u64 ((s.a : Int) / 2 ^ x) 1 == 1) := by
      rw [bit_shown h1]
      simp [hasS, c1]
    rw [e]
    clear e
    have q1 : (x : Int) / 64 = 0 := by omega
    have q2 : (x : Int) % 64 = x := by omega
    go_enter Tryz.func121, Tryz.ntmps121
    go_wp2
    go_ret
    exact ⟨rfl, bw_alloc (Below.refl _ _) _⟩
  · skip
    by_cases c2 : x < 128
    · have e : hasS s x = (bits BinOp.and IntKind.u64 ((s.b : Int) / 2 ^ (x - 64)) 1 == 1) := by
        rw [bit_shown h2]
        simp [hasS, c1, c2]
      rw [e]
      clear e
      have q1 : (x : Int) / 64 = 1 := by omega
      have q2 : (x : Int) % 64 = x - 64 := by omega
      go_enter Tryz.func121, Tryz.ntmps121
      go_wp2
      go_ret
      exact ⟨rfl, bw_alloc (Below.refl _ _) _⟩
    · skip
      by_cases c3 : x < 192
      · have e : hasS s x = (bits BinOp.and IntKind.u64 ((s.c : Int) / 2 ^ (x - 128)) 1 == 1) := by
          rw [bit_shown h3]
          simp [hasS, c1, c2, c3]
        rw [e]
        clear e
        have q1 : (x : Int) / 64 = 2 := by omega
        have q2 : (x : Int) % 64 = x - 128 := by omega
        go_enter Tryz.func121, Tryz.ntmps121
        go_wp2
        go_ret
        exact ⟨rfl, bw_alloc (Below.refl _ _) _⟩
      · skip
        have e : hasS s x = (bits BinOp.and IntKind.u64 ((s.d : Int) / 2 ^ (x - 192)) 1 == 1) := by
          rw [bit_shown h4]
          simp [hasS, c1, c2, c3]
        rw [e]
        clear e
        have q1 : (x : Int) / 64 = 3 := by omega
        have q2 : (x : Int) % 64 = x - 192 := by omega
        go_enter Tryz.func121, Tryz.ntmps121
        go_wp2
        go_ret
        exact ⟨rfl, bw_alloc (Below.refl _ _) _⟩
-- END

theorem u64_range {n : Int} (h : (Lit.int .u64 n).wf = true) : ∃ k : Nat, n = k ∧ k < 18446744073709551616 := by
  have := bounds_u64 h
  exact ⟨n.toNat, by omega, by omega⟩
theorem u8_range {n : Int} (h : (Lit.int .u8 n).wf = true) : ∃ k : Nat, n = k ∧ k < 256 := by
  have := bounds_u8 h
  exact ⟨n.toNat, by omega, by omega⟩
theorem Tryz.cellsWord : Tryz.prog.cellsOf 106 = 1 := by kernel_rfl
theorem Tryz.cellsSet : Tryz.prog.cellsOf 108 = 4 := by kernel_rfl
theorem arr4 {cs : Array Value} (h : cs.size = 4) : ∃ a b c d, cs = #[a, b, c, d] := by
  obtain ⟨l⟩ := cs
  match l, h with
  | [a, b, c, d], _ => exact ⟨a, b, c, d, rfl⟩
/- a set that is handed in is four words -/
set_option maxRecDepth 100000 in
theorem set_form {H : Type} {enc : TypeId × Value → H} {W : World} {r : Reach} {b0 base : Nat} {spare : Nat → Bool} {held : Bool} {v : Value} {d : DataW H} {p : List MemPlace}
    (hv : Value.okWide Tryz.prog W r b0 108 v) (h : DataW.Trod enc Tryz.prog W base spare held 108 v d p) :
    ∃ s : S4, s.ok ∧ v = .agg #[.int .u64 s.a, .int .u64 s.b, .int .u64 s.c, .int .u64 s.d] := by
  simp only [Value.okWide, Tryz.underlying108] at hv
  obtain ⟨cs, rfl, hsz, _⟩ := hv
  obtain ⟨c0, c1, c2, c3, rfl⟩ := arr4 (hsz.trans Tryz.cellsSet)
  obtain ⟨fuel, hf⟩ := h
  obtain ⟨xs, m, rfl, _, _, hl, hi⟩ := DataW.trod_array Tryz.underlying108 hf
  match xs, hl with
  | [x0, x1, x2, x3], _ =>
    have y0 := hi 0 (by omega)
    have y1 := hi 1 (by omega)
    have y2 := hi 2 (by omega)
    have y3 := hi 3 (by omega)
    simp [Value.cells, Tryz.cellsWord] at y0 y1 y2 y3
    obtain ⟨n0, e0, _, w0⟩ := DataW.trod_int Tryz.underlying106 y0
    obtain ⟨n1, e1, _, w1⟩ := DataW.trod_int Tryz.underlying106 y1
    obtain ⟨n2, e2, _, w2⟩ := DataW.trod_int Tryz.underlying106 y2
    obtain ⟨n3, e3, _, w3⟩ := DataW.trod_int Tryz.underlying106 y3
    obtain ⟨k0, rfl, l0⟩ := u64_range w0
    obtain ⟨k1, rfl, l1⟩ := u64_range w1
    obtain ⟨k2, rfl, l2⟩ := u64_range w2
    obtain ⟨k3, rfl, l3⟩ := u64_range w3
    simp only [List.cons.injEq, and_true] at e0 e1 e2 e3
    subst e0 e1 e2 e3
    exact ⟨⟨k0, k1, k2, k3⟩, ⟨l0, l1, l2, l3⟩, rfl⟩
theorem keepB {B : Nat} {W0 W w2 : World} (hB : B ≤ W0.heap.size) (h : Below B W0 W) (hb : Below W.heap.size W w2) : Below B W0 w2 := h.trans (hb.mono (Nat.le_trans hB h.size))
theorem set_refl (s : S4) : ((s.a : Int) == s.a && (s.b : Int) == s.b && (s.c : Int) == s.c && (s.d : Int) == s.d) = true := by simp
def Box (w : World) (b : Nat) (s : S4) : Prop :=
  w.cell? ⟨b, 0, none⟩ = some (.int .u64 s.a) ∧ w.cell? ⟨b, 1, none⟩ = some (.int .u64 s.b) ∧ w.cell? ⟨b, 2, none⟩ = some (.int .u64 s.c) ∧ w.cell? ⟨b, 3, none⟩ = some (.int .u64 s.d)
theorem box_new (w : World) (s : S4) (t : TypeId) : Box (w.alloc (.cells #[.int .u64 s.a, .int .u64 s.b, .int .u64 s.c, .int .u64 s.d] t)) w.heap.size s := by
  unfold Box
  refine ⟨?_, ?_, ?_, ?_⟩ <;> go_simp
theorem Box.below {B : Nat} {W W' : World} {b : Nat} {s : S4} (h : Box W b s) (hb : Below B W W') (hB : b < B) : Box W' b s :=
  ⟨(hb.cell (p := ⟨b, 0, none⟩) hB).trans h.1, (hb.cell (p := ⟨b, 1, none⟩) hB).trans h.2.1, (hb.cell (p := ⟨b, 2, none⟩) hB).trans h.2.2.1, (hb.cell (p := ⟨b, 3, none⟩) hB).trans h.2.2.2⟩
theorem size_alloc (w : World) (o : Obj) : (w.alloc o).heap.size = w.heap.size + 1 := by
  show (w.heap.push _).size = _
  simp
theorem Box.alloc {w : World} {b : Nat} {s : S4} (h : Box w b s) (hb : b < w.heap.size) (o : Obj) : Box (w.alloc o) b s := h.below (bw_alloc (Below.refl _ _) o) hb

end Go.Proofs.YtalmajiflmejcaaGreat
/- gather of package kind makes just the set of the bytes for which its function says yes, and writes nothing that was there. -/
namespace Go.Proofs.YtalmajiflmejcaaGreat
open Go.ChangeShapes Go.WideShapes Go.ChangeAt Go.RowKit

structure Open (w : World) (b : Nat) : Prop where
  f0 : w.frozen? ⟨b, 0, none⟩ = false
  f1 : w.frozen? ⟨b, 1, none⟩ = false
  f2 : w.frozen? ⟨b, 2, none⟩ = false
  f3 : w.frozen? ⟨b, 3, none⟩ = false
theorem Open.below {B : Nat} {W W' : World} {b : Nat} (h : Open W b) (hb : Below B W W') (hB : b < B) : Open W' b :=
  ⟨(hb.frozen (p := ⟨b, 0, none⟩) hB).trans h.f0, (hb.frozen (p := ⟨b, 1, none⟩) hB).trans h.f1, (hb.frozen (p := ⟨b, 2, none⟩) hB).trans h.f2, (hb.frozen (p := ⟨b, 3, none⟩) hB).trans h.f3⟩
theorem open_new (w : World) (cs : Array Value) (t : TypeId) : Open (w.alloc (.cells cs t)) w.heap.size := by
  constructor <;> go_simp
def put4 (w : World) (b : Nat) (s : S4) : World :=
  (((w.setCell ⟨b, 0, none⟩ (.int .u64 s.a)).setCell ⟨b, 1, none⟩ (.int .u64 s.b)).setCell ⟨b, 2, none⟩ (.int .u64 s.c)).setCell ⟨b, 3, none⟩ (.int .u64 s.d)
theorem far {b c i j : Nat} (h : b ≠ c ∨ i ≠ j) : (⟨b, i, none⟩ : Addr) ≠ ⟨c, j, none⟩ := by
  intro e
  simp only [Addr.mk.injEq, and_true] at e
  omega
theorem cell_put4 (w : World) (b c i : Nat) (s : S4) (h : b ≠ c) : (put4 w b s).cell? ⟨c, i, none⟩ = w.cell? ⟨c, i, none⟩ := by
  unfold put4
  rw [World.cell?_setCell_other _ _ _ _ (far (.inl h)), World.cell?_setCell_other _ _ _ _ (far (.inl h)), World.cell?_setCell_other _ _ _ _ (far (.inl h)), World.cell?_setCell_other _ _ _ _ (far (.inl h))]
theorem frozen_put4 (w : World) (b : Nat) (s : S4) (a : Addr) : (put4 w b s).frozen? a = w.frozen? a := by
  unfold put4
  simp only [World.frozen?_setCell]
theorem size_put4 (w : World) (b : Nat) (s : S4) : (put4 w b s).heap.size = w.heap.size := by
  unfold put4
  simp only [World.size_setCell]
theorem Box.put4 {w : World} {b : Nat} {t : S4} (h : Box w b t) (s : S4) : Box (put4 w b s) b s := by
  obtain ⟨h0, h1, h2, h3⟩ := h
  unfold Go.Proofs.YtalmajiflmejcaaGreat.put4
  refine ⟨?_, ?_, ?_, ?_⟩
  · rw [World.cell?_setCell_other _ _ _ _ (far (.inr (by decide))), World.cell?_setCell_other _ _ _ _ (far (.inr (by decide))), World.cell?_setCell_other _ _ _ _ (far (.inr (by decide)))]
    exact World.cell?_setCell_same _ _ _ h0
  · rw [World.cell?_setCell_other _ _ _ _ (far (.inr (by decide))), World.cell?_setCell_other _ _ _ _ (far (.inr (by decide)))]
    exact World.cell?_setCell_same _ _ _ (by rw [World.cell?_setCell_other _ _ _ _ (far (.inr (by decide)))]; exact h1)
  · rw [World.cell?_setCell_other _ _ _ _ (far (.inr (by decide)))]
    exact World.cell?_setCell_same _ _ _ (by rw [World.cell?_setCell_other _ _ _ _ (far (.inr (by decide))), World.cell?_setCell_other _ _ _ _ (far (.inr (by decide)))]; exact h2)
  · exact World.cell?_setCell_same _ _ _ (by rw [World.cell?_setCell_other _ _ _ _ (far (.inr (by decide))), World.cell?_setCell_other _ _ _ _ (far (.inr (by decide))), World.cell?_setCell_other _ _ _ _ (far (.inr (by decide)))]; exact h3)
theorem below_put4 {B : Nat} {W w : World} (h : Below B W w) {b : Nat} (hb : B ≤ b) (s : S4) : Below B W (put4 w b s) :=
  (((h.setCell (p := ⟨b, 0, none⟩) hb _).setCell (p := ⟨b, 1, none⟩) hb _).setCell (p := ⟨b, 2, none⟩) hb _).setCell (p := ⟨b, 3, none⟩) hb _
/- what holds at the head of each round: the result's box, the set's box, nothing that was there has turned -/
structure Inv (w wr : World) (s : S4) : Prop where
  s : Box wr (w.heap.size + 1) s
  r : Box wr w.heap.size zeroS
  fs : Open wr (w.heap.size + 1)
  fr : Open wr w.heap.size
  bw : Below w.heap.size w wr
  sz : w.heap.size + 2 ≤ wr.heap.size
theorem Inv.below {w wr w1 : World} {s : S4} (h : Inv w wr s) (hb : Below wr.heap.size wr w1) : Inv w w1 s :=
  ⟨h.s.below hb (by have := h.sz; omega), h.r.below hb (by have := h.sz; omega), h.fs.below hb (by have := h.sz; omega), h.fr.below hb (by have := h.sz; omega), h.bw.trans (hb.mono h.bw.size), Nat.le_trans h.sz hb.size⟩
theorem Inv.put {w wr : World} {s : S4} (h : Inv w wr s) (t : S4) : Inv w (put4 wr (w.heap.size + 1) t) t :=
  ⟨h.s.put4 t, ⟨(cell_put4 _ _ _ _ _ (by omega)).trans h.r.1, (cell_put4 _ _ _ _ _ (by omega)).trans h.r.2.1, (cell_put4 _ _ _ _ _ (by omega)).trans h.r.2.2.1, (cell_put4 _ _ _ _ _ (by omega)).trans h.r.2.2.2⟩,
    ⟨(frozen_put4 _ _ _ _).trans h.fs.f0, (frozen_put4 _ _ _ _).trans h.fs.f1, (frozen_put4 _ _ _ _).trans h.fs.f2, (frozen_put4 _ _ _ _).trans h.fs.f3⟩,
    ⟨(frozen_put4 _ _ _ _).trans h.fr.f0, (frozen_put4 _ _ _ _).trans h.fr.f1, (frozen_put4 _ _ _ _).trans h.fr.f2, (frozen_put4 _ _ _ _).trans h.fr.f3⟩,
    below_put4 h.bw (by omega) t, by rw [size_put4]; exact h.sz⟩
theorem inv_start (w : World) (t : TypeId) : Inv w ((w.alloc (.cells #[.int .u64 0, .int .u64 0, .int .u64 0, .int .u64 0] t)).alloc (.cells #[.int .u64 0, .int .u64 0, .int .u64 0, .int .u64 0] t)) zeroS := by
  have b1 := box_new w zeroS t
  have b2 := box_new (w.alloc (.cells #[.int .u64 0, .int .u64 0, .int .u64 0, .int .u64 0] t)) zeroS t
  have o1 := open_new w #[.int .u64 0, .int .u64 0, .int .u64 0, .int .u64 0] t
  have o2 := open_new (w.alloc (.cells #[.int .u64 0, .int .u64 0, .int .u64 0, .int .u64 0] t)) #[.int .u64 0, .int .u64 0, .int .u64 0, .int .u64 0] t
  rw [size_alloc] at b2 o2
  exact ⟨b2, b1.alloc (by simp only [size_alloc]; omega) _, o2, o1.below (bw_alloc (Below.refl _ _) _) (by simp only [size_alloc]; omega), bw_alloc (bw_alloc (Below.refl _ _) _) _, by simp only [size_alloc]; omega⟩
theorem fold_no {f : Int → Bool} {k : Nat} (h : f k = false) : foldS f (k + 1) = foldS f k := by simp [foldS, h]
theorem fold_yes {f : Int → Bool} {k : Nat} (h : f k = true) : foldS f (k + 1) = withS (foldS f k) k := by simp [foldS, h]

end Go.Proofs.YtalmajiflmejcaaGreat
/- Of of package kind returns just the set of the bytes of its class (or nothing, false), and so does the document's; neither writes anything that was there. -/
namespace Go.Proofs.YtalmajiflmejcaaGreat
open Go.ChangeShapes Go.WideShapes Go.ChangeAt Go.RowKit

theorem isB_no {k : Int} (h : fnum (smI k) = none) (c : Int) : isB k c = false := by
  unfold isB
  rw [fnum_none h, Bool.false_and]
theorem fold_none {f : Int → Bool} (h : ∀ c, f c = false) : ∀ n, foldS f n = zeroS
  | 0 => rfl
  | n + 1 => by unfold foldS; rw [h n, fold_none h n]; rfl
set_option maxRecDepth 100000 in
theorem rOf_any (k : Int) (w : World) :
    Calls Tryz.prog 170 #[.int .u8 k] w fun e w' =>
      e = .returned (.tuple #[.agg #[.int .u64 (foldS (isB k) 256).a, .int .u64 (foldS (isB k) 256).b, .int .u64 (foldS (isB k) 256).c, .int .u64 (foldS (isB k) 256).d], .bool (knB (smI k))]) ∧ Below w.heap.size w w' := by
  go_enter Tryz.func170, Tryz.ntmps170
  go_wp2
  go_loopw [5] (fun i wr => ∃ j : Nat, j ≤ 256 ∧ i = .int .i64 j ∧ Inv w wr (foldS (isB k) j)) (fun i _ => 256 - (intOf i).toNat)
  case atStart => exact ⟨0, Nat.zero_le _, rfl, inv_start w 108⟩
  case round =>
    obtain ⟨j, hj, rfl, hI⟩ := hrel
    by_cases hlt : j < 256
    · cases hf : isB k j
      · have HF : Hid (foldS (isB k) (j + 1) = foldS (isB k) j) := fold_no hf
        go_wp2_with fail
        refine (rIs_any _ _ _).mono ?_
        rintro e w1 ⟨rfl, rfl⟩
        go_wp2
        go_roundw
        case rel => exact ⟨j + 1, by omega, by go_num, by rw [HF.out]; exact hI⟩
        case measure => simp [intOf]; omega
      · have HF : Hid (foldS (isB k) (j + 1) = withS (foldS (isB k) j) j) := fold_yes hf
        obtain ⟨c0, c1, c2, c3⟩ := hI.s
        go_wp2_with fail
        refine (rIs_any _ _ _).mono ?_
        rintro e w1 ⟨rfl, rfl⟩
        go_wp2_with fail
        refine (rWith_any (foldS (isB k) j) (ok_fold _ j hj) j hlt _).mono ?_
        rintro e w2 ⟨rfl, hb2⟩
        have hI2 := hI.below hb2
        obtain ⟨d0, d1, d2, d3⟩ := hI2.s
        obtain ⟨f0, f1, f2, f3⟩ := hI2.fs
        clear c0 c1 c2 c3
        go_wp2
        go_roundw
        case rel => exact ⟨j + 1, by omega, by go_num, by rw [HF.out]; exact hI2.put _⟩
        case measure => simp [intOf]; omega
    · have hk2 : j = 256 := by omega
      subst hk2
      obtain ⟨c0, c1, c2, c3⟩ := hI.s
      obtain ⟨d0, d1, d2, d3⟩ := hI.r
      obtain ⟨f0, f1, f2, f3⟩ := hI.fr
      go_wp2
      go_region_with (go_at_call 195; refine (rKnown_any _ _).mono ?_; rintro e w1 ⟨rfl, rfl⟩)
      all_goals
        go_wp2
        obtain ⟨r0, r1, r2, r3⟩ := hI.r.put4 (foldS (isB k) 256)
        have hbl := (below_put4 hI.bw (Nat.le_refl _) (foldS (isB k) 256)).drew
        show bodyPost _ _ _ _ _ (put4 _ w.heap.size (foldS (isB k) 256)).drew
        generalize put4 _ w.heap.size (foldS (isB k) 256) = wz at *
        generalize foldS (isB k) 256 = s at *
        exact bodyPost_ret (v := .tuple #[.agg #[.int .u64 s.a, .int .u64 s.b, .int .u64 s.c, .int .u64 s.d], .bool (knB (smI k))]) (by simp [results, Tryz.results170, go_sem, r0, r1, r2, r3]) rfl ⟨rfl, hbl⟩
-- END
end Go.Proofs.YtalmajiflmejcaaGreat
/- Named of package kind returns just the set of the bytes of its name (or nothing, false), and so does the document's; neither writes anything that was there. -/
namespace Go.Proofs.YtalmajiflmejcaaGreat
open Go.ChangeShapes Go.WideShapes Go.ChangeAt Go.RowKit

/-- the test of a name -/
def nmN (l : List UInt8) : Option Nat :=
  if l = [97, 108, 112, 104, 97] then some 90000 else if l = [100, 105, 103, 105, 116] then some 90001 else if l = [97, 108, 110, 117, 109] then some 90002 else if l = [108, 111, 119, 101, 114] then some 90003 else if l = [117, 112, 112, 101, 114] then some 90004 else if l = [98, 108, 97, 110, 107] then some 90005 else if l = [115, 112, 97, 99, 101] then some 90006 else if l = [120, 100, 105, 103, 105, 116] then some 90007 else if l = [99, 110, 116, 114, 108] then some 90008 else if l = [112, 117, 110, 99, 116] then some 90009 else none
def nmB (l : List UInt8) (c : Int) : Bool :=
  if l = [97, 108, 112, 104, 97] then letB c else if l = [100, 105, 103, 105, 116] then digB c else if l = [97, 108, 110, 117, 109] then ladB c else if l = [108, 111, 119, 101, 114] then smlB c else if l = [117, 112, 112, 101, 114] then grtB c else if l = [98, 108, 97, 110, 107] then blkB c else if l = [115, 112, 97, 99, 101] then spcB c else if l = [120, 100, 105, 103, 105, 116] then hexB c else if l = [99, 110, 116, 114, 108] then ctlB c else if l = [112, 117, 110, 99, 116] then pctB c else false
def nmK (l : List UInt8) : Bool := (nmN l).isSome
theorem nm_some {l : List UInt8} {n : Nat} (h : nmN l = some n) : (l = [97, 108, 112, 104, 97] ∧ n = 90000) ∨ (l = [100, 105, 103, 105, 116] ∧ n = 90001) ∨ (l = [97, 108, 110, 117, 109] ∧ n = 90002) ∨ (l = [108, 111, 119, 101, 114] ∧ n = 90003) ∨ (l = [117, 112, 112, 101, 114] ∧ n = 90004) ∨ (l = [98, 108, 97, 110, 107] ∧ n = 90005) ∨ (l = [115, 112, 97, 99, 101] ∧ n = 90006) ∨ (l = [120, 100, 105, 103, 105, 116] ∧ n = 90007) ∨ (l = [99, 110, 116, 114, 108] ∧ n = 90008) ∨ (l = [112, 117, 110, 99, 116] ∧ n = 90009) := by
  unfold nmN at h
  by_cases h0 : l = [97, 108, 112, 104, 97]
  · rw [if_pos h0] at h
    cases h
    exact .inl ⟨h0, rfl⟩
  rw [if_neg h0] at h
  by_cases h1 : l = [100, 105, 103, 105, 116]
  · rw [if_pos h1] at h
    cases h
    exact .inr (.inl ⟨h1, rfl⟩)
  rw [if_neg h1] at h
  by_cases h2 : l = [97, 108, 110, 117, 109]
  · rw [if_pos h2] at h
    cases h
    exact .inr (.inr (.inl ⟨h2, rfl⟩))
  rw [if_neg h2] at h
  by_cases h3 : l = [108, 111, 119, 101, 114]
  · rw [if_pos h3] at h
    cases h
    exact .inr (.inr (.inr (.inl ⟨h3, rfl⟩)))
  rw [if_neg h3] at h
  by_cases h4 : l = [117, 112, 112, 101, 114]
  · rw [if_pos h4] at h
    cases h
    exact .inr (.inr (.inr (.inr (.inl ⟨h4, rfl⟩))))
  rw [if_neg h4] at h
  by_cases h5 : l = [98, 108, 97, 110, 107]
  · rw [if_pos h5] at h
    cases h
    exact .inr (.inr (.inr (.inr (.inr (.inl ⟨h5, rfl⟩)))))
  rw [if_neg h5] at h
  by_cases h6 : l = [115, 112, 97, 99, 101]
  · rw [if_pos h6] at h
    cases h
    exact .inr (.inr (.inr (.inr (.inr (.inr (.inl ⟨h6, rfl⟩))))))
  rw [if_neg h6] at h
  by_cases h7 : l = [120, 100, 105, 103, 105, 116]
  · rw [if_pos h7] at h
    cases h
    exact .inr (.inr (.inr (.inr (.inr (.inr (.inr (.inl ⟨h7, rfl⟩)))))))
  rw [if_neg h7] at h
  by_cases h8 : l = [99, 110, 116, 114, 108]
  · rw [if_pos h8] at h
    cases h
    exact .inr (.inr (.inr (.inr (.inr (.inr (.inr (.inr (.inl ⟨h8, rfl⟩))))))))
  rw [if_neg h8] at h
  by_cases h9 : l = [112, 117, 110, 99, 116]
  · rw [if_pos h9] at h
    cases h
    exact .inr (.inr (.inr (.inr (.inr (.inr (.inr (.inr (.inr (⟨h9, rfl⟩)))))))))
  rw [if_neg h9] at h
  cases h
theorem nm_none {l : List UInt8} (h : nmN l = none) : (l == [97, 108, 112, 104, 97]) = false ∧ (l == [100, 105, 103, 105, 116]) = false ∧ (l == [97, 108, 110, 117, 109]) = false ∧ (l == [108, 111, 119, 101, 114]) = false ∧ (l == [117, 112, 112, 101, 114]) = false ∧ (l == [98, 108, 97, 110, 107]) = false ∧ (l == [115, 112, 97, 99, 101]) = false ∧ (l == [120, 100, 105, 103, 105, 116]) = false ∧ (l == [99, 110, 116, 114, 108]) = false ∧ (l == [112, 117, 110, 99, 116]) = false := by
  have q : ∀ m : List UInt8, nmN m ≠ none → (l == m) = false := fun m hm => by
    rw [beq_eq_false_iff_ne]
    intro e
    rw [e] at h
    exact hm h
  exact ⟨q _ (by decide), q _ (by decide), q _ (by decide), q _ (by decide), q _ (by decide), q _ (by decide), q _ (by decide), q _ (by decide), q _ (by decide), q _ (by decide)⟩
theorem nmB_none {l : List UInt8} (h : nmN l = none) (c : Int) : nmB l c = false := by
  obtain ⟨h0, h1, h2, h3, h4, h5, h6, h7, h8, h9⟩ := nm_none h
  simp only [beq_eq_false_iff_ne, ne_eq] at h0 h1 h2 h3 h4 h5 h6 h7 h8 h9
  simp only [nmB, h0, h1, h2, h3, h4, h5, h6, h7, h8, h9, if_false]
end Go.Proofs.YtalmajiflmejcaaGreat
/- The document's Named returns just the set of the bytes of its name (or nothing, false), and writes nothing that was there. -/
namespace Go.Proofs.YtalmajiflmejcaaGreat
open Go.ChangeShapes Go.WideShapes Go.ChangeAt Go.RowKit

theorem pct_other (c : Int) : pctB c = (bt c 33 126 && !letB c && !digB c) := by
  rw [Bool.eq_iff_iff]
  simp only [pctB, letB, smlB, grtB, digB, bt, Bool.or_eq_true, Bool.and_eq_true, Bool.not_eq_true', Bool.or_eq_false_iff, decide_eq_true_eq, decide_eq_false_iff_not]
  omega
theorem isB_x (c : Int) : isB 120 c = hexB c := by simp [isB, smI, grtB, bt, knB, clsB]
theorem rnamed_no {s : ByteArray} (h : nmN s.toList = none) (c : Int) (w : World) :
    Calls Tryz.prog 220 #[.string s, .int .u8 c] w fun e w' => e = .returned (.tuple #[.bool false, .bool false]) ∧ w' = w := by
  obtain ⟨h0, h1, h2, h3, h4, h5, h6, h7, h8, h9⟩ := nm_none h
  clear h
  cases q1 : smlB c
  all_goals
    go_enter Tryz.func220, Tryz.ntmps220
    go_wp2_with (first | (go_at_call 150; refine (rsmall_any _ _).mono ?_; rintro e w1 ⟨rfl, rfl⟩) | (go_at_call 82; refine (rgreat_any _ _).mono ?_; rintro e w1 ⟨rfl, rfl⟩) | (go_at_call 171; refine (rdigit_any _ _).mono ?_; rintro e w1 ⟨rfl, rfl⟩) | (go_at_call 118; refine (rbetween_any _ _ _ _).mono ?_; rintro e w1 ⟨rfl, rfl⟩) | (go_at_call 123; refine (rIs_any _ _ _).mono ?_; rintro e w1 ⟨rfl, rfl⟩))
    go_ret2
    exact ⟨rfl, rfl⟩
theorem rnamed_alpha {s : ByteArray} (hs : s.toList = [97, 108, 112, 104, 97]) (c : Int) (w : World) :
    Calls Tryz.prog 220 #[.string s, .int .u8 c] w fun e w' => e = .returned (.tuple #[.bool (letB c), .bool true]) ∧ w' = w := by
  unfold letB
  cases q1 : smlB c
  all_goals
    go_enter Tryz.func220, Tryz.ntmps220
    go_wp2_with (first | (go_at_call 150; refine (rsmall_any _ _).mono ?_; rintro e w1 ⟨rfl, rfl⟩) | (go_at_call 82; refine (rgreat_any _ _).mono ?_; rintro e w1 ⟨rfl, rfl⟩) | (go_at_call 171; refine (rdigit_any _ _).mono ?_; rintro e w1 ⟨rfl, rfl⟩) | (go_at_call 118; refine (rbetween_any _ _ _ _).mono ?_; rintro e w1 ⟨rfl, rfl⟩) | (go_at_call 123; refine (rIs_any _ _ _).mono ?_; rintro e w1 ⟨rfl, rfl⟩))
    go_ret2
    exact ⟨by simp, rfl⟩
theorem rnamed_digit {s : ByteArray} (hs : s.toList = [100, 105, 103, 105, 116]) (c : Int) (w : World) :
    Calls Tryz.prog 220 #[.string s, .int .u8 c] w fun e w' => e = .returned (.tuple #[.bool (digB c), .bool true]) ∧ w' = w := by
  cases q1 : smlB c
  all_goals
    go_enter Tryz.func220, Tryz.ntmps220
    go_wp2_with (first | (go_at_call 150; refine (rsmall_any _ _).mono ?_; rintro e w1 ⟨rfl, rfl⟩) | (go_at_call 82; refine (rgreat_any _ _).mono ?_; rintro e w1 ⟨rfl, rfl⟩) | (go_at_call 171; refine (rdigit_any _ _).mono ?_; rintro e w1 ⟨rfl, rfl⟩) | (go_at_call 118; refine (rbetween_any _ _ _ _).mono ?_; rintro e w1 ⟨rfl, rfl⟩) | (go_at_call 123; refine (rIs_any _ _ _).mono ?_; rintro e w1 ⟨rfl, rfl⟩))
    go_ret2
    exact ⟨by simp, rfl⟩
theorem rnamed_alnum {s : ByteArray} (hs : s.toList = [97, 108, 110, 117, 109]) (c : Int) (w : World) :
    Calls Tryz.prog 220 #[.string s, .int .u8 c] w fun e w' => e = .returned (.tuple #[.bool (ladB c), .bool true]) ∧ w' = w := by
  unfold ladB letB
  cases q1 : smlB c <;> cases q2 : grtB c
  all_goals
    go_enter Tryz.func220, Tryz.ntmps220
    go_wp2_with (first | (go_at_call 150; refine (rsmall_any _ _).mono ?_; rintro e w1 ⟨rfl, rfl⟩) | (go_at_call 82; refine (rgreat_any _ _).mono ?_; rintro e w1 ⟨rfl, rfl⟩) | (go_at_call 171; refine (rdigit_any _ _).mono ?_; rintro e w1 ⟨rfl, rfl⟩) | (go_at_call 118; refine (rbetween_any _ _ _ _).mono ?_; rintro e w1 ⟨rfl, rfl⟩) | (go_at_call 123; refine (rIs_any _ _ _).mono ?_; rintro e w1 ⟨rfl, rfl⟩))
    go_ret2
    exact ⟨by simp, rfl⟩
theorem rnamed_lower {s : ByteArray} (hs : s.toList = [108, 111, 119, 101, 114]) (c : Int) (w : World) :
    Calls Tryz.prog 220 #[.string s, .int .u8 c] w fun e w' => e = .returned (.tuple #[.bool (smlB c), .bool true]) ∧ w' = w := by
  cases q1 : smlB c
  all_goals
    go_enter Tryz.func220, Tryz.ntmps220
    go_wp2_with (first | (go_at_call 150; refine (rsmall_any _ _).mono ?_; rintro e w1 ⟨rfl, rfl⟩) | (go_at_call 82; refine (rgreat_any _ _).mono ?_; rintro e w1 ⟨rfl, rfl⟩) | (go_at_call 171; refine (rdigit_any _ _).mono ?_; rintro e w1 ⟨rfl, rfl⟩) | (go_at_call 118; refine (rbetween_any _ _ _ _).mono ?_; rintro e w1 ⟨rfl, rfl⟩) | (go_at_call 123; refine (rIs_any _ _ _).mono ?_; rintro e w1 ⟨rfl, rfl⟩))
    go_ret2
    exact ⟨by simp, rfl⟩
theorem rnamed_upper {s : ByteArray} (hs : s.toList = [117, 112, 112, 101, 114]) (c : Int) (w : World) :
    Calls Tryz.prog 220 #[.string s, .int .u8 c] w fun e w' => e = .returned (.tuple #[.bool (grtB c), .bool true]) ∧ w' = w := by
  cases q1 : smlB c
  all_goals
    go_enter Tryz.func220, Tryz.ntmps220
    go_wp2_with (first | (go_at_call 150; refine (rsmall_any _ _).mono ?_; rintro e w1 ⟨rfl, rfl⟩) | (go_at_call 82; refine (rgreat_any _ _).mono ?_; rintro e w1 ⟨rfl, rfl⟩) | (go_at_call 171; refine (rdigit_any _ _).mono ?_; rintro e w1 ⟨rfl, rfl⟩) | (go_at_call 118; refine (rbetween_any _ _ _ _).mono ?_; rintro e w1 ⟨rfl, rfl⟩) | (go_at_call 123; refine (rIs_any _ _ _).mono ?_; rintro e w1 ⟨rfl, rfl⟩))
    go_ret2
    exact ⟨by simp, rfl⟩
theorem rnamed_blank {s : ByteArray} (hs : s.toList = [98, 108, 97, 110, 107]) (c : Int) (w : World) :
    Calls Tryz.prog 220 #[.string s, .int .u8 c] w fun e w' => e = .returned (.tuple #[.bool (blkB c), .bool true]) ∧ w' = w := by
  unfold blkB
  cases q1 : smlB c <;> cases q2 : (c == 32)
  all_goals
    go_enter Tryz.func220, Tryz.ntmps220
    go_wp2_with (first | (go_at_call 150; refine (rsmall_any _ _).mono ?_; rintro e w1 ⟨rfl, rfl⟩) | (go_at_call 82; refine (rgreat_any _ _).mono ?_; rintro e w1 ⟨rfl, rfl⟩) | (go_at_call 171; refine (rdigit_any _ _).mono ?_; rintro e w1 ⟨rfl, rfl⟩) | (go_at_call 118; refine (rbetween_any _ _ _ _).mono ?_; rintro e w1 ⟨rfl, rfl⟩) | (go_at_call 123; refine (rIs_any _ _ _).mono ?_; rintro e w1 ⟨rfl, rfl⟩))
    go_ret2
    exact ⟨by simp, rfl⟩
theorem rnamed_space {s : ByteArray} (hs : s.toList = [115, 112, 97, 99, 101]) (c : Int) (w : World) :
    Calls Tryz.prog 220 #[.string s, .int .u8 c] w fun e w' => e = .returned (.tuple #[.bool (spcB c), .bool true]) ∧ w' = w := by
  unfold spcB
  cases q1 : smlB c <;> cases q2 : (c == 32)
  all_goals
    go_enter Tryz.func220, Tryz.ntmps220
    go_wp2_with (first | (go_at_call 150; refine (rsmall_any _ _).mono ?_; rintro e w1 ⟨rfl, rfl⟩) | (go_at_call 82; refine (rgreat_any _ _).mono ?_; rintro e w1 ⟨rfl, rfl⟩) | (go_at_call 171; refine (rdigit_any _ _).mono ?_; rintro e w1 ⟨rfl, rfl⟩) | (go_at_call 118; refine (rbetween_any _ _ _ _).mono ?_; rintro e w1 ⟨rfl, rfl⟩) | (go_at_call 123; refine (rIs_any _ _ _).mono ?_; rintro e w1 ⟨rfl, rfl⟩))
    go_ret2
    exact ⟨by simp, rfl⟩
theorem rnamed_xdigit {s : ByteArray} (hs : s.toList = [120, 100, 105, 103, 105, 116]) (c : Int) (w : World) :
    Calls Tryz.prog 220 #[.string s, .int .u8 c] w fun e w' => e = .returned (.tuple #[.bool (hexB c), .bool true]) ∧ w' = w := by
  rw [← isB_x]
  cases q1 : smlB c
  all_goals
    go_enter Tryz.func220, Tryz.ntmps220
    go_wp2_with (first | (go_at_call 150; refine (rsmall_any _ _).mono ?_; rintro e w1 ⟨rfl, rfl⟩) | (go_at_call 82; refine (rgreat_any _ _).mono ?_; rintro e w1 ⟨rfl, rfl⟩) | (go_at_call 171; refine (rdigit_any _ _).mono ?_; rintro e w1 ⟨rfl, rfl⟩) | (go_at_call 118; refine (rbetween_any _ _ _ _).mono ?_; rintro e w1 ⟨rfl, rfl⟩) | (go_at_call 123; refine (rIs_any _ _ _).mono ?_; rintro e w1 ⟨rfl, rfl⟩))
    go_ret2
    exact ⟨by simp, rfl⟩
theorem rnamed_cntrl {s : ByteArray} (hs : s.toList = [99, 110, 116, 114, 108]) (c : Int) (w : World) :
    Calls Tryz.prog 220 #[.string s, .int .u8 c] w fun e w' => e = .returned (.tuple #[.bool (ctlB c), .bool true]) ∧ w' = w := by
  unfold ctlB
  cases q1 : smlB c <;> cases q2 : decide (c < 32)
  all_goals
    go_enter Tryz.func220, Tryz.ntmps220
    go_wp2_with (first | (go_at_call 150; refine (rsmall_any _ _).mono ?_; rintro e w1 ⟨rfl, rfl⟩) | (go_at_call 82; refine (rgreat_any _ _).mono ?_; rintro e w1 ⟨rfl, rfl⟩) | (go_at_call 171; refine (rdigit_any _ _).mono ?_; rintro e w1 ⟨rfl, rfl⟩) | (go_at_call 118; refine (rbetween_any _ _ _ _).mono ?_; rintro e w1 ⟨rfl, rfl⟩) | (go_at_call 123; refine (rIs_any _ _ _).mono ?_; rintro e w1 ⟨rfl, rfl⟩))
    go_ret2
    exact ⟨by simp, rfl⟩
theorem rnamed_punct {s : ByteArray} (hs : s.toList = [112, 117, 110, 99, 116]) (c : Int) (w : World) :
    Calls Tryz.prog 220 #[.string s, .int .u8 c] w fun e w' => e = .returned (.tuple #[.bool (pctB c), .bool true]) ∧ w' = w := by
  rw [pct_other]
  unfold letB
  cases q1 : smlB c <;> cases q2 : grtB c <;> cases q3 : bt c 33 126
  all_goals
    go_enter Tryz.func220, Tryz.ntmps220
    go_wp2_with (first | (go_at_call 150; refine (rsmall_any _ _).mono ?_; rintro e w1 ⟨rfl, rfl⟩) | (go_at_call 82; refine (rgreat_any _ _).mono ?_; rintro e w1 ⟨rfl, rfl⟩) | (go_at_call 171; refine (rdigit_any _ _).mono ?_; rintro e w1 ⟨rfl, rfl⟩) | (go_at_call 118; refine (rbetween_any _ _ _ _).mono ?_; rintro e w1 ⟨rfl, rfl⟩) | (go_at_call 123; refine (rIs_any _ _ _).mono ?_; rintro e w1 ⟨rfl, rfl⟩))
    go_ret2
    exact ⟨by simp, rfl⟩
theorem rnamed_any (s : ByteArray) (c : Int) (w : World) :
    Calls Tryz.prog 220 #[.string s, .int .u8 c] w fun e w' => e = .returned (.tuple #[.bool (nmB s.toList c), .bool (nmK s.toList)]) ∧ w' = w := by
  cases h : nmN s.toList with
  | none =>
    rw [nmB_none h, show nmK s.toList = false from by unfold nmK; rw [h]; rfl]
    exact rnamed_no h c w
  | some n =>
    rw [show nmK s.toList = true from by unfold nmK; rw [h]; rfl]
    rcases nm_some h with ⟨hs, _⟩ | ⟨hs, _⟩ | ⟨hs, _⟩ | ⟨hs, _⟩ | ⟨hs, _⟩ | ⟨hs, _⟩ | ⟨hs, _⟩ | ⟨hs, _⟩ | ⟨hs, _⟩ | ⟨hs, _⟩
    · rw [show nmB s.toList c = letB c from by rw [hs]; rfl]
      exact rnamed_alpha hs c w
    · rw [show nmB s.toList c = digB c from by rw [hs]; rfl]
      exact rnamed_digit hs c w
    · rw [show nmB s.toList c = ladB c from by rw [hs]; rfl]
      exact rnamed_alnum hs c w
    · rw [show nmB s.toList c = smlB c from by rw [hs]; rfl]
      exact rnamed_lower hs c w
    · rw [show nmB s.toList c = grtB c from by rw [hs]; rfl]
      exact rnamed_upper hs c w
    · rw [show nmB s.toList c = blkB c from by rw [hs]; rfl]
      exact rnamed_blank hs c w
    · rw [show nmB s.toList c = spcB c from by rw [hs]; rfl]
      exact rnamed_space hs c w
    · rw [show nmB s.toList c = hexB c from by rw [hs]; rfl]
      exact rnamed_xdigit hs c w
    · rw [show nmB s.toList c = ctlB c from by rw [hs]; rfl]
      exact rnamed_cntrl hs c w
    · rw [show nmB s.toList c = pctB c from by rw [hs]; rfl]
      exact rnamed_punct hs c w

set_option maxRecDepth 100000 in
theorem rNamed_any (s : ByteArray) (w : World) :
    Calls Tryz.prog 207 #[.string s] w fun e w' =>
      e = .returned (.tuple #[.agg #[.int .u64 (foldS (nmB s.toList) 256).a, .int .u64 (foldS (nmB s.toList) 256).b, .int .u64 (foldS (nmB s.toList) 256).c, .int .u64 (foldS (nmB s.toList) 256).d], .bool (nmK s.toList)]) ∧ Below w.heap.size w w' := by
  have KR : Hid (∀ (c : Int) (w : World), Calls Tryz.prog 220 #[.string s, .int .u8 c] w fun e w' => e = .returned (.tuple #[.bool (nmB s.toList c), .bool (nmK s.toList)]) ∧ w' = w) := fun c w => rnamed_any s c w
  generalize nmB s.toList = f at *
  generalize nmK s.toList = b at *
  go_enter Tryz.func207, Tryz.ntmps207
  go_wp2
  go_loopw [5, 6] (fun t i wr => ∃ j : Nat, j ≤ 256 ∧ i = .int .i64 j ∧ (∃ q, t = .bool q ∧ (0 < j → q = b)) ∧ Inv w wr (foldS f j)) (fun _ i _ => 256 - (intOf i).toNat)
  case atStart => exact ⟨0, Nat.zero_le _, rfl, ⟨_, rfl, fun h => by omega⟩, inv_start w 108⟩
  case round =>
    obtain ⟨j, hj, rfl, ⟨q, rfl, hqb⟩, hI⟩ := hrel
    by_cases hlt : j < 256
    · clear hqb
      cases hf : f j
      · have HF : Hid (foldS f (j + 1) = foldS f j) := fold_no hf
        go_wp2_with fail
        refine (KR.out _ _).mono ?_
        rintro e w1 ⟨rfl, rfl⟩
        go_wp2
        go_roundw
        case rel => exact ⟨j + 1, by omega, by go_num, ⟨_, rfl, fun _ => rfl⟩, by rw [HF.out]; exact hI⟩
        case measure => simp [intOf]; omega
      · have HF : Hid (foldS f (j + 1) = withS (foldS f j) j) := fold_yes hf
        obtain ⟨c0, c1, c2, c3⟩ := hI.s
        go_wp2_with fail
        refine (KR.out _ _).mono ?_
        rintro e w1 ⟨rfl, rfl⟩
        go_wp2_with fail
        refine (rWith_any (foldS f j) (ok_fold _ j hj) j hlt _).mono ?_
        rintro e w2 ⟨rfl, hb2⟩
        have hI2 := hI.below hb2
        obtain ⟨d0, d1, d2, d3⟩ := hI2.s
        obtain ⟨f0, f1, f2, f3⟩ := hI2.fs
        clear c0 c1 c2 c3
        go_wp2
        go_roundw
        case rel => exact ⟨j + 1, by omega, by go_num, ⟨_, rfl, fun _ => rfl⟩, by rw [HF.out]; exact hI2.put _⟩
        case measure => simp [intOf]; omega
    · have hk2 : j = 256 := by omega
      subst hk2
      obtain rfl := hqb (by decide)
      obtain ⟨c0, c1, c2, c3⟩ := hI.s
      obtain ⟨d0, d1, d2, d3⟩ := hI.r
      obtain ⟨f0, f1, f2, f3⟩ := hI.fr
      clear hqb
      go_wp2
      obtain ⟨r0, r1, r2, r3⟩ := hI.r.put4 (foldS f 256)
      have hbl := below_put4 hI.bw (Nat.le_refl _) (foldS f 256)
      show bodyPost _ _ _ _ _ (put4 _ w.heap.size (foldS f 256))
      generalize put4 _ w.heap.size (foldS f 256) = wz at *
      generalize foldS f 256 = t at *
      exact bodyPost_ret (v := .tuple #[.agg #[.int .u64 t.a, .int .u64 t.b, .int .u64 t.c, .int .u64 t.d], .bool q]) (by simp [results, Tryz.results207, go_sem, r0, r1, r2, r3]) rfl ⟨rfl, hbl⟩
end Go.Proofs.YtalmajiflmejcaaGreat
/- What memory holds while a pattern is read, and what a call of the reader leaves as it was. -/
namespace Go.Proofs.YtalmajiflmejcaaGreat
open Go.ChangeShapes Go.WideShapes Go.ChangeAt Go.RowKit
set_option linter.unusedVariables false
set_option linter.unusedSimpArgs false

theorem drewN_heap (w : World) (n : Nat) : (w.drewN n).heap = w.heap := by induction n generalizing w <;> simp_all [World.drewN]
theorem drew2 (w : World) (a b : Nat) : (w.drewN a).drewN b = w.drewN (a + b) := by
  have e : ∀ (n : Nat) (w : World), w.drewN n = { w with drawn := w.drawn + n } := by
    intro n
    induction n with
    | zero => intro w; rfl
    | succ n ih => intro w; simp [World.drewN, World.drew, ih, Nat.add_assoc, Nat.add_comm 1 n]
  simp [e, Nat.add_assoc]
theorem heap_setCell {w : World} {b off : Nat} {v : Value} {cur : Array Value} {e : TypeId} {fr : Nat × Nat} (hg : w.heap[b]? = some (.cells cur e fr)) :
    (w.setCell ⟨b, off, none⟩ v).heap[b]? = some (.cells (cur.setIfInBounds off v) e fr) := by
  have hlt : b < w.heap.size := (Array.getElem?_eq_some_iff.1 hg).1
  simp [World.setCell, Array.getElem?_modify, hg]
theorem heap_setCell_other {w : World} {b off k : Nat} {v : Value} (hk : k ≠ b) : (w.setCell ⟨b, off, none⟩ v).heap[k]? = w.heap[k]? := by
  simp [World.setCell, Array.getElem?_modify, Ne.symm hk]
theorem size_setCell (w : World) (a : Addr) (v : Value) : (w.setCell a v).heap.size = w.heap.size := by simp [World.setCell]
theorem alloc_new (w : World) (ob : Obj) : (w.alloc ob).heap[w.heap.size]? = some ob := by show (w.heap.push ob)[w.heap.size]? = _; simp
theorem alloc_old (w : World) (ob : Obj) (k : Nat) (hk : k < w.heap.size) : (w.alloc ob).heap[k]? = w.heap[k]? := by
  show (w.heap.push ob)[k]? = _; rw [Array.getElem?_push_lt hk, Array.getElem?_eq_getElem hk]
theorem alloc_size (w : World) (ob : Obj) : (w.alloc ob).heap.size = w.heap.size + 1 := by show (w.heap.push ob).size = _; simp

/-- From w to w' no block that was there has turned but those of which 'S' speaks. -/
structure Fr (S : Nat → Prop) (w w' : World) : Prop where
  os : w'.os = w.os
  tape : w'.tape = w.tape
  output : w'.output = w.output
  size : w.heap.size ≤ w'.heap.size
  block : ∀ k, k < w.heap.size → ¬ S k → w'.heap[k]? = w.heap[k]?
section
variable {S S' : Nat → Prop} {w w1 w2 : World}
theorem Fr.refl (S : Nat → Prop) (w : World) : Fr S w w := ⟨rfl, rfl, rfl, Nat.le_refl _, fun _ _ _ => rfl⟩
theorem Fr.trans' (h : Fr S w w1) (h' : Fr S' w1 w2) (hs : ∀ k, k < w.heap.size → S' k → S k) : Fr S w w2 :=
  ⟨h'.os.trans h.os, h'.tape.trans h.tape, h'.output.trans h.output, Nat.le_trans h.size h'.size,
   fun k hk hn => (h'.block k (Nat.lt_of_lt_of_le hk h.size) (fun hq => hn (hs k hk hq))).trans (h.block k hk hn)⟩
theorem Fr.trans (h : Fr S w w1) (h' : Fr S w1 w2) : Fr S w w2 := h.trans' h' fun _ _ q => q
theorem Fr.mono (h : Fr S w w1) (hs : ∀ k, k < w.heap.size → S k → S' k) : Fr S' w w1 := ⟨h.os, h.tape, h.output, h.size, fun k hk hn => h.block k hk fun q => hn (hs k hk q)⟩
theorem Fr.drewN (S : Nat → Prop) (w : World) (n : Nat) : Fr S w (w.drewN n) := by
  refine ⟨?_, ?_, ?_, by rw [drewN_heap]; exact Nat.le_refl _, fun _ _ _ => by rw [drewN_heap]⟩
  all_goals (induction n generalizing w <;> simp_all [World.drewN])
theorem Fr.setCell {b off : Nat} {v : Value} (hS : S b) (w : World) : Fr S w (w.setCell ⟨b, off, none⟩ v) :=
  ⟨rfl, rfl, rfl, by rw [size_setCell]; exact Nat.le_refl _, fun k _ hn => heap_setCell_other fun e => hn (e ▸ hS)⟩
theorem Fr.alloc (S : Nat → Prop) (w : World) (ob : Obj) : Fr S w (w.alloc ob) := ⟨rfl, rfl, rfl, by rw [alloc_size]; omega, fun k hk _ => alloc_old w ob k hk⟩
theorem Fr.below {B : Nat} (h : Fr S w w1) (hB : B ≤ w.heap.size) (hS : ∀ k, k < B → ¬ S k) : Below B w w1 := ⟨h.os, h.tape, h.output, h.size, fun k hk => h.block k (by omega) (hS k hk)⟩
theorem Fr.of_below (h : Below w.heap.size w w1) : Fr S w w1 := ⟨h.os, h.tape, h.output, h.size, fun k hk _ => h.block k hk⟩
end
/-- This one block. -/
def On (b k : Nat) : Prop := k = b
theorem fr_set (b off : Nat) (v : Value) (w : World) : Fr (On b) w (w.setCell ⟨b, off, none⟩ v) := Fr.setCell (S := On b) rfl w
/-- Nothing that was there has turned. -/
abbrev Kp (w w' : World) : Prop := Below w.heap.size w w'
theorem kp_drewN (w : World) (q : Nat) : Kp w (w.drewN q) := (Fr.drewN (fun _ => False) w q).below (Nat.le_refl _) fun _ _ h => h
theorem kp_alloc (w : World) (ob : Obj) : Kp w (w.alloc ob) := (Below.refl _ w).alloc (Nat.le_refl _) ob
theorem kp_trans {a b c : World} (h : Kp a b) (k : Kp b c) : Kp a c := h.trans (k.mono h.size)

theorem Fr.new {S : Nat → Prop} {w w1 : World} {n off : Nat} {v : Value} (h : Fr S w w1) (hn : w.heap.size ≤ n) : Fr S w (w1.setCell ⟨n, off, none⟩ v) :=
  ⟨h.os, h.tape, h.output, by rw [size_setCell]; exact h.size, fun k hk hS => by rw [heap_setCell_other (by omega)]; exact h.block k hk hS⟩
theorem Fr.frAlloc {S : Nat → Prop} {w w1 : World} {ob : Obj} (h : Fr S (w.alloc ob) w1) : Fr S w w1 := (Fr.alloc S w ob).trans h
/-- A byte of a text, nought behind its end. -/
def byteAt (s : ByteArray) (k : Nat) : Nat := ((s.data.toList[k]?).map UInt8.toNat).getD 0
theorem byteAt_lt (s : ByteArray) (k : Nat) : byteAt s k < 256 := by
  unfold byteAt
  cases s.data.toList[k]? with
  | none => simp
  | some b => simpa using b.toNat_lt
theorem byteAt_eq (s : ByteArray) (k : Nat) (h : k < s.size) : byteAt s k = (s[k]).toNat := by
  have : s.data.toList[k]? = some (s[k]) := by
    rw [List.getElem?_eq_getElem (by simpa using h)]; rfl
  unfold byteAt; rw [this]; rfl

/-- At the head of block 'b' (of type 'T') stands a scanner; 'tl' is what stands behind it. -/
def Scn (T : TypeId) (tl : List Value) (s : ByteArray) (at_ : Nat) (md : ByteArray) (cs : Nat) (b : Nat) (w : World) : Prop :=
  w.heap[b]? = some (.cells (.string s :: .int .i64 at_ :: .string md :: .int .u8 cs :: tl).toArray T (0, 0))
section
variable {T : TypeId} {tl : List Value} {s md : ByteArray} {at_ cs b : Nat} {w w' : World}
theorem Scn.lt (h : Scn T tl s at_ md cs b w) : b < w.heap.size := (Array.getElem?_eq_some_iff.1 h).1
theorem Scn.c0 (h : Scn T tl s at_ md cs b w) : w.cell? ⟨b, 0, none⟩ = some (.string s) := by unfold Scn at h; simp [World.cell?, h]
theorem Scn.c1 (h : Scn T tl s at_ md cs b w) : w.cell? ⟨b, 1, none⟩ = some (.int .i64 at_) := by unfold Scn at h; simp [World.cell?, h]
theorem Scn.c2 (h : Scn T tl s at_ md cs b w) : w.cell? ⟨b, 2, none⟩ = some (.string md) := by unfold Scn at h; simp [World.cell?, h]
theorem Scn.c3 (h : Scn T tl s at_ md cs b w) : w.cell? ⟨b, 3, none⟩ = some (.int .u8 cs) := by unfold Scn at h; simp [World.cell?, h]
theorem Scn.fz (h : Scn T tl s at_ md cs b w) (j : Nat) : w.frozen? ⟨b, j, none⟩ = false := by unfold Scn at h; simp [World.frozen?, h]
theorem Scn.heap (h : Scn T tl s at_ md cs b w) (he : w'.heap[b]? = w.heap[b]?) : Scn T tl s at_ md cs b w' := by unfold Scn at h ⊢; rw [he]; exact h
theorem Scn.kp (h : Scn T tl s at_ md cs b w) (k : Kp w w') : Scn T tl s at_ md cs b w' := h.heap (k.block b h.lt)
theorem Scn.drewN (h : Scn T tl s at_ md cs b w) (q : Nat) : Scn T tl s at_ md cs b (w.drewN q) := h.heap (by rw [drewN_heap])
theorem Scn.other (h : Scn T tl s at_ md cs b w) {n off : Nat} {v : Value} (hn : n ≠ b) : Scn T tl s at_ md cs b (w.setCell ⟨n, off, none⟩ v) := h.heap (heap_setCell_other (Ne.symm hn))
theorem Scn.set1 (h : Scn T tl s at_ md cs b w) (a' : Nat) : Scn T tl s a' md cs b (w.setCell ⟨b, 1, none⟩ (.int .i64 a')) := by unfold Scn at h ⊢; rw [heap_setCell h]; simp
theorem Scn.set2 (h : Scn T tl s at_ md cs b w) (m' : ByteArray) : Scn T tl s at_ m' cs b (w.setCell ⟨b, 2, none⟩ (.string m')) := by unfold Scn at h ⊢; rw [heap_setCell h]; simp
theorem Scn.set3 (h : Scn T tl s at_ md cs b w) (c' : Nat) : Scn T tl s at_ md c' b (w.setCell ⟨b, 3, none⟩ (.int .u8 c')) := by unfold Scn at h ⊢; rw [heap_setCell h]; simp
end
end Go.Proofs.YtalmajiflmejcaaGreat
/- Nodes in memory: lists of nodes, lists of numbers, what a call leaves. -/
namespace Go.Proofs.YtalmajiflmejcaaGreat
open Go.ChangeShapes Go.WideShapes Go.ChangeAt Go.RowKit
set_option linter.unusedVariables false
set_option linter.unusedSimpArgs false
/-- A node, without its place in memory. -/
structure Nd where
  op : Nat
  c : Nat := 0
  set : S4 := zeroS
  mn : Int := 0
  mx : Int := 0
  lz : Bool := false
  n : Nat := 0
  kids : List Nat := []
def Nd.cells (d : Nd) (kv : Value) : List Value :=
  [.int .u8 d.op, .int .u8 d.c, .int .u64 d.set.a, .int .u64 d.set.b, .int .u64 d.set.c, .int .u64 d.set.d, .int .i64 d.mn, .int .i64 d.mx, .bool d.lz, .int .i64 d.n, kv]
def Nd.val (d : Nd) (kv : Value) : Value :=
  .agg #[.int .u8 d.op, .int .u8 d.c, .int .u64 d.set.a, .int .u64 d.set.b, .int .u64 d.set.c, .int .u64 d.set.d, .int .i64 d.mn, .int .i64 d.mx, .bool d.lz, .int .i64 d.n, kv]
def nums (l : List Nat) : List Value := l.map fun (n : Nat) => Value.int .i64 n
def flat (ns : List (Nd × Value)) : List Value := ns.flatMap fun x => x.1.cells x.2
theorem flat_snoc (ns : List (Nd × Value)) (d : Nd) (kv : Value) : flat (ns ++ [(d, kv)]) = flat ns ++ d.cells kv := by simp [flat]
theorem flat_get {ns : List (Nd × Value)} {i : Nat} {d : Nd} {kv : Value} (h : ns[i]? = some (d, kv)) (j : Nat) (hj : j < 11) : (flat ns)[i * 11 + j]? = (d.cells kv)[j]? := by
  induction ns generalizing i with
  | nil => simp at h
  | cons m ms ih =>
    have hl : (m.1.cells m.2).length = 11 := rfl
    unfold flat
    rw [List.flatMap_cons]
    cases i with
    | zero =>
      simp only [List.getElem?_cons_zero, Option.some.injEq] at h; subst h
      rw [List.getElem?_append_left (by rw [hl]; omega)]
      simp
    | succ i =>
      simp only [List.getElem?_cons_succ] at h
      rw [List.getElem?_append_right (by rw [hl]; omega)]
      have : (i + 1) * 11 + j - (m.1.cells m.2).length = i * 11 + j := by rw [hl]; omega
      rw [this]; exact ih h
def KRow (B : Nat) (w : World) (v : Value) (ks : List Nat) : Prop := w.ownsRow B 3 1 v ks.length (nums ks)
/-- The list of nodes, and the blocks in which kids may lie. -/
structure Qv where
  v : Value
  kb : Nat → Prop
def Qv.ownBlock (q : Qv) : Option Nat := q.v.ownBlock
/-- Memory that is neither the reader's struct nor its list of nodes. -/
def OffK (rb : Nat) (vn : Qv) (v : Value) : Prop := ∀ j, v.ownBlock = some j → j ≠ rb ∧ vn.ownBlock ≠ some j
/-- .. nor any node's kids. -/
def Off (rb : Nat) (vn : Qv) (v : Value) : Prop := ∀ j, v.ownBlock = some j → (j ≠ rb ∧ vn.ownBlock ≠ some j) ∧ ¬ vn.kb j
/-- The reader's struct, and its list of nodes. -/
def Rb (rb : Nat) (v : Qv) (k : Nat) : Prop := k = rb ∨ v.ownBlock = some k
/-- From w to w' nothing has turned but the reader's struct and its list of nodes. -/
structure AdvX (x : Option Nat) (rb : Nat) (vn : Qv) (w : World) (vn' : Qv) (w' : World) : Prop where
  fr : Fr (Rb rb vn) w w'
  own : vn'.ownBlock = vn.ownBlock ∨ ∀ j, vn'.ownBlock = some j → w.heap.size ≤ j
  kbs : ∀ j, j < w.heap.size → vn'.kb j → vn.kb j ∨ x = some j
/-- .. and no old memory has become a node's kids. -/
abbrev Adv (rb : Nat) (vn : Qv) (w : World) (vn' : Qv) (w' : World) : Prop := AdvX none rb vn w vn' w'
section
variable {B rb : Nat} {vn vn1 vn2 : Qv} {v : Value} {ns : List (Nd × Value)} {w w1 w2 : World} {x : Option Nat}
theorem Adv.refl (rb : Nat) (vn : Qv) (w : World) : Adv rb vn w vn w := ⟨Fr.refl _ w, .inl rfl, fun _ _ h => .inl h⟩
theorem AdvX.trans (h : Adv rb vn w vn1 w1) (h' : AdvX x rb vn1 w1 vn2 w2) : AdvX x rb vn w vn2 w2 := by
  refine ⟨h.fr.trans' h'.fr fun k hk hq => ?_, ?_, fun j hj hq => ?_⟩
  · rcases hq with hq | hq
    · exact .inl hq
    · rcases h.own with e | e
      · exact .inr (by rw [← e]; exact hq)
      · exact absurd (e k hq) (by omega)
  · rcases h'.own with e | e
    · rw [e]; exact h.own
    · exact .inr fun j hj => Nat.le_trans h.fr.size (e j hj)
  · rcases h'.kbs j (Nat.lt_of_lt_of_le hj h.fr.size) hq with q | q
    · rcases h.kbs j hj q with q | q
      · exact .inl q
      · cases q
    · exact .inr q
/-- What was new ahead of the call is new. -/
theorem AdvX.drop (h : AdvX x rb vn w1 vn1 w2) (a : Adv rb vn w vn w1) (hx : ∀ j, x = some j → w.heap.size ≤ j) : Adv rb vn w vn1 w2 := by
  have q := AdvX.trans a h
  refine ⟨q.fr, q.own, fun j hj hq => ?_⟩
  rcases q.kbs j hj hq with z | z
  · exact .inl z
  · exact absurd (hx j z) (by omega)
theorem Adv.kp (vn : Qv) (rb : Nat) (k : Kp w w1) : Adv rb vn w vn w1 := ⟨Fr.of_below k, .inl rfl, fun _ _ h => .inl h⟩
theorem Adv.on (vn : Qv) (h : Fr (On rb) w w1) : Adv rb vn w vn w1 := ⟨h.mono fun _ _ q => .inl q, .inl rfl, fun _ _ h => .inl h⟩
theorem AdvX.below (h : AdvX x rb vn w vn1 w1) (hB : B ≤ w.heap.size) (hr : B ≤ rb) (hv : ∀ j, vn.ownBlock = some j → B ≤ j) : Below B w w1 :=
  h.fr.below hB fun k hk q => by
    rcases q with q | q
    · omega
    · have := hv k q; omega
theorem OffK.adv (ho : OffK rb vn v) (h : AdvX x rb vn w vn1 w1) (hlt : ∀ j, v.ownBlock = some j → j < w.heap.size) : OffK rb vn1 v := fun j hj => by
  refine ⟨(ho j hj).1, fun e => ?_⟩
  rcases h.own with q | q
  · rw [q] at e; exact (ho j hj).2 e
  · have := q j e; have := hlt j hj; omega
theorem row_advK {e : TypeId} {size n : Nat} {xs : List Value} (hr : w.ownsRow B e size v n xs) (ho : OffK rb vn v) (h : AdvX x rb vn w vn1 w1) : w1.ownsRow B e size v n xs ∧ OffK rb vn1 v := by
  have hlt : ∀ j, v.ownBlock = some j → j < w.heap.size := fun j hj => (hr.lt j hj).2
  refine ⟨⟨hr.1, ?_⟩, ho.adv h hlt⟩
  rcases hr.2 with q | ⟨b, cap, cur, rfl, hb, hg, rest⟩
  · exact .inl q
  · refine .inr ⟨b, cap, cur, rfl, hb, ?_, rest⟩
    rw [h.fr.block b (hlt b rfl) fun q => ?_]; exact hg
    rcases q with q | q
    · exact (ho b rfl).1 q
    · exact (ho b rfl).2 q
theorem Off.k (h : Off rb vn v) : OffK rb vn v := fun j hj => (h j hj).1
theorem row_adv {e : TypeId} {size n : Nat} {xs : List Value} (hr : w.ownsRow B e size v n xs) (ho : Off rb vn v) (h : Adv rb vn w vn1 w1) : w1.ownsRow B e size v n xs ∧ Off rb vn1 v := by
  obtain ⟨h1, h2⟩ := row_advK hr ho.k h
  refine ⟨h1, fun j hj => ⟨h2 j hj, fun q => ?_⟩⟩
  rcases h.kbs j (hr.lt j hj).2 q with q | q
  · exact (ho j hj).2 q
  · cases q
theorem row_kp {e : TypeId} {size n : Nat} {xs : List Value} (hr : w.ownsRow B e size v n xs) (h : Kp w w1) : w1.ownsRow B e size v n xs := by
  refine ⟨hr.1, ?_⟩
  rcases hr.2 with q | ⟨b, cap, cur, rfl, hb, hg, rest⟩
  · exact .inl q
  · exact .inr ⟨b, cap, cur, rfl, hb, by rw [h.block b (hr.lt b rfl).2]; exact hg, rest⟩
end
theorem owns_form {w : World} {base size n : Nat} {e : TypeId} {v : Value} {xs : List Value} (h : w.ownsRow base e size v n xs) : ∃ a cap, v = .slice a n cap ∧ n ≤ cap ∧ cap ≤ maxLen := by
  rcases h.2 with ⟨rfl, rfl⟩ | ⟨b, cap, cur, rfl, _, _, h1, h2, _⟩
  · exact ⟨none, 0, rfl, Nat.le_refl _, by simp [maxLen]⟩
  · exact ⟨_, cap, rfl, h1, h2⟩
theorem infoInt : (Tryz.prog.info? 3).map (fun i => (i.zero, i.size, i.bytes)) = some (some (.int .i64 0), 1, 8) := by kernel_rfl
theorem infoNode : (Tryz.prog.info? 195).map (fun i => (i.zero, i.size, i.bytes)) = some (some (.agg #[.int .u8 0, .int .u8 0, .int .u64 0, .int .u64 0, .int .u64 0, .int .u64 0, .int .i64 0, .int .i64 0, .bool false, .int .i64 0, .slice none 0 0]), 11, 96) := by kernel_rfl
theorem info_parts {t : TypeId} {z : Option Value} {a b : Nat} (h : (Tryz.prog.info? t).map (fun i => (i.zero, i.size, i.bytes)) = some (z, a, b)) : ∃ i, Tryz.prog.info? t = some i ∧ i.zero = z ∧ i.size = a ∧ i.bytes = b := by
  obtain ⟨i, h1, h2⟩ := Option.map_eq_some_iff.1 h
  simp only [Prod.mk.injEq] at h2
  exact ⟨i, h1, h2.1, h2.2.1, h2.2.2⟩
theorem cell_at {w : World} {b : Nat} {e : TypeId} {cur : Array Value} (hg : w.heap[b]? = some (.cells cur e (0, 0))) (j : Nat) : w.cell? ⟨b, j, none⟩ = cur[j]? := by simp [World.cell?, hg]
def nodeObj (d : Nd) (kv : Value) : Obj := .cells #[.int .u8 d.op, .int .u8 d.c, .int .u64 d.set.a, .int .u64 d.set.b, .int .u64 d.set.c, .int .u64 d.set.d, .int .i64 d.mn, .int .i64 d.mx, .bool d.lz, .int .i64 d.n, kv] 195
theorem drew_heap (w : World) : w.drew.heap = w.heap := rfl
theorem kp_drew (w : World) : Kp w w.drew := kp_drewN w 1
/-- The nodes' list behind one more. -/
def grown (vn : Qv) (g n cap : Nat) (kv : Value) : Qv := ⟨.slice (some ⟨g, 0, none⟩) n cap, fun j => vn.kb j ∨ kv.ownBlock = some j⟩
theorem leaf_row (B : Nat) (w : World) : KRow B w (.slice none 0 0) [] := World.ownsRow_nil _ _ _ _
theorem off_nil (rb : Nat) (vn : Qv) : OffK rb vn (.slice none 0 0) := fun j hj => by cases hj
section
variable {B rb : Nat} {w : World}
theorem krow_cell {v : Value} {ks : List Nat} {a : Option Addr} {n c : Nat} (hk : KRow B w (.slice a n c) ks) {j x : Nat} (hj : ks[j]? = some x) : ∃ kb, a = some ⟨kb, 0, none⟩ ∧ w.cell? ⟨kb, j, none⟩ = some (.int .i64 x) ∧ w.frozen? ⟨kb, j, none⟩ = false := by
  have hlt := (List.getElem?_eq_some_iff.1 hj).1
  rcases hk.2 with ⟨_, q⟩ | ⟨b, cap, cur, e, hb, hg, h1, h2, h3, h4⟩
  · omega
  · injection e with e _ _
    refine ⟨b, e, ?_, by simp [World.frozen?, hg]⟩
    rw [cell_at hg]
    have : (nums ks)[j]? = some (.int .i64 x) := by simp [nums, hj]
    rw [← h4, List.getElem?_take] at this
    split at this
    · simpa using this
    · cases this
end
end Go.Proofs.YtalmajiflmejcaaGreat
/- A box in memory: a block of so many cells. -/
namespace Go.Proofs.YtalmajiflmejcaaGreat
open Go.ChangeShapes Go.WideShapes Go.ChangeAt Go.RowKit
set_option linter.unusedVariables false
set_option linter.unusedSimpArgs false
def Lc (T : TypeId) (b : Nat) (l : List Value) (w : World) : Prop := w.heap[b]? = some (.cells l.toArray T (0, 0))
section
variable {T : TypeId} {b : Nat} {l : List Value} {w w1 : World}
theorem Lc.lt (h : Lc T b l w) : b < w.heap.size := (Array.getElem?_eq_some_iff.1 h).1
theorem Lc.cell (h : Lc T b l w) (j : Nat) : w.cell? ⟨b, j, none⟩ = l[j]? := by rw [cell_at h]; exact List.getElem?_toArray
theorem Lc.at (h : Lc T b l w) {j : Nat} {v : Value} (hj : l[j]? = some v) : w.cell? ⟨b, j, none⟩ = some v := by rw [h.cell, hj]
theorem Lc.fz (h : Lc T b l w) (j : Nat) : w.frozen? ⟨b, j, none⟩ = false := by unfold Lc at h; simp [World.frozen?, h]
theorem Lc.new (w : World) (l : List Value) (T : TypeId) : Lc T w.heap.size l (w.alloc (.cells l.toArray T)) := alloc_new w _
theorem Lc.heap (h : Lc T b l w) (he : w1.heap[b]? = w.heap[b]?) : Lc T b l w1 := by unfold Lc at h ⊢; rw [he]; exact h
theorem Lc.kp (h : Lc T b l w) (k : Kp w w1) : Lc T b l w1 := h.heap (k.block b h.lt)
theorem Lc.fr {S : Nat → Prop} (h : Lc T b l w) (k : Fr S w w1) (hn : ¬ S b) : Lc T b l w1 := h.heap (k.block b h.lt hn)
theorem Lc.set (h : Lc T b l w) (j : Nat) (v : Value) : Lc T b (l.set j v) (w.setCell ⟨b, j, none⟩ v) := by
  unfold Lc at h ⊢; rw [heap_setCell h, List.setIfInBounds_toArray]
theorem Lc.other (h : Lc T b l w) {n off : Nat} {v : Value} (hn : n ≠ b) : Lc T b l (w.setCell ⟨n, off, none⟩ v) := h.heap (heap_setCell_other (Ne.symm hn))
theorem kp_new {w0 : World} (k : Kp w0 w) {n off : Nat} {v : Value} (hn : w0.heap.size ≤ n) : Kp w0 (w.setCell ⟨n, off, none⟩ v) :=
  ⟨k.os, k.tape, k.output, by rw [size_setCell]; exact k.size, fun j hj => by rw [heap_setCell_other (by omega)]; exact k.block j hj⟩
theorem kp_more {w0 : World} (k : Kp w0 w) (o : Obj) : Kp w0 (w.alloc o) := kp_trans k (kp_alloc _ _)
theorem kp_cell {w0 : World} (k : Kp w0 w) {n off : Nat} {v : Value} (h : w0.cell? ⟨n, off, none⟩ = some v) : w.cell? ⟨n, off, none⟩ = some v := by
  have hn : n < w0.heap.size := by
    unfold World.cell? at h
    cases hg : w0.heap[n]? with
    | none => simp [hg] at h
    | some o => exact (Array.getElem?_eq_some_iff.1 hg).1
  rw [← h]
  simp only [World.cell?, k.block n hn]
end
end Go.Proofs.YtalmajiflmejcaaGreat
/- Loads and stores of whole structs in a box. -/
namespace Go.Proofs.YtalmajiflmejcaaGreat
open Go.ChangeShapes Go.WideShapes Go.ChangeAt Go.RowKit
set_option linter.unusedVariables false
set_option linter.unusedSimpArgs false
/-- A list's elements from a place on are these. -/
def sets (l : List Value) : Nat → List Value → List Value
  | _, [] => l
  | o, v :: r => sets (l.set o v) (o + 1) r
section
variable {T : TypeId} {b : Nat} {l : List Value} {w w1 : World}
theorem Lc.sets : ∀ {l : List Value} {w : World} (vs : List Value) (o : Nat), Lc T b l w → Lc T b (sets l o vs) (w.setCells b o vs)
  | l, w, [], o, h => h
  | l, w, v :: r, o, h => Lc.sets r (o + 1) (h.set o v)
theorem fr_sets (b : Nat) : ∀ (vs : List Value) (o : Nat) (w : World), Fr (On b) w (w.setCells b o vs)
  | [], o, w => Fr.refl _ _
  | v :: r, o, w => (fr_set b o v w).trans (fr_sets b r (o + 1) _)
theorem size_sets (b : Nat) : ∀ (vs : List Value) (o : Nat) (w : World), (w.setCells b o vs).heap.size = w.heap.size
  | [], o, w => rfl
  | v :: r, o, w => (size_sets b r (o + 1) _).trans (size_setCell _ _ _)
theorem Lc.range (h : Lc T b l w) (o : Nat) {cs : List Value} (hc : ∀ j v, cs[j]? = some v → l[o + j]? = some v) : w.rangeAt b o cs := fun j v hj => h.at (hc j v hj)
theorem Lc.there (h : Lc T b l w) {o n : Nat} (hn : o + n ≤ l.length) : w.there b o n := fun j hj => ⟨by rw [h.cell, List.getElem?_eq_getElem (by omega)]; rfl, h.fz _⟩
variable {ops : Array Oper} {rest : List Oper} {op : Oper} {a : Act} {Q : Exit → Act → World → Prop}
theorem wpList_load_box (h : Lc T b l w) (o : Nat) (cs : List Value) (hgd : op.guard = none) (ty : TypeId) (x : Operand) (ho : op.op = .load ty x) (hx : a.eval x = .pointer (some ⟨b, o, none⟩)) (hc : (l.drop o).take cs.length = cs)
    (d : TypeDesc) (hu : Tryz.prog.underlying ty = some d) (hd : d.isRow = true) (hi : (Tryz.prog.info? ty).map (·.size) = some cs.length)
    (k : wpList Tryz.prog ops Q rest (a.put op.dst (.agg cs.toArray)) w) : wpList Tryz.prog ops Q (op :: rest) a w := by
  refine wpList_load_mid hgd ty x ho b o hx cs d (h.range o fun j v hj => ?_) hu hd hi k
  have hl := (List.getElem?_eq_some_iff.1 hj).1
  rw [← hc, List.getElem?_take_of_lt hl, List.getElem?_drop] at hj
  exact hj
theorem wpList_store_box (h : Lc T b l w) (o : Nat) (cs : List Value) (hgd : op.guard = none) (ty : TypeId) (x y : Operand) (ho : op.op = .store ty x y) (hx : a.eval x = .pointer (some ⟨b, o, none⟩)) (hy : a.eval y = .agg cs.toArray)
    (hf : o + cs.length ≤ l.length) (hi : (Tryz.prog.info? ty).map (·.size) = some cs.length) (h1 : ∀ v ∈ cs, v.oneCell' = true) {l' : List Value} (hl : Go.Proofs.YtalmajiflmejcaaGreat.sets l o cs = l')
    (k : ∀ w', Lc T b l' w' → Fr (On b) w w' → w'.heap.size = w.heap.size → wpList Tryz.prog ops Q rest (a.put op.dst undef) w') : wpList Tryz.prog ops Q (op :: rest) a w := by
  refine wpList_store_mid hgd ty x y ho b o cs.toArray hx hy ?_ (by simpa using hi) (all_oneCell_toArray h1) ?_
  · have : cs.toArray.size = cs.length := by simp
    rw [this]; exact h.there hf
  · have e : cs.toArray.toList = cs := by simp
    rw [e]
    exact k _ (hl ▸ h.sets cs o) (fr_sets _ _ _ _) (size_sets _ _ _ _)
theorem results_box1 {fn : Func} {t : Tmp} {ty : TypeId} (hr : fn.results = #[.cell t ty]) {tmps : Array Value} (hp : tmps.getD t undef = .pointer (some ⟨b, 0, none⟩)) (h : Lc T b l w)
    {d : TypeDesc} (hu : Tryz.prog.underlying ty = some d) (hd : d.isRow = true) (hi : (Tryz.prog.info? ty).map (·.size) = some l.length) :
    (results fn tmps).run Tryz.prog w = .ok (.agg l.toArray) w := by
  have := run_loadVar_mid (P := Tryz.prog) w b 0 ty l d (h.range 0 fun j v hj => by rw [Nat.zero_add]; exact hj) hu hd hi
  rw [Array.getD_eq_getD_getElem?] at hp
  simp [results, hr, hp, asAddr, this]
theorem results_box2 {fn : Func} {t u : Tmp} {ty : TypeId} (hr : fn.results = #[.cell t ty, .tmp u]) {tmps : Array Value} (hp : tmps.getD t undef = .pointer (some ⟨b, 0, none⟩)) (h : Lc T b l w)
    {d : TypeDesc} (hu : Tryz.prog.underlying ty = some d) (hd : d.isRow = true) (hi : (Tryz.prog.info? ty).map (·.size) = some l.length) :
    (results fn tmps).run Tryz.prog w = .ok (.tuple #[.agg l.toArray, tmps.getD u undef]) w := by
  have := run_loadVar_mid (P := Tryz.prog) w b 0 ty l d (h.range 0 fun j v hj => by rw [Nat.zero_add]; exact hj) hu hd hi
  rw [Array.getD_eq_getD_getElem?] at hp
  simp [results, hr, hp, asAddr, this]
theorem results_box3 {fn : Func} {t u v : Tmp} {ty : TypeId} (hr : fn.results = #[.cell t ty, .tmp u, .tmp v]) {tmps : Array Value} (hp : tmps.getD t undef = .pointer (some ⟨b, 0, none⟩)) (h : Lc T b l w)
    {d : TypeDesc} (hu : Tryz.prog.underlying ty = some d) (hd : d.isRow = true) (hi : (Tryz.prog.info? ty).map (·.size) = some l.length) :
    (results fn tmps).run Tryz.prog w = .ok (.tuple #[.agg l.toArray, tmps.getD u undef, tmps.getD v undef]) w := by
  have := run_loadVar_mid (P := Tryz.prog) w b 0 ty l d (h.range 0 fun j v hj => by rw [Nat.zero_add]; exact hj) hu hd hi
  rw [Array.getD_eq_getD_getElem?] at hp
  simp [results, hr, hp, asAddr, this]
end
end Go.Proofs.YtalmajiflmejcaaGreat
