/- Each test of a byte in package kind, and each one of the document's answer, returns just what a plain function of the byte says, and leaves the world as it was; for every byte. -/
import Derived.Test.YtfbcmabpaecbjaaRows
import Derived.WalkKit
import Derived.ProofKit
import Derived.OpenShut
namespace Go.Proofs.Ytfbcmabpaecbjaa
open Go.ChangeShapes Go.WideShapes Go.ChangeAt Go.RowKit

def bt (c a b : Int) : Bool := decide (a ≤ c ∧ c ≤ b)
def digB (c : Int) : Bool := bt c 48 57
def octB (c : Int) : Bool := bt c 48 55
def smlB (c : Int) : Bool := bt c 97 122
def grtB (c : Int) : Bool := bt c 65 90
def letB (c : Int) : Bool := smlB c || grtB c
def ladB (c : Int) : Bool := letB c || digB c
def hedB (c : Int) : Bool := letB c || c == 95
def wrdB (c : Int) : Bool := hedB c || digB c
def blkB (c : Int) : Bool := c == 32 || c == 9
def spcB (c : Int) : Bool := c == 32 || bt c 9 13
def hexB (c : Int) : Bool := digB c || bt c 97 102 || bt c 65 70
def ctlB (c : Int) : Bool := decide (c < 32) || c == 127
def pctB (c : Int) : Bool := bt c 33 47 || bt c 58 64 || bt c 91 96 || bt c 123 126

theorem bt_yes {c a b : Int} (h1 : a ≤ c) (h2 : c ≤ b) : bt c a b = true := by simp [bt, h1, h2]
theorem bt_no1 {c a b : Int} (h1 : ¬ a ≤ c) : bt c a b = false := by simp [bt, h1]
theorem bt_no2 {c a b : Int} (h2 : ¬ c ≤ b) : bt c a b = false := by simp [bt, h2]

theorem between_any (c a b : Int) (w : World) :
    Calls Try.prog 41 #[.int .u8 c, .int .u8 a, .int .u8 b] w fun e w' => e = .returned (.bool (bt c a b)) ∧ w' = w := by
  by_cases h1 : a ≤ c
  · by_cases h2 : c ≤ b
    · rw [bt_yes h1 h2]
      go_enter Try.func41, Try.ntmps41
      go_wp2
      go_ret
      exact ⟨rfl, rfl⟩
    · rw [bt_no2 h2]
      go_enter Try.func41, Try.ntmps41
      go_wp2
      go_ret
      exact ⟨rfl, rfl⟩
  · rw [bt_no1 h1]
    go_enter Try.func41, Try.ntmps41
    go_wp2
    go_ret
    exact ⟨rfl, rfl⟩

theorem isDigit_any (c : Int) (w : World) :
    Calls Try.prog 46 #[.int .u8 c] w fun e w' => e = .returned (.bool (digB c)) ∧ w' = w := by
  unfold digB
  go_enter Try.func46, Try.ntmps46
  go_wp2_with (go_at_call 41; refine (between_any _ _ _ _).mono ?_; rintro e w' ⟨rfl, rfl⟩)
  go_ret
  exact ⟨rfl, rfl⟩

theorem isOctal_any (c : Int) (w : World) :
    Calls Try.prog 53 #[.int .u8 c] w fun e w' => e = .returned (.bool (octB c)) ∧ w' = w := by
  unfold octB
  go_enter Try.func53, Try.ntmps53
  go_wp2_with (go_at_call 41; refine (between_any _ _ _ _).mono ?_; rintro e w' ⟨rfl, rfl⟩)
  go_ret
  exact ⟨rfl, rfl⟩

theorem isSmall_any (c : Int) (w : World) :
    Calls Try.prog 34 #[.int .u8 c] w fun e w' => e = .returned (.bool (smlB c)) ∧ w' = w := by
  unfold smlB
  go_enter Try.func34, Try.ntmps34
  go_wp2_with (go_at_call 41; refine (between_any _ _ _ _).mono ?_; rintro e w' ⟨rfl, rfl⟩)
  go_ret
  exact ⟨rfl, rfl⟩

theorem isGreat_any (c : Int) (w : World) :
    Calls Try.prog 33 #[.int .u8 c] w fun e w' => e = .returned (.bool (grtB c)) ∧ w' = w := by
  unfold grtB
  go_enter Try.func33, Try.ntmps33
  go_wp2_with (go_at_call 41; refine (between_any _ _ _ _).mono ?_; rintro e w' ⟨rfl, rfl⟩)
  go_ret
  exact ⟨rfl, rfl⟩

theorem isLetter_any (c : Int) (w : World) :
    Calls Try.prog 45 #[.int .u8 c] w fun e w' => e = .returned (.bool (letB c)) ∧ w' = w := by
  unfold letB
  cases h : smlB c
  all_goals
    go_enter Try.func45, Try.ntmps45
    go_wp2_with (first | (go_at_call 34; refine (isSmall_any _ _).mono ?_; rintro e w' ⟨rfl, rfl⟩) | (go_at_call 33; refine (isGreat_any _ _).mono ?_; rintro e w' ⟨rfl, rfl⟩))
    go_ret
    exact ⟨rfl, rfl⟩

theorem isLetterOrDigit_any (c : Int) (w : World) :
    Calls Try.prog 47 #[.int .u8 c] w fun e w' => e = .returned (.bool (ladB c)) ∧ w' = w := by
  unfold ladB
  cases h : letB c
  all_goals
    go_enter Try.func47, Try.ntmps47
    go_wp2_with (first | (go_at_call 45; refine (isLetter_any _ _).mono ?_; rintro e w' ⟨rfl, rfl⟩) | (go_at_call 46; refine (isDigit_any _ _).mono ?_; rintro e w' ⟨rfl, rfl⟩))
    go_ret
    exact ⟨rfl, rfl⟩

theorem isHead_any (c : Int) (w : World) :
    Calls Try.prog 55 #[.int .u8 c] w fun e w' => e = .returned (.bool (hedB c)) ∧ w' = w := by
  unfold hedB
  cases h : letB c
  all_goals
    go_enter Try.func55, Try.ntmps55
    go_wp2_with (go_at_call 45; refine (isLetter_any _ _).mono ?_; rintro e w' ⟨rfl, rfl⟩)
    go_ret
    exact ⟨rfl, rfl⟩

theorem isWord_any (c : Int) (w : World) :
    Calls Try.prog 54 #[.int .u8 c] w fun e w' => e = .returned (.bool (wrdB c)) ∧ w' = w := by
  unfold wrdB
  cases h : hedB c
  all_goals
    go_enter Try.func54, Try.ntmps54
    go_wp2_with (first | (go_at_call 55; refine (isHead_any _ _).mono ?_; rintro e w' ⟨rfl, rfl⟩) | (go_at_call 46; refine (isDigit_any _ _).mono ?_; rintro e w' ⟨rfl, rfl⟩))
    go_ret
    exact ⟨rfl, rfl⟩

theorem isBlank_any (c : Int) (w : World) :
    Calls Try.prog 48 #[.int .u8 c] w fun e w' => e = .returned (.bool (blkB c)) ∧ w' = w := by
  unfold blkB
  cases h : (c == 32)
  all_goals
    go_enter Try.func48, Try.ntmps48
    go_wp2
    go_ret
    exact ⟨rfl, rfl⟩

theorem isSpace_any (c : Int) (w : World) :
    Calls Try.prog 49 #[.int .u8 c] w fun e w' => e = .returned (.bool (spcB c)) ∧ w' = w := by
  unfold spcB
  cases h : (c == 32)
  all_goals
    go_enter Try.func49, Try.ntmps49
    go_wp2_with (go_at_call 41; refine (between_any _ _ _ _).mono ?_; rintro e w' ⟨rfl, rfl⟩)
    go_ret
    exact ⟨rfl, rfl⟩

theorem isControl_any (c : Int) (w : World) :
    Calls Try.prog 51 #[.int .u8 c] w fun e w' => e = .returned (.bool (ctlB c)) ∧ w' = w := by
  unfold ctlB
  cases h : decide (c < 32)
  all_goals
    go_enter Try.func51, Try.ntmps51
    go_wp2
    go_ret
    exact ⟨rfl, rfl⟩

theorem isPunct_any (c : Int) (w : World) :
    Calls Try.prog 52 #[.int .u8 c] w fun e w' => e = .returned (.bool (pctB c)) ∧ w' = w := by
  unfold pctB
  cases h1 : bt c 33 47 <;> cases h2 : bt c 58 64 <;> cases h3 : bt c 91 96
  all_goals
    go_enter Try.func52, Try.ntmps52
    go_wp2_with (go_at_call 41; refine (between_any _ _ _ _).mono ?_; rintro e w' ⟨rfl, rfl⟩)
    go_ret
    exact ⟨rfl, rfl⟩

theorem isHex_any (c : Int) (w : World) :
    Calls Try.prog 50 #[.int .u8 c] w fun e w' => e = .returned (.bool (hexB c)) ∧ w' = w := by
  unfold hexB
  cases h1 : digB c <;> cases h2 : bt c 97 102
  all_goals
    go_enter Try.func50, Try.ntmps50
    go_wp2_with (first | (go_at_call 46; refine (isDigit_any _ _).mono ?_; rintro e w' ⟨rfl, rfl⟩) | (go_at_call 41; refine (between_any _ _ _ _).mono ?_; rintro e w' ⟨rfl, rfl⟩))
    go_ret
    exact ⟨rfl, rfl⟩

end Go.Proofs.Ytfbcmabpaecbjaa
