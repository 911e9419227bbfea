/- Texts that the proof of the law stands on: Leaf, Ref, Cls, MB, MM, MO, QB, QI, QH, QJ. -/
import Derived.Test.YtbnlenanfhggiaaRows
import Derived.WalkKit
import Derived.ProofKit
import Derived.OpenShut
import Derived.BigQuiet
import Derived.Laws.EntriesVeiled
import Derived.WalkSmall
import Derived.Below
import Derived.Deep.QuietTactic
import Derived.Maps.RangeWalk
import Derived.Maps.Ext
import Derived.Maps.AppendAt
import Derived.Deep.AppendLies
import Derived.Laws.IdiomStrings
import Derived.BigCall
import Derived.BigRegion
import Derived.LoopTactic
import Derived.RegionTactic
import Derived.Deep.RegionLaw
import Derived.Deep.RegionWith
import Derived.Deep.MidRow
import Derived.Laws.AppendOwn
import Derived.WalkLawsBesides
import Derived.Deep.Cut
import Derived.Deep.CutRange
import Derived.Laws.AppendOwnNone
import Derived.Laws.Concat
import Derived.Sort.LotA
import Derived.Sort.LotB
import Derived.Sort.LotC
/- Each test of a byte in package kind, and each one of the document's answer, returns just what a plain function of the byte says, and leaves the world as it was; for every byte. -/
namespace Go.Proofs.Ytbnlenanfhggiaa
open Go.ChangeShapes Go.WideShapes Go.ChangeAt Go.RowKit

def bt (c a b : Int) : Bool := decide (a ≤ c ∧ c ≤ b)
def digB (c : Int) : Bool := bt c 48 57
def octB (c : Int) : Bool := bt c 48 55
def smlB (c : Int) : Bool := bt c 97 122
def grtB (c : Int) : Bool := bt c 65 90
def letB (c : Int) : Bool := smlB c || grtB c
def ladB (c : Int) : Bool := letB c || digB c
def hedB (c : Int) : Bool := letB c || c == 95
def wrdB (c : Int) : Bool := hedB c || digB c
def blkB (c : Int) : Bool := c == 32 || c == 9
def spcB (c : Int) : Bool := c == 32 || bt c 9 13
def hexB (c : Int) : Bool := digB c || bt c 97 102 || bt c 65 70
def ctlB (c : Int) : Bool := decide (c < 32) || c == 127
def pctB (c : Int) : Bool := bt c 33 47 || bt c 58 64 || bt c 91 96 || bt c 123 126

theorem bt_yes {c a b : Int} (h1 : a ≤ c) (h2 : c ≤ b) : bt c a b = true := by simp [bt, h1, h2]
theorem bt_no1 {c a b : Int} (h1 : ¬ a ≤ c) : bt c a b = false := by simp [bt, h1]
theorem bt_no2 {c a b : Int} (h2 : ¬ c ≤ b) : bt c a b = false := by simp [bt, h2]

theorem between_any (c a b : Int) (w : World) :
    Calls Try.prog 53 #[.int .u8 c, .int .u8 a, .int .u8 b] w fun e w' => e = .returned (.bool (bt c a b)) ∧ w' = w := by
  by_cases h1 : a ≤ c
  · by_cases h2 : c ≤ b
    · rw [bt_yes h1 h2]
      go_enter Try.func53, Try.ntmps53
      go_wp2
      go_ret
      exact ⟨rfl, rfl⟩
    · rw [bt_no2 h2]
      go_enter Try.func53, Try.ntmps53
      go_wp2
      go_ret
      exact ⟨rfl, rfl⟩
  · rw [bt_no1 h1]
    go_enter Try.func53, Try.ntmps53
    go_wp2
    go_ret
    exact ⟨rfl, rfl⟩

theorem isDigit_any (c : Int) (w : World) :
    Calls Try.prog 62 #[.int .u8 c] w fun e w' => e = .returned (.bool (digB c)) ∧ w' = w := by
  unfold digB
  go_enter Try.func62, Try.ntmps62
  go_wp2_with (go_at_call 53; refine (between_any _ _ _ _).mono ?_; rintro e w' ⟨rfl, rfl⟩)
  go_ret
  exact ⟨rfl, rfl⟩

theorem isOctal_any (c : Int) (w : World) :
    Calls Try.prog 64 #[.int .u8 c] w fun e w' => e = .returned (.bool (octB c)) ∧ w' = w := by
  unfold octB
  go_enter Try.func64, Try.ntmps64
  go_wp2_with (go_at_call 53; refine (between_any _ _ _ _).mono ?_; rintro e w' ⟨rfl, rfl⟩)
  go_ret
  exact ⟨rfl, rfl⟩

theorem isSmall_any (c : Int) (w : World) :
    Calls Try.prog 68 #[.int .u8 c] w fun e w' => e = .returned (.bool (smlB c)) ∧ w' = w := by
  unfold smlB
  go_enter Try.func68, Try.ntmps68
  go_wp2_with (go_at_call 53; refine (between_any _ _ _ _).mono ?_; rintro e w' ⟨rfl, rfl⟩)
  go_ret
  exact ⟨rfl, rfl⟩

theorem isGreat_any (c : Int) (w : World) :
    Calls Try.prog 41 #[.int .u8 c] w fun e w' => e = .returned (.bool (grtB c)) ∧ w' = w := by
  unfold grtB
  go_enter Try.func41, Try.ntmps41
  go_wp2_with (go_at_call 53; refine (between_any _ _ _ _).mono ?_; rintro e w' ⟨rfl, rfl⟩)
  go_ret
  exact ⟨rfl, rfl⟩

theorem isLetter_any (c : Int) (w : World) :
    Calls Try.prog 67 #[.int .u8 c] w fun e w' => e = .returned (.bool (letB c)) ∧ w' = w := by
  unfold letB
  cases h : smlB c
  all_goals
    go_enter Try.func67, Try.ntmps67
    go_wp2_with (first | (go_at_call 68; refine (isSmall_any _ _).mono ?_; rintro e w' ⟨rfl, rfl⟩) | (go_at_call 41; refine (isGreat_any _ _).mono ?_; rintro e w' ⟨rfl, rfl⟩))
    go_ret
    exact ⟨rfl, rfl⟩


theorem isHead_any (c : Int) (w : World) :
    Calls Try.prog 66 #[.int .u8 c] w fun e w' => e = .returned (.bool (hedB c)) ∧ w' = w := by
  unfold hedB
  cases h : letB c
  all_goals
    go_enter Try.func66, Try.ntmps66
    go_wp2_with (go_at_call 67; refine (isLetter_any _ _).mono ?_; rintro e w' ⟨rfl, rfl⟩)
    go_ret
    exact ⟨rfl, rfl⟩

theorem isWord_any (c : Int) (w : World) :
    Calls Try.prog 65 #[.int .u8 c] w fun e w' => e = .returned (.bool (wrdB c)) ∧ w' = w := by
  unfold wrdB
  cases h : hedB c
  all_goals
    go_enter Try.func65, Try.ntmps65
    go_wp2_with (first | (go_at_call 66; refine (isHead_any _ _).mono ?_; rintro e w' ⟨rfl, rfl⟩) | (go_at_call 62; refine (isDigit_any _ _).mono ?_; rintro e w' ⟨rfl, rfl⟩))
    go_ret
    exact ⟨rfl, rfl⟩

theorem isBlank_any (c : Int) (w : World) :
    Calls Try.prog 69 #[.int .u8 c] w fun e w' => e = .returned (.bool (blkB c)) ∧ w' = w := by
  unfold blkB
  cases h : (c == 32)
  all_goals
    go_enter Try.func69, Try.ntmps69
    go_wp2
    go_ret
    exact ⟨rfl, rfl⟩


theorem isHex_any (c : Int) (w : World) :
    Calls Try.prog 63 #[.int .u8 c] w fun e w' => e = .returned (.bool (hexB c)) ∧ w' = w := by
  unfold hexB
  cases h1 : digB c <;> cases h2 : bt c 97 102
  all_goals
    go_enter Try.func63, Try.ntmps63
    go_wp2_with (first | (go_at_call 62; refine (isDigit_any _ _).mono ?_; rintro e w' ⟨rfl, rfl⟩) | (go_at_call 53; refine (between_any _ _ _ _).mono ?_; rintro e w' ⟨rfl, rfl⟩))
    go_ret
    exact ⟨rfl, rfl⟩

end Go.Proofs.Ytbnlenanfhggiaa
/- The document's answer for one byte (its classes, its letters) returns just what plain functions of the byte say, and leaves the world as it was. -/
namespace Go.Proofs.Ytbnlenanfhggiaa
open Go.ChangeShapes Go.WideShapes Go.ChangeAt Go.RowKit

def smI (c : Int) : Int := if grtB c then c + 32 else c
def grI (c : Int) : Int := if smlB c then c - 32 else c
def knB (k : Int) : Bool := k == 100 || k == 120 || k == 111 || k == 119 || k == 104 || k == 97 || k == 108 || k == 117 || k == 115
def clsB (k c : Int) : Bool :=
  if k = 100 then digB c else if k = 120 then hexB c else if k = 111 then octB c else if k = 119 then wrdB c else if k = 104 then hedB c
  else if k = 97 then letB c else if k = 108 then smlB c else if k = 117 then grtB c else if k = 115 then blkB c else false
def isB (k c : Int) : Bool := knB (smI k) && (clsB (smI k) c != grtB k)

theorem ret_u8 {a b : Int} (h : a = b) : Ending.returned (.int .u8 a) = .returned (.int .u8 b) := by rw [h]
theorem grtB_iff {c : Int} : grtB c = true ↔ 65 ≤ c ∧ c ≤ 90 := by simp [grtB, bt]
theorem smlB_iff {c : Int} : smlB c = true ↔ 97 ≤ c ∧ c ≤ 122 := by simp [smlB, bt]
theorem knB_no {k : Int} (h : knB k = false) : (k == 100) = false ∧ (k == 120) = false ∧ (k == 111) = false ∧ (k == 119) = false ∧ (k == 104) = false ∧ (k == 97) = false ∧ (k == 108) = false ∧ (k == 117) = false ∧ (k == 115) = false := by
  simpa [knB, and_assoc] using h
theorem knB_yes {k : Int} (h : knB k = true) : k = 100 ∨ k = 120 ∨ k = 111 ∨ k = 119 ∨ k = 104 ∨ k = 97 ∨ k = 108 ∨ k = 117 ∨ k = 115 := by
  simpa [knB, or_assoc] using h
theorem clsB_no {k : Int} (c : Int) (h : knB k = false) : clsB k c = false := by
  obtain ⟨h1, h2, h3, h4, h5, h6, h7, h8, h9⟩ := knB_no h
  simp only [beq_eq_false_iff_ne, ne_eq] at h1 h2 h3 h4 h5 h6 h7 h8 h9
  simp [clsB, h1, h2, h3, h4, h5, h6, h7, h8, h9]

-- BEGIN rbetween
theorem rbetween_any (c a b : Int) (w : World) :
    Calls Try.prog 59 #[.int .u8 c, .int .u8 a, .int .u8 b] w fun e w' => e = .returned (.bool (bt c a b)) ∧ w' = w := by
  by_cases h1 : a ≤ c
  · by_cases h2 : c ≤ b
    · rw [bt_yes h1 h2]
      go_enter Try.func59, Try.ntmps59
      go_wp2
      go_ret
      exact ⟨rfl, rfl⟩
    · rw [bt_no2 h2]
      go_enter Try.func59, Try.ntmps59
      go_wp2
      go_ret
      exact ⟨rfl, rfl⟩
  · rw [bt_no1 h1]
    go_enter Try.func59, Try.ntmps59
    go_wp2
    go_ret
    exact ⟨rfl, rfl⟩
-- END
-- BEGIN rbetween rsmall
theorem rsmall_any (c : Int) (w : World) :
    Calls Try.prog 60 #[.int .u8 c] w fun e w' => e = .returned (.bool (smlB c)) ∧ w' = w := by
  unfold smlB
  go_enter Try.func60, Try.ntmps60
  go_wp2_with (go_at_call 59; refine (rbetween_any _ _ _ _).mono ?_; rintro e w' ⟨rfl, rfl⟩)
  go_ret
  exact ⟨rfl, rfl⟩
-- END
-- BEGIN rbetween rgreat
theorem rgreat_any (c : Int) (w : World) :
    Calls Try.prog 49 #[.int .u8 c] w fun e w' => e = .returned (.bool (grtB c)) ∧ w' = w := by
  unfold grtB
  go_enter Try.func49, Try.ntmps49
  go_wp2_with (go_at_call 59; refine (rbetween_any _ _ _ _).mono ?_; rintro e w' ⟨rfl, rfl⟩)
  go_ret
  exact ⟨rfl, rfl⟩
-- END
-- BEGIN rbetween rdigit
theorem rdigit_any (c : Int) (w : World) :
    Calls Try.prog 58 #[.int .u8 c] w fun e w' => e = .returned (.bool (digB c)) ∧ w' = w := by
  unfold digB
  go_enter Try.func58, Try.ntmps58
  go_wp2_with (go_at_call 59; refine (rbetween_any _ _ _ _).mono ?_; rintro e w' ⟨rfl, rfl⟩)
  go_ret
  exact ⟨rfl, rfl⟩
-- END
-- BEGIN rSmall rgreat
theorem rSmall_any (c : Int) (w : World) :
    Calls Try.prog 37 #[.int .u8 c] w fun e w' => e = .returned (.int .u8 (smI c)) ∧ w' = w := by
  unfold smI
  cases h : grtB c
  · go_enter Try.func37, Try.ntmps37
    go_wp2_with (go_at_call 49; refine (rgreat_any _ _).mono ?_; rintro e w' ⟨rfl, rfl⟩)
    go_ret
    exact ⟨rfl, rfl⟩
  · obtain ⟨h1, h2⟩ := grtB_iff.1 h
    go_enter Try.func37, Try.ntmps37
    go_wp2_with (go_at_call 49; refine (rgreat_any _ _).mono ?_; rintro e w' ⟨rfl, rfl⟩)
    go_ret
    exact ⟨rfl, rfl⟩
-- END
-- END
-- BEGIN plain
theorem plain_no (k c : Int) (w : World) (h : knB k = false) :
    Calls Try.prog 48 #[.int .u8 k, .int .u8 c] w fun e w' => e = .returned (.tuple #[.bool false, .bool false]) ∧ w' = w := by
  obtain ⟨h1, h2, h3, h4, h5, h6, h7, h8, h9⟩ := knB_no h
  clear h
  go_enter Try.func48, Try.ntmps48
  go_wp2
  go_ret2
  exact ⟨rfl, rfl⟩
theorem plain_d (c : Int) (w : World) :
    Calls Try.prog 48 #[.int .u8 100, .int .u8 c] w fun e w' => e = .returned (.tuple #[.bool (digB c), .bool true]) ∧ w' = w := by
  go_enter Try.func48, Try.ntmps48
  go_wp2_with (go_at_call 58; refine (rdigit_any _ _).mono ?_; rintro e w' ⟨rfl, rfl⟩)
  go_ret2
  exact ⟨rfl, rfl⟩
theorem plain_x (c : Int) (w : World) :
    Calls Try.prog 48 #[.int .u8 120, .int .u8 c] w fun e w' => e = .returned (.tuple #[.bool (hexB c), .bool true]) ∧ w' = w := by
  unfold hexB
  cases h1 : digB c <;> cases h2 : bt c 97 102
  all_goals
    go_enter Try.func48, Try.ntmps48
    go_wp2_with (first | (go_at_call 58; refine (rdigit_any _ _).mono ?_; rintro e w' ⟨rfl, rfl⟩) | (go_at_call 59; refine (rbetween_any _ _ _ _).mono ?_; rintro e w' ⟨rfl, rfl⟩))
    go_ret2
    exact ⟨rfl, rfl⟩
theorem plain_o (c : Int) (w : World) :
    Calls Try.prog 48 #[.int .u8 111, .int .u8 c] w fun e w' => e = .returned (.tuple #[.bool (octB c), .bool true]) ∧ w' = w := by
  unfold octB
  go_enter Try.func48, Try.ntmps48
  go_wp2_with (go_at_call 59; refine (rbetween_any _ _ _ _).mono ?_; rintro e w' ⟨rfl, rfl⟩)
  go_ret2
  exact ⟨rfl, rfl⟩
theorem wrd_other (c : Int) : wrdB c = (smlB c || grtB c || digB c || c == 95) := by
  unfold wrdB hedB letB
  cases smlB c <;> cases grtB c <;> cases digB c <;> cases (c == 95) <;> rfl
theorem plain_w (c : Int) (w : World) :
    Calls Try.prog 48 #[.int .u8 119, .int .u8 c] w fun e w' => e = .returned (.tuple #[.bool (wrdB c), .bool true]) ∧ w' = w := by
  rw [wrd_other]
  cases h1 : smlB c <;> cases h2 : grtB c <;> cases h3 : digB c
  all_goals
    go_enter Try.func48, Try.ntmps48
    go_wp2_with (first | (go_at_call 58; refine (rdigit_any _ _).mono ?_; rintro e w' ⟨rfl, rfl⟩) | (go_at_call 60; refine (rsmall_any _ _).mono ?_; rintro e w' ⟨rfl, rfl⟩) | (go_at_call 49; refine (rgreat_any _ _).mono ?_; rintro e w' ⟨rfl, rfl⟩))
    go_ret2
    exact ⟨rfl, rfl⟩
theorem plain_h (c : Int) (w : World) :
    Calls Try.prog 48 #[.int .u8 104, .int .u8 c] w fun e w' => e = .returned (.tuple #[.bool (hedB c), .bool true]) ∧ w' = w := by
  unfold hedB letB
  cases h1 : smlB c <;> cases h2 : grtB c
  all_goals
    go_enter Try.func48, Try.ntmps48
    go_wp2_with (first | (go_at_call 60; refine (rsmall_any _ _).mono ?_; rintro e w' ⟨rfl, rfl⟩) | (go_at_call 49; refine (rgreat_any _ _).mono ?_; rintro e w' ⟨rfl, rfl⟩))
    go_ret2
    exact ⟨rfl, rfl⟩
theorem plain_a (c : Int) (w : World) :
    Calls Try.prog 48 #[.int .u8 97, .int .u8 c] w fun e w' => e = .returned (.tuple #[.bool (letB c), .bool true]) ∧ w' = w := by
  unfold letB
  cases h1 : smlB c
  all_goals
    go_enter Try.func48, Try.ntmps48
    go_wp2_with (first | (go_at_call 60; refine (rsmall_any _ _).mono ?_; rintro e w' ⟨rfl, rfl⟩) | (go_at_call 49; refine (rgreat_any _ _).mono ?_; rintro e w' ⟨rfl, rfl⟩))
    go_ret2
    exact ⟨rfl, rfl⟩
theorem plain_l (c : Int) (w : World) :
    Calls Try.prog 48 #[.int .u8 108, .int .u8 c] w fun e w' => e = .returned (.tuple #[.bool (smlB c), .bool true]) ∧ w' = w := by
  go_enter Try.func48, Try.ntmps48
  go_wp2_with (go_at_call 60; refine (rsmall_any _ _).mono ?_; rintro e w' ⟨rfl, rfl⟩)
  go_ret2
  exact ⟨rfl, rfl⟩
theorem plain_u (c : Int) (w : World) :
    Calls Try.prog 48 #[.int .u8 117, .int .u8 c] w fun e w' => e = .returned (.tuple #[.bool (grtB c), .bool true]) ∧ w' = w := by
  go_enter Try.func48, Try.ntmps48
  go_wp2_with (go_at_call 49; refine (rgreat_any _ _).mono ?_; rintro e w' ⟨rfl, rfl⟩)
  go_ret2
  exact ⟨rfl, rfl⟩
theorem plain_s (c : Int) (w : World) :
    Calls Try.prog 48 #[.int .u8 115, .int .u8 c] w fun e w' => e = .returned (.tuple #[.bool (blkB c), .bool true]) ∧ w' = w := by
  unfold blkB
  cases h : (c == 32)
  all_goals
    go_enter Try.func48, Try.ntmps48
    go_wp2
    go_ret2
    exact ⟨rfl, rfl⟩
theorem plain_any (k c : Int) (w : World) :
    Calls Try.prog 48 #[.int .u8 k, .int .u8 c] w fun e w' => e = .returned (.tuple #[.bool (clsB k c), .bool (knB k)]) ∧ w' = w := by
  cases h : knB k
  · rw [clsB_no c h]
    exact plain_no k c w h
  · rcases knB_yes h with rfl | rfl | rfl | rfl | rfl | rfl | rfl | rfl | rfl
    · exact plain_d c w
    · exact plain_x c w
    · exact plain_o c w
    · exact plain_w c w
    · exact plain_h c w
    · exact plain_a c w
    · exact plain_l c w
    · exact plain_u c w
    · exact plain_s c w
-- END
-- END
-- BEGIN plain rIs rSmall rgreat
theorem rIs_any (k c : Int) (w : World) :
    Calls Try.prog 33 #[.int .u8 k, .int .u8 c] w fun e w' => e = .returned (.bool (isB k c)) ∧ w' = w := by
  unfold isB
  cases h1 : knB (smI k) <;> cases h2 : grtB k
  all_goals
    go_enter Try.func33, Try.ntmps33
    go_wp2_with (first | (go_at_call 37; refine (rSmall_any _ _).mono ?_; rintro e w' ⟨rfl, rfl⟩) | (go_at_call 48; refine (plain_any _ _ _).mono ?_; rintro e w' ⟨rfl, rfl⟩) | (go_at_call 49; refine (rgreat_any _ _).mono ?_; rintro e w' ⟨rfl, rfl⟩))
    go_ret
    exact ⟨by simp, rfl⟩
-- END
-- END

end Go.Proofs.Ytbnlenanfhggiaa
/- The calls of package kind that ask one byte (Small, Great, Same, Known, Is) return just what plain functions of the bytes say, and write nothing that was there. -/
namespace Go.Proofs.Ytbnlenanfhggiaa
open Go.ChangeShapes Go.WideShapes Go.ChangeAt Go.RowKit

theorem bw_alloc {a b : World} (h : Below a.heap.size a b) (o : Obj) : Below a.heap.size a (b.alloc o) := h.alloc h.size o
theorem bw_trans {a b c : World} (h : Below a.heap.size a b) (k : Below b.heap.size b c) : Below a.heap.size a c := h.trans (k.mono h.size)

theorem kSmall_any (c : Int) (w : World) :
    Calls Try.prog 27 #[.int .u8 c] w fun e w' => e = .returned (.int .u8 (smI c)) ∧ w' = w := by
  unfold smI
  cases h : grtB c
  · go_enter Try.func27, Try.ntmps27
    go_wp2_with (go_at_call 41; refine (isGreat_any _ _).mono ?_; rintro e w' ⟨rfl, rfl⟩)
    go_ret
    exact ⟨rfl, rfl⟩
  · obtain ⟨h1, h2⟩ := grtB_iff.1 h
    go_enter Try.func27, Try.ntmps27
    go_wp2_with (go_at_call 41; refine (isGreat_any _ _).mono ?_; rintro e w' ⟨rfl, rfl⟩)
    go_ret
    exact ⟨ret_u8 (by omega), rfl⟩
-- END
/-- the test of a class, by its small letter -/
def fnum (k : Int) : Option Nat :=
  if k = 100 then some 62 else if k = 120 then some 63 else if k = 111 then some 64 else if k = 119 then some 65 else if k = 104 then some 66
  else if k = 97 then some 67 else if k = 108 then some 68 else if k = 117 then some 41 else if k = 115 then some 69 else none
theorem fnum_some {k : Int} {n : Nat} (h : fnum k = some n) : (k = 100 ∧ n = 62) ∨ (k = 120 ∧ n = 63) ∨ (k = 111 ∧ n = 64) ∨ (k = 119 ∧ n = 65) ∨ (k = 104 ∧ n = 66) ∨ (k = 97 ∧ n = 67) ∨ (k = 108 ∧ n = 68) ∨ (k = 117 ∧ n = 41) ∨ (k = 115 ∧ n = 69) := by
  unfold fnum at h
  repeat' split at h
  all_goals simp at h
  all_goals omega
theorem fnum_none {k : Int} (h : fnum k = none) : knB k = false := by
  cases hk : knB k
  · rfl
  · rcases knB_yes hk with rfl | rfl | rfl | rfl | rfl | rfl | rfl | rfl | rfl <;> simp [fnum] at h
theorem fnum_is {k : Int} {n : Nat} (h : fnum k = some n) : knB k = true := by
  rcases fnum_some h with ⟨rfl, _⟩ | ⟨rfl, _⟩ | ⟨rfl, _⟩ | ⟨rfl, _⟩ | ⟨rfl, _⟩ | ⟨rfl, _⟩ | ⟨rfl, _⟩ | ⟨rfl, _⟩ | ⟨rfl, _⟩ <;> rfl

theorem test_yes {k : Int} {n : Nat} (h : fnum k = some n) (c : Int) (w : World) :
    Calls Try.prog n #[.int .u8 c] w fun e w' => e = .returned (.bool (clsB k c)) ∧ w' = w := by
  rcases fnum_some h with ⟨rfl, rfl⟩ | ⟨rfl, rfl⟩ | ⟨rfl, rfl⟩ | ⟨rfl, rfl⟩ | ⟨rfl, rfl⟩ | ⟨rfl, rfl⟩ | ⟨rfl, rfl⟩ | ⟨rfl, rfl⟩ | ⟨rfl, rfl⟩
  · exact isDigit_any c w
  · exact isHex_any c w
  · exact isOctal_any c w
  · exact isWord_any c w
  · exact isHead_any c w
  · exact isLetter_any c w
  · exact isSmall_any c w
  · exact isGreat_any c w
  · exact isBlank_any c w

theorem classTest_no {k : Int} (h : fnum k = none) (w : World) :
    Calls Try.prog 54 #[.int .u8 k] w fun e w' => e = .returned .nilFunc ∧ w' = w := by
  obtain ⟨h1, h2, h3, h4, h5, h6, h7, h8, h9⟩ := knB_no (fnum_none h)
  clear h
  go_enter Try.func54, Try.ntmps54
  go_wp2
  go_ret
  exact ⟨rfl, rfl⟩
theorem classTest_yes {k : Int} {n : Nat} (h : fnum k = some n) (w : World) :
    Calls Try.prog 54 #[.int .u8 k] w fun e w' => e = .returned (.func (Fn.func n) #[] #[]) ∧ w' = w := by
  rcases fnum_some h with ⟨rfl, rfl⟩ | ⟨rfl, rfl⟩ | ⟨rfl, rfl⟩ | ⟨rfl, rfl⟩ | ⟨rfl, rfl⟩ | ⟨rfl, rfl⟩ | ⟨rfl, rfl⟩ | ⟨rfl, rfl⟩ | ⟨rfl, rfl⟩
  all_goals
    clear h
    go_enter Try.func54, Try.ntmps54
    go_wp2
    go_ret
    exact ⟨rfl, rfl⟩

theorem eql_nil (w : World) : Sem.run Try.prog (binOp BinOp.eql 73 Value.nilFunc Value.nilFunc) w = .ok (.bool true) w := by kernel_rfl
theorem eql_fn (n : Nat) (w : World) : Sem.run Try.prog (binOp BinOp.eql 73 (Value.func (Fn.func n) #[] #[]) Value.nilFunc) w = .ok (.bool false) w := by kernel_rfl

theorem classOf_no {k : Int} (h : fnum (smI k) = none) (w : World) :
    Calls Try.prog 43 #[.int .u8 k] w fun e w' => e = .returned (.tuple #[.agg #[.nilFunc, .bool false], .bool false]) ∧ Below w.heap.size w w' := by
  have hq := eql_nil
  go_enter Try.func43, Try.ntmps43
  go_wp2_with (first | (go_at_call 27; refine (kSmall_any _ _).mono ?_; rintro e w' ⟨rfl, rfl⟩) | (go_at_call 54; refine (classTest_no h _).mono ?_; rintro e w' ⟨rfl, rfl⟩))
  exact bodyPost_ret (v := .tuple #[.agg #[.nilFunc, .bool false], .bool false]) (by simp [results, Try.results43, go_sem]) rfl ⟨rfl, bw_alloc (Below.refl _ _) _⟩
theorem classOf_yes {k : Int} {n : Nat} (h : fnum (smI k) = some n) (w : World) :
    Calls Try.prog 43 #[.int .u8 k] w fun e w' => e = .returned (.tuple #[.agg #[.func (Fn.func n) #[] #[], .bool (smI k != k)], .bool true]) ∧ Below w.heap.size w w' := by
  have hq := eql_fn n
  go_enter Try.func43, Try.ntmps43
  go_wp2_with (first | (go_at_call 27; refine (kSmall_any _ _).mono ?_; rintro e w' ⟨rfl, rfl⟩) | (go_at_call 54; refine (classTest_yes h _).mono ?_; rintro e w' ⟨rfl, rfl⟩))
  exact bodyPost_ret (v := .tuple #[.agg #[.func (Fn.func n) #[] #[], .bool (smI k != k)], .bool true]) (by simp [results, Try.results43, go_sem]) rfl ⟨rfl, bw_alloc (Below.refl _ _) _⟩

theorem ghas_isDigit (o : Bool) (c : Int) (w : World) :
    Calls Try.prog 44 #[.agg #[.func (Fn.func 62) #[] #[], .bool o], .int .u8 c] w fun e w' => e = .returned (.bool (digB c != o)) ∧ Below w.heap.size w w' := by
  go_enter Try.func44, Try.ntmps44
  go_wp2
  go_quiet ((go_at_call 62; exact Calls.quiet_of_same (isDigit_any _ _)))
  go_wp2
  go_ret
  exact ⟨rfl, below_drewN (bw_alloc (Below.refl _ _) _) _⟩
theorem ghas_isHex (o : Bool) (c : Int) (w : World) :
    Calls Try.prog 44 #[.agg #[.func (Fn.func 63) #[] #[], .bool o], .int .u8 c] w fun e w' => e = .returned (.bool (hexB c != o)) ∧ Below w.heap.size w w' := by
  go_enter Try.func44, Try.ntmps44
  go_wp2
  go_quiet ((go_at_call 63; exact Calls.quiet_of_same (isHex_any _ _)))
  go_wp2
  go_ret
  exact ⟨rfl, below_drewN (bw_alloc (Below.refl _ _) _) _⟩
theorem ghas_isOctal (o : Bool) (c : Int) (w : World) :
    Calls Try.prog 44 #[.agg #[.func (Fn.func 64) #[] #[], .bool o], .int .u8 c] w fun e w' => e = .returned (.bool (octB c != o)) ∧ Below w.heap.size w w' := by
  go_enter Try.func44, Try.ntmps44
  go_wp2
  go_quiet ((go_at_call 64; exact Calls.quiet_of_same (isOctal_any _ _)))
  go_wp2
  go_ret
  exact ⟨rfl, below_drewN (bw_alloc (Below.refl _ _) _) _⟩
theorem ghas_isWord (o : Bool) (c : Int) (w : World) :
    Calls Try.prog 44 #[.agg #[.func (Fn.func 65) #[] #[], .bool o], .int .u8 c] w fun e w' => e = .returned (.bool (wrdB c != o)) ∧ Below w.heap.size w w' := by
  go_enter Try.func44, Try.ntmps44
  go_wp2
  go_quiet ((go_at_call 65; exact Calls.quiet_of_same (isWord_any _ _)))
  go_wp2
  go_ret
  exact ⟨rfl, below_drewN (bw_alloc (Below.refl _ _) _) _⟩
theorem ghas_isHead (o : Bool) (c : Int) (w : World) :
    Calls Try.prog 44 #[.agg #[.func (Fn.func 66) #[] #[], .bool o], .int .u8 c] w fun e w' => e = .returned (.bool (hedB c != o)) ∧ Below w.heap.size w w' := by
  go_enter Try.func44, Try.ntmps44
  go_wp2
  go_quiet ((go_at_call 66; exact Calls.quiet_of_same (isHead_any _ _)))
  go_wp2
  go_ret
  exact ⟨rfl, below_drewN (bw_alloc (Below.refl _ _) _) _⟩
theorem ghas_isLetter (o : Bool) (c : Int) (w : World) :
    Calls Try.prog 44 #[.agg #[.func (Fn.func 67) #[] #[], .bool o], .int .u8 c] w fun e w' => e = .returned (.bool (letB c != o)) ∧ Below w.heap.size w w' := by
  go_enter Try.func44, Try.ntmps44
  go_wp2
  go_quiet ((go_at_call 67; exact Calls.quiet_of_same (isLetter_any _ _)))
  go_wp2
  go_ret
  exact ⟨rfl, below_drewN (bw_alloc (Below.refl _ _) _) _⟩
theorem ghas_isSmall (o : Bool) (c : Int) (w : World) :
    Calls Try.prog 44 #[.agg #[.func (Fn.func 68) #[] #[], .bool o], .int .u8 c] w fun e w' => e = .returned (.bool (smlB c != o)) ∧ Below w.heap.size w w' := by
  go_enter Try.func44, Try.ntmps44
  go_wp2
  go_quiet ((go_at_call 68; exact Calls.quiet_of_same (isSmall_any _ _)))
  go_wp2
  go_ret
  exact ⟨rfl, below_drewN (bw_alloc (Below.refl _ _) _) _⟩
theorem ghas_isGreat (o : Bool) (c : Int) (w : World) :
    Calls Try.prog 44 #[.agg #[.func (Fn.func 41) #[] #[], .bool o], .int .u8 c] w fun e w' => e = .returned (.bool (grtB c != o)) ∧ Below w.heap.size w w' := by
  go_enter Try.func44, Try.ntmps44
  go_wp2
  go_quiet ((go_at_call 41; exact Calls.quiet_of_same (isGreat_any _ _)))
  go_wp2
  go_ret
  exact ⟨rfl, below_drewN (bw_alloc (Below.refl _ _) _) _⟩
theorem ghas_isBlank (o : Bool) (c : Int) (w : World) :
    Calls Try.prog 44 #[.agg #[.func (Fn.func 69) #[] #[], .bool o], .int .u8 c] w fun e w' => e = .returned (.bool (blkB c != o)) ∧ Below w.heap.size w w' := by
  go_enter Try.func44, Try.ntmps44
  go_wp2
  go_quiet ((go_at_call 69; exact Calls.quiet_of_same (isBlank_any _ _)))
  go_wp2
  go_ret
  exact ⟨rfl, below_drewN (bw_alloc (Below.refl _ _) _) _⟩
theorem ghas_any {k : Int} {n : Nat} (h : fnum k = some n) (o : Bool) (c : Int) (w : World) :
    Calls Try.prog 44 #[.agg #[.func (Fn.func n) #[] #[], .bool o], .int .u8 c] w fun e w' => e = .returned (.bool (clsB k c != o)) ∧ Below w.heap.size w w' := by
  rcases fnum_some h with ⟨rfl, rfl⟩ | ⟨rfl, rfl⟩ | ⟨rfl, rfl⟩ | ⟨rfl, rfl⟩ | ⟨rfl, rfl⟩ | ⟨rfl, rfl⟩ | ⟨rfl, rfl⟩ | ⟨rfl, rfl⟩ | ⟨rfl, rfl⟩
  · exact ghas_isDigit o c w
  · exact ghas_isHex o c w
  · exact ghas_isOctal o c w
  · exact ghas_isWord o c w
  · exact ghas_isHead o c w
  · exact ghas_isLetter o c w
  · exact ghas_isSmall o c w
  · exact ghas_isGreat o c w
  · exact ghas_isBlank o c w

theorem great_is (k : Int) : (smI k != k) = grtB k := by
  unfold smI
  cases h : grtB k
  · simp
  · simp
    omega

theorem kIs_any (k c : Int) (w : World) :
    Calls Try.prog 30 #[.int .u8 k, .int .u8 c] w fun e w' => e = .returned (.bool (isB k c)) ∧ Below w.heap.size w w' := by
  unfold isB
  cases h : fnum (smI k) with
  | none =>
    rw [fnum_none h]
    go_enter Try.func30, Try.ntmps30
    go_wp2_with (go_at_call 43; refine (classOf_no h _).mono ?_; rintro e w1 ⟨rfl, hb1⟩)
    go_ret
    exact ⟨rfl, bw_alloc hb1 _⟩
  | some n =>
    rw [fnum_is h, ← great_is k, Bool.true_and]
    go_enter Try.func30, Try.ntmps30
    go_wp2_with (first | (go_at_call 43; refine (classOf_yes h _).mono ?_; rintro e w1 ⟨rfl, hb1⟩) | (go_at_call 44; refine (ghas_any h _ _ _).mono ?_; rintro e w2 ⟨rfl, hb2⟩))
    go_ret
    exact ⟨rfl, bw_trans (bw_alloc hb1 _) hb2⟩

-- END

end Go.Proofs.Ytbnlenanfhggiaa
/- What memory holds, and what a call leaves as it was. -/
namespace Go.Proofs.Ytbnlenanfhggiaa
open Go.ChangeShapes Go.WideShapes Go.ChangeAt Go.RowKit
set_option linter.unusedVariables false
set_option linter.unusedSimpArgs false
theorem drewN_heap (w : World) (n : Nat) : (w.drewN n).heap = w.heap := by induction n generalizing w <;> simp_all [World.drewN]
theorem drew2 (w : World) (a b : Nat) : (w.drewN a).drewN b = w.drewN (a + b) := by
  have e : ∀ (n : Nat) (w : World), w.drewN n = { w with drawn := w.drawn + n } := by
    intro n
    induction n with
    | zero => intro w; rfl
    | succ n ih => intro w; simp [World.drewN, World.drew, ih, Nat.add_assoc, Nat.add_comm 1 n]
  simp [e, Nat.add_assoc]
theorem heap_setCell {w : World} {b off : Nat} {v : Value} {cur : Array Value} {e : TypeId} {fr : Nat × Nat} (hg : w.heap[b]? = some (.cells cur e fr)) :
    (w.setCell ⟨b, off, none⟩ v).heap[b]? = some (.cells (cur.setIfInBounds off v) e fr) := by
  have hlt : b < w.heap.size := (Array.getElem?_eq_some_iff.1 hg).1
  simp [World.setCell, Array.getElem?_modify, hg]
theorem heap_setCell_other {w : World} {b off k : Nat} {v : Value} (hk : k ≠ b) : (w.setCell ⟨b, off, none⟩ v).heap[k]? = w.heap[k]? := by
  simp [World.setCell, Array.getElem?_modify, Ne.symm hk]
theorem size_setCell (w : World) (a : Addr) (v : Value) : (w.setCell a v).heap.size = w.heap.size := by simp [World.setCell]
theorem alloc_new (w : World) (ob : Obj) : (w.alloc ob).heap[w.heap.size]? = some ob := by show (w.heap.push ob)[w.heap.size]? = _; simp
theorem alloc_old (w : World) (ob : Obj) (k : Nat) (hk : k < w.heap.size) : (w.alloc ob).heap[k]? = w.heap[k]? := by
  show (w.heap.push ob)[k]? = _; rw [Array.getElem?_push_lt hk, Array.getElem?_eq_getElem hk]
theorem alloc_size (w : World) (ob : Obj) : (w.alloc ob).heap.size = w.heap.size + 1 := by show (w.heap.push ob).size = _; simp

/-- From w to w' no block that was there has turned but those of which 'S' speaks. -/
structure Fr (S : Nat → Prop) (w w' : World) : Prop where
  os : w'.os = w.os
  tape : w'.tape = w.tape
  output : w'.output = w.output
  size : w.heap.size ≤ w'.heap.size
  block : ∀ k, k < w.heap.size → ¬ S k → w'.heap[k]? = w.heap[k]?
section
variable {S S' : Nat → Prop} {w w1 w2 : World}
theorem Fr.refl (S : Nat → Prop) (w : World) : Fr S w w := ⟨rfl, rfl, rfl, Nat.le_refl _, fun _ _ _ => rfl⟩
theorem Fr.trans' (h : Fr S w w1) (h' : Fr S' w1 w2) (hs : ∀ k, k < w.heap.size → S' k → S k) : Fr S w w2 :=
  ⟨h'.os.trans h.os, h'.tape.trans h.tape, h'.output.trans h.output, Nat.le_trans h.size h'.size,
   fun k hk hn => (h'.block k (Nat.lt_of_lt_of_le hk h.size) (fun hq => hn (hs k hk hq))).trans (h.block k hk hn)⟩
theorem Fr.trans (h : Fr S w w1) (h' : Fr S w1 w2) : Fr S w w2 := h.trans' h' fun _ _ q => q
theorem Fr.mono (h : Fr S w w1) (hs : ∀ k, k < w.heap.size → S k → S' k) : Fr S' w w1 := ⟨h.os, h.tape, h.output, h.size, fun k hk hn => h.block k hk fun q => hn (hs k hk q)⟩
theorem Fr.drewN (S : Nat → Prop) (w : World) (n : Nat) : Fr S w (w.drewN n) := by
  refine ⟨?_, ?_, ?_, by rw [drewN_heap]; exact Nat.le_refl _, fun _ _ _ => by rw [drewN_heap]⟩
  all_goals (induction n generalizing w <;> simp_all [World.drewN])
theorem Fr.setCell {b off : Nat} {v : Value} (hS : S b) (w : World) : Fr S w (w.setCell ⟨b, off, none⟩ v) :=
  ⟨rfl, rfl, rfl, by rw [size_setCell]; exact Nat.le_refl _, fun k _ hn => heap_setCell_other fun e => hn (e ▸ hS)⟩
theorem Fr.alloc (S : Nat → Prop) (w : World) (ob : Obj) : Fr S w (w.alloc ob) := ⟨rfl, rfl, rfl, by rw [alloc_size]; omega, fun k hk _ => alloc_old w ob k hk⟩
theorem Fr.below {B : Nat} (h : Fr S w w1) (hB : B ≤ w.heap.size) (hS : ∀ k, k < B → ¬ S k) : Below B w w1 := ⟨h.os, h.tape, h.output, h.size, fun k hk => h.block k (by omega) (hS k hk)⟩
theorem Fr.of_below (h : Below w.heap.size w w1) : Fr S w w1 := ⟨h.os, h.tape, h.output, h.size, fun k hk _ => h.block k hk⟩
end
/-- This one block. -/
def On (b k : Nat) : Prop := k = b
theorem fr_set (b off : Nat) (v : Value) (w : World) : Fr (On b) w (w.setCell ⟨b, off, none⟩ v) := Fr.setCell (S := On b) rfl w
/-- Nothing that was there has turned. -/
abbrev Kp (w w' : World) : Prop := Below w.heap.size w w'
theorem kp_drewN (w : World) (q : Nat) : Kp w (w.drewN q) := (Fr.drewN (fun _ => False) w q).below (Nat.le_refl _) fun _ _ h => h
theorem kp_alloc (w : World) (ob : Obj) : Kp w (w.alloc ob) := (Below.refl _ w).alloc (Nat.le_refl _) ob
theorem kp_trans {a b c : World} (h : Kp a b) (k : Kp b c) : Kp a c := h.trans (k.mono h.size)

theorem Fr.new {S : Nat → Prop} {w w1 : World} {n off : Nat} {v : Value} (h : Fr S w w1) (hn : w.heap.size ≤ n) : Fr S w (w1.setCell ⟨n, off, none⟩ v) :=
  ⟨h.os, h.tape, h.output, by rw [size_setCell]; exact h.size, fun k hk hS => by rw [heap_setCell_other (by omega)]; exact h.block k hk hS⟩
theorem Fr.frAlloc {S : Nat → Prop} {w w1 : World} {ob : Obj} (h : Fr S (w.alloc ob) w1) : Fr S w w1 := (Fr.alloc S w ob).trans h
/-- A byte of a text, nought behind its end. -/
def byteAt (s : ByteArray) (k : Nat) : Nat := ((s.data.toList[k]?).map UInt8.toNat).getD 0
theorem byteAt_lt (s : ByteArray) (k : Nat) : byteAt s k < 256 := by
  unfold byteAt
  cases s.data.toList[k]? with
  | none => simp
  | some b => simpa using b.toNat_lt
theorem byteAt_eq (s : ByteArray) (k : Nat) (h : k < s.size) : byteAt s k = (s[k]).toNat := by
  have : s.data.toList[k]? = some (s[k]) := by
    rw [List.getElem?_eq_getElem (by simpa using h)]; rfl
  unfold byteAt; rw [this]; rfl

theorem cell_at {w : World} {b : Nat} {e : TypeId} {cur : Array Value} {fr : Nat × Nat} (hg : w.heap[b]? = some (.cells cur e fr)) (j : Nat) : w.cell? ⟨b, j, none⟩ = cur[j]? := by simp [World.cell?, hg]
theorem kp_cell {w w1 : World} (k : Kp w w1) {a : Addr} {u : Value} (h : w.cell? a = some u) : w1.cell? a = some u := by
  rw [World.cell?_of_block (k.block _ ?_)]
  · exact h
  · rcases Nat.lt_or_ge a.block w.heap.size with q | q
    · exact q
    · simp [World.cell?, Array.getElem?_eq_none q] at h
theorem addr_add (g j : Nat) : (⟨g, 0, none⟩ : Addr).add j = ⟨g, j, none⟩ := by unfold Addr.add; split <;> simp_all
theorem kp_drew_size (w : World) : w.drew.heap.size = w.heap.size := rfl
theorem kp_drew (w : World) : Kp w w.drew := kp_drewN w 1
section
variable {w w1 : World} {B : Nat} {v : Value}
theorem row_kp {e : TypeId} {size n : Nat} {xs : List Value} (hr : w.ownsRow B e size v n xs) (h : Kp w w1) : w1.ownsRow B e size v n xs := by
  refine ⟨hr.1, ?_⟩
  rcases hr.2 with q | ⟨b, cap, cur, rfl, hb, hg, rest⟩
  · exact .inl q
  · exact .inr ⟨b, cap, cur, rfl, hb, by rw [h.block b (hr.lt b rfl).2]; exact hg, rest⟩
theorem row_fr {e : TypeId} {size n : Nat} {xs : List Value} {S : Nat → Prop} (hr : w.ownsRow B e size v n xs) (h : Fr S w w1) (hn : ∀ j, v.ownBlock = some j → ¬ S j) : w1.ownsRow B e size v n xs := by
  refine ⟨hr.1, ?_⟩
  rcases hr.2 with q | ⟨b, cap, cur, rfl, hb, hg, rest⟩
  · exact .inl q
  · exact .inr ⟨b, cap, cur, rfl, hb, by rw [h.block b (hr.lt b rfl).2 (hn b rfl)]; exact hg, rest⟩
theorem row_lift {e : TypeId} {B' size n : Nat} {xs : List Value} (hr : w.ownsRow B e size v n xs) (h : ∀ j, v.ownBlock = some j → B' ≤ j) : w.ownsRow B' e size v n xs := by
  refine ⟨hr.1, ?_⟩
  rcases hr.2 with q | ⟨b, cap, cur, rfl, hb, hg, rest⟩
  · exact .inl q
  · exact .inr ⟨b, cap, cur, rfl, h b rfl, hg, rest⟩
theorem owns_form {size n : Nat} {e : TypeId} {xs : List Value} (h : w.ownsRow B e size v n xs) : ∃ a cap, v = .slice a n cap ∧ n ≤ cap ∧ cap ≤ maxLen := by
  rcases h.2 with ⟨rfl, rfl⟩ | ⟨b, cap, cur, rfl, _, _, h1, h2, _⟩
  · exact ⟨none, 0, rfl, Nat.le_refl _, by simp [maxLen]⟩
  · exact ⟨_, cap, rfl, h1, h2⟩
end
theorem info_parts {t : TypeId} {z : Option Value} {a b : Nat} (h : (Try.prog.info? t).map (fun i => (i.zero, i.size, i.bytes)) = some (z, a, b)) : ∃ i, Try.prog.info? t = some i ∧ i.zero = z ∧ i.size = a ∧ i.bytes = b := by
  obtain ⟨i, h1, h2⟩ := Option.map_eq_some_iff.1 h
  simp only [Prod.mk.injEq] at h2
  exact ⟨i, h1, h2.1, h2.2.1, h2.2.2⟩
theorem infoUB : (Try.prog.info? 5).map (fun i => (i.zero, i.size, i.bytes)) = some (some (.int .u8 0), 1, 1) := by kernel_rfl
def Lc (T : TypeId) (b : Nat) (l : List Value) (w : World) : Prop := w.heap[b]? = some (.cells l.toArray T (0, 0))
section
variable {T : TypeId} {b : Nat} {l : List Value} {w w1 : World}
theorem Lc.lt (h : Lc T b l w) : b < w.heap.size := (Array.getElem?_eq_some_iff.1 h).1
theorem Lc.cell (h : Lc T b l w) (j : Nat) : w.cell? ⟨b, j, none⟩ = l[j]? := by rw [cell_at h]; exact List.getElem?_toArray
theorem Lc.at (h : Lc T b l w) {j : Nat} {v : Value} (hj : l[j]? = some v) : w.cell? ⟨b, j, none⟩ = some v := by rw [h.cell, hj]
theorem Lc.fz (h : Lc T b l w) (j : Nat) : w.frozen? ⟨b, j, none⟩ = false := by unfold Lc at h; simp [World.frozen?, h]
theorem Lc.new (w : World) (l : List Value) (T : TypeId) : Lc T w.heap.size l (w.alloc (.cells l.toArray T)) := alloc_new w _
theorem Lc.heap (h : Lc T b l w) (he : w1.heap[b]? = w.heap[b]?) : Lc T b l w1 := by unfold Lc at h ⊢; rw [he]; exact h
theorem Lc.kp (h : Lc T b l w) (k : Kp w w1) : Lc T b l w1 := h.heap (k.block b h.lt)
theorem Lc.fr {S : Nat → Prop} (h : Lc T b l w) (k : Fr S w w1) (hn : ¬ S b) : Lc T b l w1 := h.heap (k.block b h.lt hn)
theorem Lc.set (h : Lc T b l w) (j : Nat) (v : Value) : Lc T b (l.set j v) (w.setCell ⟨b, j, none⟩ v) := by
  unfold Lc at h ⊢; rw [heap_setCell h, List.setIfInBounds_toArray]
theorem Lc.other (h : Lc T b l w) {n off : Nat} {v : Value} (hn : n ≠ b) : Lc T b l (w.setCell ⟨n, off, none⟩ v) := h.heap (heap_setCell_other (Ne.symm hn))
theorem kp_new {w0 : World} (k : Kp w0 w) {n off : Nat} {v : Value} (hn : w0.heap.size ≤ n) : Kp w0 (w.setCell ⟨n, off, none⟩ v) :=
  ⟨k.os, k.tape, k.output, by rw [size_setCell]; exact k.size, fun j hj => by rw [heap_setCell_other (by omega)]; exact k.block j hj⟩
theorem kp_more {w0 : World} (k : Kp w0 w) (o : Obj) : Kp w0 (w.alloc o) := kp_trans k (kp_alloc _ _)
end
/-- A list's elements from a place on are these. -/
def sets (l : List Value) : Nat → List Value → List Value
  | _, [] => l
  | o, v :: r => sets (l.set o v) (o + 1) r
section
variable {T : TypeId} {b : Nat} {l : List Value} {w w1 : World}
theorem Lc.sets : ∀ {l : List Value} {w : World} (vs : List Value) (o : Nat), Lc T b l w → Lc T b (sets l o vs) (w.setCells b o vs)
  | l, w, [], o, h => h
  | l, w, v :: r, o, h => Lc.sets r (o + 1) (h.set o v)
theorem fr_sets (b : Nat) : ∀ (vs : List Value) (o : Nat) (w : World), Fr (On b) w (w.setCells b o vs)
  | [], o, w => Fr.refl _ _
  | v :: r, o, w => (fr_set b o v w).trans (fr_sets b r (o + 1) _)
theorem size_sets (b : Nat) : ∀ (vs : List Value) (o : Nat) (w : World), (w.setCells b o vs).heap.size = w.heap.size
  | [], o, w => rfl
  | v :: r, o, w => (size_sets b r (o + 1) _).trans (size_setCell _ _ _)
theorem Lc.range (h : Lc T b l w) (o : Nat) {cs : List Value} (hc : ∀ j v, cs[j]? = some v → l[o + j]? = some v) : w.rangeAt b o cs := fun j v hj => h.at (hc j v hj)
theorem Lc.there (h : Lc T b l w) {o n : Nat} (hn : o + n ≤ l.length) : w.there b o n := fun j hj => ⟨by rw [h.cell, List.getElem?_eq_getElem (by omega)]; rfl, h.fz _⟩
variable {ops : Array Oper} {rest : List Oper} {op : Oper} {a : Act} {Q : Exit → Act → World → Prop}
theorem wpList_load_box (h : Lc T b l w) (o : Nat) (cs : List Value) (hgd : op.guard = none) (ty : TypeId) (x : Operand) (ho : op.op = .load ty x) (hx : a.eval x = .pointer (some ⟨b, o, none⟩)) (hc : (l.drop o).take cs.length = cs)
    (d : TypeDesc) (hu : Try.prog.underlying ty = some d) (hd : d.isRow = true) (hi : (Try.prog.info? ty).map (·.size) = some cs.length)
    (k : wpList Try.prog ops Q rest (a.put op.dst (.agg cs.toArray)) w) : wpList Try.prog ops Q (op :: rest) a w := by
  refine wpList_load_mid hgd ty x ho b o hx cs d (h.range o fun j v hj => ?_) hu hd hi k
  have hl := (List.getElem?_eq_some_iff.1 hj).1
  rw [← hc, List.getElem?_take_of_lt hl, List.getElem?_drop] at hj
  exact hj
theorem wpList_store_box (h : Lc T b l w) (o : Nat) (cs : List Value) (hgd : op.guard = none) (ty : TypeId) (x y : Operand) (ho : op.op = .store ty x y) (hx : a.eval x = .pointer (some ⟨b, o, none⟩)) (hy : a.eval y = .agg cs.toArray)
    (hf : o + cs.length ≤ l.length) (hi : (Try.prog.info? ty).map (·.size) = some cs.length) (h1 : ∀ v ∈ cs, v.oneCell' = true) {l' : List Value} (hl : Go.Proofs.Ytbnlenanfhggiaa.sets l o cs = l')
    (k : ∀ w', Lc T b l' w' → Fr (On b) w w' → w'.heap.size = w.heap.size → wpList Try.prog ops Q rest (a.put op.dst undef) w') : wpList Try.prog ops Q (op :: rest) a w := by
  refine wpList_store_mid hgd ty x y ho b o cs.toArray hx hy ?_ (by simpa using hi) (all_oneCell_toArray h1) ?_
  · have : cs.toArray.size = cs.length := by simp
    rw [this]; exact h.there hf
  · have e : cs.toArray.toList = cs := by simp
    rw [e]
    exact k _ (hl ▸ h.sets cs o) (fr_sets _ _ _ _) (size_sets _ _ _ _)
theorem results_box1 {fn : Func} {t : Tmp} {ty : TypeId} (hr : fn.results = #[.cell t ty]) {tmps : Array Value} (hp : tmps.getD t undef = .pointer (some ⟨b, 0, none⟩)) (h : Lc T b l w)
    {d : TypeDesc} (hu : Try.prog.underlying ty = some d) (hd : d.isRow = true) (hi : (Try.prog.info? ty).map (·.size) = some l.length) :
    (results fn tmps).run Try.prog w = .ok (.agg l.toArray) w := by
  have := run_loadVar_mid (P := Try.prog) w b 0 ty l d (h.range 0 fun j v hj => by rw [Nat.zero_add]; exact hj) hu hd hi
  rw [Array.getD_eq_getD_getElem?] at hp
  simp [results, hr, hp, asAddr, this]
theorem results_box2 {fn : Func} {t u : Tmp} {ty : TypeId} (hr : fn.results = #[.cell t ty, .tmp u]) {tmps : Array Value} (hp : tmps.getD t undef = .pointer (some ⟨b, 0, none⟩)) (h : Lc T b l w)
    {d : TypeDesc} (hu : Try.prog.underlying ty = some d) (hd : d.isRow = true) (hi : (Try.prog.info? ty).map (·.size) = some l.length) :
    (results fn tmps).run Try.prog w = .ok (.tuple #[.agg l.toArray, tmps.getD u undef]) w := by
  have := run_loadVar_mid (P := Try.prog) w b 0 ty l d (h.range 0 fun j v hj => by rw [Nat.zero_add]; exact hj) hu hd hi
  rw [Array.getD_eq_getD_getElem?] at hp
  simp [results, hr, hp, asAddr, this]
theorem results_box3 {fn : Func} {t u v : Tmp} {ty : TypeId} (hr : fn.results = #[.cell t ty, .tmp u, .tmp v]) {tmps : Array Value} (hp : tmps.getD t undef = .pointer (some ⟨b, 0, none⟩)) (h : Lc T b l w)
    {d : TypeDesc} (hu : Try.prog.underlying ty = some d) (hd : d.isRow = true) (hi : (Try.prog.info? ty).map (·.size) = some l.length) :
    (results fn tmps).run Try.prog w = .ok (.tuple #[.agg l.toArray, tmps.getD u undef, tmps.getD v undef]) w := by
  have := run_loadVar_mid (P := Try.prog) w b 0 ty l d (h.range 0 fun j v hj => by rw [Nat.zero_add]; exact hj) hu hd hi
  rw [Array.getD_eq_getD_getElem?] at hp
  simp [results, hr, hp, asAddr, this]
end
section
variable {w w1 : World} {u u' : Value} {T T' : TypeId} {m m' : Nat} {l l' : List Value}
theorem row_ne {B n size : Nat} {e : TypeId} {xs : List Value} (hr : w.ownsRow B e size u n xs) (hm : Lc T m l w) (hT : T ≠ e) : u.ownBlock ≠ some m := by
  intro q
  rcases hr.2 with ⟨z, _⟩ | ⟨b, cap, cur, z, hb, hg, _⟩
  · rw [z] at q; cases q
  · rw [z] at q
    simp only [Value.ownBlock, Option.some.injEq] at q
    subst q
    unfold Lc at hm
    rw [hm] at hg
    injection hg with hg
    injection hg with _ hg
    exact hT hg
theorem row_row {B n size B' n' size' : Nat} {e e' : TypeId} {xs xs' : List Value} (hr : w.ownsRow B e size u n xs) (hr' : w.ownsRow B' e' size' u' n' xs') (hT : e ≠ e') : ∀ j, u.ownBlock = some j → u'.ownBlock ≠ some j := by
  intro j q q'
  rcases hr.2 with ⟨z, _⟩ | ⟨b, cap, cur, z, hb, hg, _⟩
  · rw [z] at q; cases q
  rcases hr'.2 with ⟨z', _⟩ | ⟨b', cap', cur', z', hb', hg', _⟩
  · rw [z'] at q'; cases q'
  rw [z] at q
  rw [z'] at q'
  simp only [Value.ownBlock, Option.some.injEq] at q q'
  subst q
  subst q'
  rw [hg] at hg'
  injection hg' with hg'
  injection hg' with _ hg'
  exact hT hg'
theorem lc_ne (h : Lc T m l w) (h' : Lc T' m' l' w) (hT : T ≠ T') : m ≠ m' := by
  rintro rfl
  unfold Lc at h h'
  rw [h] at h'
  injection h' with h'
  injection h' with _ h'
  exact hT h'
end
/-- Bytes as they lie in memory. -/
def bcs (l : List UInt8) : List Value := l.map fun b => Value.int .u8 b.toNat
theorem bcs_len (l : List UInt8) : (bcs l).length = l.length := by simp [bcs]
theorem bcs_append (a b : List UInt8) : bcs (a ++ b) = bcs a ++ bcs b := by simp [bcs]
theorem bcs_one (l : List UInt8) : ∀ u ∈ bcs l, u.oneCell' = true := fun u hu => by
  obtain ⟨b, _, rfl⟩ := List.mem_map.1 hu
  rfl
theorem drop_at {S : ByteArray} {i : Nat} (h : i < S.size) : S.data.toList.drop i = S[i] :: S.data.toList.drop (i + 1) := by
  rw [List.drop_eq_getElem_cons (by simpa using h)]
  rfl
end Go.Proofs.Ytbnlenanfhggiaa
/- A map whose keys are bytes, as a function from a byte to what stands at it; a range over one that is under way. -/
namespace Go.Proofs.Ytbnlenanfhggiaa
open Go.ChangeShapes Go.WideShapes Go.ChangeAt Go.RowKit Go.Maps Go.MapKept
open Go.ChangeMaps (setBlock heap_setBlock_same heap_setBlock_other modify_eq_set)
set_option linter.unusedVariables false
set_option linter.unusedSimpArgs false
theorem keyUB : Keyed Try.prog 5 := int_keyed Try.underlying5
theorem keyB {x : Int} (h0 : 0 ≤ x) (h1 : x < 256) : keyOf Try.prog 5 (.int .u8 x) = some (.int .u8 x) :=
  keyOf_int_mk Try.underlying5 (by
    show (decide (IntKind.u8.min ≤ x) && decide (x ≤ IntKind.u8.max)) = true
    have e1 : IntKind.u8.min = 0 := by decide
    have e2 : IntKind.u8.max = 255 := by decide
    rw [e1, e2, Bool.and_eq_true, decide_eq_true_eq, decide_eq_true_eq]; omega)
/-- The entries say f. -/
structure Hld (es : Array MapEntry) (f : Int → Option Value) : Prop where
  on : ∀ e ∈ es.toList, ∃ x, e.key = .int .u8 x ∧ 0 ≤ x ∧ x < 256 ∧ f x = some e.val
  at_ : ∀ x v, f x = some v → ∃ e ∈ es.toList, e.key = .int .u8 x ∧ e.val = v
/-- At block b lies a map that says f. -/
def Mp (b : Nat) (f : Int → Option Value) (w : World) : Prop := ∃ es clock, w.heap[b]? = some (.map es clock) ∧ Stamped es clock ∧ Hld es f
def upd (f : Int → Option Value) (x : Int) (v : Option Value) : Int → Option Value := fun y => if y = x then v else f y
section
variable {b r : Nat} {f : Int → Option Value} {w w1 : World}
theorem Mp.lt (h : Mp b f w) : b < w.heap.size := by obtain ⟨es, c, h, _⟩ := h; exact (Array.getElem?_eq_some_iff.1 h).1
theorem Mp.heap (h : Mp b f w) (he : w1.heap[b]? = w.heap[b]?) : Mp b f w1 := by obtain ⟨es, c, h, r⟩ := h; exact ⟨es, c, he.trans h, r⟩
theorem Mp.kp (h : Mp b f w) (k : Kp w w1) : Mp b f w1 := h.heap (k.block b h.lt)
theorem Mp.fr {S : Nat → Prop} (h : Mp b f w) (k : Fr S w w1) (hn : ¬ S b) : Mp b f w1 := h.heap (k.block b h.lt hn)
theorem Mp.ne {T : TypeId} {t : Nat} {l : List Value} (h : Mp b f w) (k : Lc T t l w) : t ≠ b := by
  rintro rfl; obtain ⟨es, c, h, _⟩ := h; unfold Lc at k; rw [k] at h; cases h
theorem Mp.range (h : Mp b f w) {x : Int} {v : Value} (hx : f x = some v) : 0 ≤ x ∧ x < 256 := by
  obtain ⟨es, c, _, _, H⟩ := h
  obtain ⟨e, he, hk, _⟩ := H.at_ x v hx
  obtain ⟨y, hy, h0, h1, _⟩ := H.on e he
  rw [hk] at hy; cases hy; exact ⟨h0, h1⟩
theorem Hld.one {es : Array MapEntry} {clock : Nat} (H : Hld es f) (S : Stamped es clock) {e e' : MapEntry} (h : e ∈ es.toList) (h' : e' ∈ es.toList) (hk : e.key = e'.key) : e = e' := entry_eq_of_key ((stamped_iff es clock).1 S).2.2 h h' hk
theorem at_key {es : Array MapEntry} {c : Nat} (S : Stamped es c) {i j : Nat} {e e' : MapEntry} (hi : es.toList[i]? = some e) (hj : es.toList[j]? = some e') (hk : e.key = e'.key) : i = j := by
  have hp := ((stamped_iff es c).1 S).2.2
  rw [List.pairwise_iff_getElem] at hp
  obtain ⟨li, rfl⟩ := List.getElem?_eq_some_iff.1 hi
  obtain ⟨lj, rfl⟩ := List.getElem?_eq_some_iff.1 hj
  rcases Nat.lt_trichotomy i j with q | q | q
  · exact absurd hk (hp i j li lj q)
  · exact q
  · exact absurd hk.symm (hp j i lj li q)
theorem Hld.keys {es : Array MapEntry} (H : Hld es f) : ∀ e ∈ es.toList, ∃ l, keyOf Try.prog 5 e.key = some l := fun e he => by
  obtain ⟨x, hx, h0, h1, _⟩ := H.on e he
  exact ⟨_, by rw [hx]; exact keyB h0 h1⟩
theorem fr_block (w : World) (b : Nat) (o : Obj) (hb : b < w.heap.size) : Fr (On b) w (setBlock w b o) :=
  ⟨rfl, rfl, rfl, by simp [setBlock], fun k hk hn => by unfold On at hn; simp [setBlock, Array.getElem?_setIfInBounds, Ne.symm hn]⟩
/-- Looked up. -/
theorem Mp.look (h : Mp b f w) {x : Int} (h0 : 0 ≤ x) (h1 : x < 256) {t e : TypeId} (ht : Try.prog.underlying t = some (.map 5 e)) {z : Value} (hz : (zeroValue e).run Try.prog w = .ok z w) (ok : Bool) :
    (Instr.lookup t (.map (some b)) (.int .u8 x) ok).run Try.prog w = .ok (if ok then .tuple #[(f x).getD z, .bool (f x).isSome] else (f x).getD z) w := by
  obtain ⟨es, c, hb, S, H⟩ := h
  rcases keyUB.find w (keyB h0 h1) es.toList H.keys with ⟨h2, h3⟩ | ⟨j, e0, h2, h3, h4⟩
  · have hn : f x = none := by
      cases q : f x with
      | none => rfl
      | some v => obtain ⟨e, he, hk, _⟩ := H.at_ x v q; exact absurd hk (h3 e he)
    simp [Instr.lookup, run_underlying ht, MapKept.run_getObj_map hb, keyUB.check w _ (keyB h0 h1), h2, hz, Result.andThen, hn]
  · have hs : f x = some e0.val := by
      obtain ⟨y, hy, _, _, hv⟩ := H.on e0 (List.mem_of_getElem? h3)
      rw [h4] at hy; cases hy; exact hv
    simp [Instr.lookup, run_underlying ht, MapKept.run_getObj_map hb, keyUB.check w _ (keyB h0 h1), h2, Result.andThen, hs]
/-- Stored: the entries behind it, and what has become of each. -/
theorem store_who {es : Array MapEntry} {c : Nat} (hb : w.heap[b]? = some (.map es c)) (S : Stamped es c) (H : Hld es f) {x : Int} (h0 : 0 ≤ x) (h1 : x < 256) {t e : TypeId} (ht : Try.prog.underlying t = some (.map 5 e)) (v : Value) :
    ∃ es' c', (Instr.mapUpdate t (.map (some b)) (.int .u8 x) v).run Try.prog w = .ok () (setBlock w b (.map es' c')) ∧ Stamped es' c' ∧ Hld es' (upd f x (some v)) ∧
      (f x ≠ none → c' = c ∧ es'.toList.map (·.born) = es.toList.map (·.born) ∧ es'.toList.map (·.key) = es.toList.map (·.key)) := by
  rcases keyUB.find w (keyB h0 h1) es.toList H.keys with ⟨h2, h3⟩ | ⟨j, e0, h2, h3, h4⟩
  · refine ⟨es.push ⟨.int .u8 x, v, c⟩, c + 1, ?_, stamped_push S h3, ⟨fun e he => ?_, fun y u hy => ?_⟩, fun hn => ?_⟩
    · simp [Instr.mapUpdate, run_underlying ht, MapKept.run_getObj_map hb, keyUB.check w false (keyB h0 h1), h2, MapKept.run_setObj_map _ hb, Result.andThen, setBlock]
    · simp only [Array.toList_push, List.mem_append, List.mem_singleton] at he
      rcases he with he | rfl
      · obtain ⟨y, hy, y0, y1, hv⟩ := H.on e he
        have : y ≠ x := fun q => h3 e he (by rw [hy, q])
        exact ⟨y, hy, y0, y1, by unfold upd; rw [if_neg this]; exact hv⟩
      · exact ⟨x, rfl, h0, h1, by unfold upd; rw [if_pos rfl]⟩
    · unfold upd at hy
      split at hy
      · rename_i q; subst q; cases hy
        exact ⟨⟨.int .u8 y, v, c⟩, by simp, rfl, rfl⟩
      · obtain ⟨e, he, r⟩ := H.at_ y u hy
        exact ⟨e, by simp [he], r⟩
    · exfalso
      cases q : f x with
      | none => exact hn q
      | some u => obtain ⟨e, he, hk, _⟩ := H.at_ x u q; exact h3 e he hk
  · have hj : es[j]? = some e0 := by simpa using h3
    have hjl : j < es.toList.length := (List.getElem?_eq_some_iff.1 h3).1
    have hm0 : e0 ∈ es.toList := List.mem_of_getElem? h3
    have hlist : (es.modify j (fun e' => { e' with key := .int .u8 x, val := v })).toList = es.toList.set j { e0 with key := .int .u8 x, val := v } := by rw [Array.toList_modify, modify_eq_set _ _ _ _ h3]
    refine ⟨es.modify j (fun e' => { e' with key := .int .u8 x, val := v }), c, ?_, stamped_modify S j _ (fun _ _ => rfl) (fun e' _ he' => by rw [hj] at he'; cases he'; exact h4.symm), ⟨fun e he => ?_, fun y u hy => ?_⟩, fun _ => ⟨rfl, ?_, ?_⟩⟩
    · have hk : (Instr.keyThatStays e0.key (.int .u8 x)).run Try.prog w = .ok (.int .u8 x) w := by rw [h4]; exact keyUB.stays w (keyB h0 h1)
      simp [Instr.mapUpdate, run_underlying ht, MapKept.run_getObj_map hb, keyUB.check w false (keyB h0 h1), h2, hj, hk, MapKept.run_setObj_map _ hb, Result.andThen, setBlock]
    · rw [hlist] at he
      obtain ⟨i, hi⟩ := List.getElem?_of_mem he
      by_cases q : i = j
      · subst q
        rw [List.getElem?_set_self hjl] at hi
        cases hi
        exact ⟨x, rfl, h0, h1, by unfold upd; rw [if_pos rfl]⟩
      · rw [List.getElem?_set_ne (Ne.symm q)] at hi
        obtain ⟨y, hy, y0, y1, hv⟩ := H.on e (List.mem_of_getElem? hi)
        have : y ≠ x := fun p => q (at_key S hi h3 (by rw [hy, h4, p]))
        exact ⟨y, hy, y0, y1, by unfold upd; rw [if_neg this]; exact hv⟩
    · rw [hlist]
      unfold upd at hy
      split at hy
      · rename_i q; subst q; cases hy
        exact ⟨{ e0 with key := .int .u8 y, val := v }, List.mem_of_getElem? (List.getElem?_set_self hjl), rfl, rfl⟩
      · rename_i q
        obtain ⟨e, he, hk, hu⟩ := H.at_ y u hy
        obtain ⟨i, hi⟩ := List.getElem?_of_mem he
        have hij : i ≠ j := fun p => by
          subst p; rw [h3] at hi; cases hi; rw [h4] at hk; cases hk; exact q rfl
        exact ⟨e, List.mem_of_getElem? (by rw [List.getElem?_set_ne (Ne.symm hij)]; exact hi), hk, hu⟩
    · rw [hlist, List.map_set]
      refine List.ext_getElem? fun i => ?_
      by_cases q : i = j
      · subst q; rw [List.getElem?_set_self (by simpa using hjl), List.getElem?_map, h3]; rfl
      · rw [List.getElem?_set_ne (Ne.symm q)]
    · rw [hlist, List.map_set]
      refine List.ext_getElem? fun i => ?_
      by_cases q : i = j
      · subst q; rw [List.getElem?_set_self (by simpa using hjl), List.getElem?_map, h3, Option.map_some, h4]
      · rw [List.getElem?_set_ne (Ne.symm q)]
/-- Stored. -/
theorem Mp.store (h : Mp b f w) {x : Int} (h0 : 0 ≤ x) (h1 : x < 256) {t e : TypeId} (ht : Try.prog.underlying t = some (.map 5 e)) (v : Value) :
    ∃ w', (Instr.mapUpdate t (.map (some b)) (.int .u8 x) v).run Try.prog w = .ok () w' ∧ Mp b (upd f x (some v)) w' ∧ Fr (On b) w w' ∧ w'.heap.size = w.heap.size := by
  have hl := h.lt
  obtain ⟨es, c, hb, S, H⟩ := h
  obtain ⟨es', c', hr, S', H', _⟩ := store_who hb S H h0 h1 ht v
  exact ⟨_, hr, ⟨es', c', heap_setBlock_same hb _, S', H'⟩, fr_block w b _ hl, by simp [setBlock]⟩
/-- Taken out: who is left. -/
theorem drop_who {es : Array MapEntry} {c : Nat} (hb : w.heap[b]? = some (.map es c)) (S : Stamped es c) (H : Hld es f) {x : Int} (h0 : 0 ≤ x) (h1 : x < 256) {t e ty : TypeId} (ht : Try.prog.underlying t = some (.map 5 e)) :
    ∃ es', (Builtin.delete_ #[t, 5] ty #[.map (some b), .int .u8 x]).run Try.prog w = .ok (.tuple #[]) (setBlock w b (.map es' c)) ∧ Stamped es' c ∧ Hld es' (upd f x none) ∧ es'.toList.Sublist es.toList := by
  rcases keyUB.find w (keyB h0 h1) es.toList H.keys with ⟨h2, h3⟩ | ⟨j, e0, h2, h3, h4⟩
  · refine ⟨es, ?_, S, ⟨fun e he => ?_, fun y u hy => ?_⟩, List.Sublist.refl _⟩
    · simp [Builtin.delete_, run_underlying ht, MapKept.run_getObj_map hb, keyUB.check w _ (keyB h0 h1), h2, MapKept.run_setObj_map _ hb, Result.andThen, setBlock]
    · obtain ⟨y, hy, y0, y1, hv⟩ := H.on e he
      have : y ≠ x := fun q => h3 e he (by rw [hy, q])
      exact ⟨y, hy, y0, y1, by unfold upd; rw [if_neg this]; exact hv⟩
    · unfold upd at hy
      split at hy
      · cases hy
      · exact H.at_ y u hy
  · have hjl : j < es.toList.length := (List.getElem?_eq_some_iff.1 h3).1
    have hjs : j < es.size := by simpa using hjl
    have hsub : (es.eraseIdxIfInBounds j).toList = es.toList.eraseIdx j := by
      unfold Array.eraseIdxIfInBounds
      rw [dif_pos hjs]
      simp
    refine ⟨es.eraseIdxIfInBounds j, ?_, stamped_erase S j, ⟨fun e he => ?_, fun y u hy => ?_⟩, by rw [hsub]; exact List.eraseIdx_sublist _ _⟩
    · simp [Builtin.delete_, run_underlying ht, MapKept.run_getObj_map hb, keyUB.check w _ (keyB h0 h1), h2, MapKept.run_setObj_map _ hb, Result.andThen, setBlock]
    · rw [hsub, List.mem_eraseIdx_iff_getElem?] at he
      obtain ⟨i, hne, hi⟩ := he
      obtain ⟨y, hy, y0, y1, hv⟩ := H.on e (List.mem_of_getElem? hi)
      have : y ≠ x := fun p => hne (at_key S hi h3 (by rw [hy, h4, p]))
      exact ⟨y, hy, y0, y1, by unfold upd; rw [if_neg this]; exact hv⟩
    · unfold upd at hy
      split at hy
      · cases hy
      · rename_i q
        obtain ⟨e, he, hk, hu⟩ := H.at_ y u hy
        obtain ⟨i, hi⟩ := List.getElem?_of_mem he
        have hij : i ≠ j := fun p => by
          subst p; rw [h3] at hi; cases hi; rw [h4] at hk; cases hk; exact q rfl
        exact ⟨e, by rw [hsub, List.mem_eraseIdx_iff_getElem?]; exact ⟨i, hij, hi⟩, hk, hu⟩
/-- A range over the map at b is under way, its iterator at r: 'left' are the keys that are still to come, c of them. -/
def Rgg (b r : Nat) (f : Int → Option Value) (left : Int → Bool) (c : Nat) (w : World) : Prop :=
  ∃ es clock since seen c0, w.heap[b]? = some (.map es clock) ∧ Stamped es clock ∧ Hld es f ∧ w.heap[r]? = some (.mapIter (some b) since seen c0) ∧ (∀ x ∈ es.toList, x.born < since) ∧ (leftOf es seen).size = c ∧
    (∀ e ∈ es.toList, ∀ x, e.key = .int .u8 x → left x = !seen.contains e.born) ∧ (∀ x, left x = true → f x ≠ none) ∧ since ≤ c0 ∧ since ≤ clock
variable {left : Int → Bool} {c : Nat}
theorem Rgg.map (h : Rgg b r f left c w) : Mp b f w := by obtain ⟨es, cl, _, _, _, hb, S, H, _⟩ := h; exact ⟨es, cl, hb, S, H⟩
theorem Rgg.ne (h : Rgg b r f left c w) : r ≠ b := by
  obtain ⟨es, cl, s, q, c0, hb, _, _, hr, _⟩ := h
  intro e; rw [e, hb] at hr; cases hr
theorem Rgg.lt (h : Rgg b r f left c w) : r < w.heap.size := by obtain ⟨es, cl, s, q, c0, hb, _, _, hr, _⟩ := h; exact (Array.getElem?_eq_some_iff.1 hr).1
theorem Rgg.heap (h : Rgg b r f left c w) (hb : w1.heap[b]? = w.heap[b]?) (hr : w1.heap[r]? = w.heap[r]?) : Rgg b r f left c w1 := by
  obtain ⟨es, cl, s, q, c0, h1, h2, h3, h4, rest⟩ := h
  exact ⟨es, cl, s, q, c0, hb.trans h1, h2, h3, hr.trans h4, rest⟩
theorem Rgg.kp (h : Rgg b r f left c w) (k : Kp w w1) : Rgg b r f left c w1 := h.heap (k.block b h.map.lt) (k.block r h.lt)
theorem Rgg.left_eq (h : Rgg b r f left c w) : w.rangeLeft b r = c := by
  obtain ⟨es, cl, s, q, c0, hb, _, _, hr, _, hc, _⟩ := h
  simp only [World.rangeLeft, hb, hr]
  exact hc
/-- A range begins. -/
theorem Mp.ranged (h : Mp b f w) {t e : TypeId} (ht : Try.prog.underlying t = some (.map 5 e)) :
    ∃ w' c, (Instr.range t (.map (some b))).run Try.prog w = .ok (.pointer (some ⟨w.heap.size, 0, none⟩)) w' ∧ Rgg b w.heap.size f (fun x => (f x).isSome) c w' ∧ Kp w w' ∧ w'.heap.size = w.heap.size + 1 := by
  have hlt := h.lt
  obtain ⟨es, cl, hb, S, H⟩ := h
  refine ⟨_, _, run_range_map w t 5 e b es cl ht hb, ⟨es, cl, cl, #[], cl, (alloc_old _ _ b hlt).trans hb, S, H, alloc_new _ _, ((stamped_iff es cl).1 S).1, rfl, fun e he x hx => ?_, fun x hx => ?_, Nat.le_refl _, Nat.le_refl _⟩, kp_alloc _ _, by rw [alloc_size]⟩
  · obtain ⟨y, hy, _, _, hv⟩ := H.on e he
    rw [hx] at hy; cases hy
    simp [hv]
  · intro q; simp [q] at hx
/-- One more comes, or none is left. -/
theorem Rgg.next (h : Rgg b r f left c w) (ty : TypeId) :
    ((∀ x, left x = false) ∧ (Instr.next (.pointer (some ⟨r, 0, none⟩)) false ty).run Try.prog w = .ok (.tuple #[.bool false]) w) ∨
    ∃ x v w' c', 0 ≤ x ∧ x < 256 ∧ left x = true ∧ f x = some v ∧ (Instr.next (.pointer (some ⟨r, 0, none⟩)) false ty).run Try.prog w = .ok (.tuple #[.bool true, .int .u8 x, v]) w' ∧
      Rgg b r f (fun y => left y && !decide (y = x)) c' w' ∧ c' < c ∧ Fr (On r) w w' ∧ w'.heap.size = w.heap.size ∧ (Instr.entry (.pointer (some ⟨r, 0, none⟩))).run Try.prog w' = .ok (.tuple #[.int .u8 x, v]) w' := by
  have hne := h.ne
  have hrl := h.lt
  obtain ⟨es, cl, since, seen, c0, hb, S, H, hr, hold, rfl, hl1, hl2, hsc, hsk⟩ := h
  rcases run_next_at (P := Try.prog) w ty r b since c0 seen es cl hr hb hold hsc with ⟨h0, hrun⟩ | ⟨e, he, w1, hal, hrun⟩
  · refine Or.inl ⟨fun x => ?_, hrun⟩
    cases hx : left x with
    | false => rfl
    | true =>
      cases q : f x with
      | none => exact absurd q (hl2 x hx)
      | some v =>
        obtain ⟨e, he, hk, _⟩ := H.at_ x v q
        rw [hl1 e he x hk, all_seen es seen h0 e he] at hx; cases hx
  · obtain ⟨hem, hes⟩ := mem_left he
    obtain ⟨x, hx, x0, x1, hv⟩ := H.on e hem
    have hr1 : w1.heap[r]? = some (.mapIter (some b) since seen c0) := by rcases hal with rfl | rfl <;> exact hr
    have hb1 : w1.heap[b]? = some (.map es cl) := by rcases hal with rfl | rfl <;> exact hb
    have hset := heap_set (o' := .mapIter (some b) since (seen.push e.born) cl) hr1
    have hb' : (setBlock w1 r (.mapIter (some b) since (seen.push e.born) cl)).heap[b]? = some (.map es cl) := (hset.2 b (fun e1 => hne e1.symm)).trans hb1
    rw [hx] at hrun
    refine Or.inr ⟨x, e.val, _, _, x0, x1, by rw [hl1 e hem x hx, hes]; rfl, hv, hrun, ⟨es, cl, since, seen.push e.born, cl, hb', S, H, hset.1, hold, rfl, fun e' he' y hy => ?_, fun y hy => hl2 y (by simp at hy; exact hy.1), hsk, hsk⟩, left_shrinks es seen e he, ?_, ?_, ?_⟩
    · show (left y && !decide (y = x)) = _
      rw [hl1 e' he' y hy, contains_push]
      by_cases q : y = x
      · subst q
        obtain rfl := H.one S he' hem (by rw [hy, hx])
        simp
      · have : (e'.born == e.born) = false := by
          simp only [beq_eq_false_iff_ne]
          intro p
          obtain rfl := born_inj ((stamped_iff es cl).1 S).2.1 he' hem p
          rw [hy] at hx; cases hx; exact q rfl
        simp [q, this]
    · rcases hal with rfl | rfl <;> exact ⟨rfl, rfl, rfl, by simp [setBlock], fun i _ hi => hset.2 i (fun e1 => hi (by rw [e1]; rfl))⟩
    · rcases hal with rfl | rfl <;> simp [setBlock]
    · have := run_entry_at (P := Try.prog) _ r b since seen es cl e hset.1 hb' hem ((stamped_iff es cl).1 S).2.1
      rw [hx] at this
      exact this
/-- Of a key that is there another value is stored. -/
theorem Rgg.store (h : Rgg b r f left c w) {x : Int} (h0 : 0 ≤ x) (h1 : x < 256) (hx : f x ≠ none) {t e : TypeId} (ht : Try.prog.underlying t = some (.map 5 e)) (v : Value) :
    ∃ w', (Instr.mapUpdate t (.map (some b)) (.int .u8 x) v).run Try.prog w = .ok () w' ∧ Rgg b r (upd f x (some v)) left c w' ∧ Fr (On b) w w' ∧ w'.heap.size = w.heap.size := by
  have hl := h.map.lt
  have hne := h.ne
  obtain ⟨es, cl, since, seen, c0, hb, S, H, hr, hold, rfl, hl1, hl2, hsc, hsk⟩ := h
  obtain ⟨es', c', hrun, S', H', hw⟩ := store_who hb S H h0 h1 ht v
  obtain ⟨rfl, hbn, hks⟩ := hw hx
  have hat : ∀ e' ∈ es'.toList, ∃ e ∈ es.toList, e.key = e'.key ∧ e.born = e'.born := by
    intro e' he'
    obtain ⟨i, hi⟩ := List.getElem?_of_mem he'
    have q1 := congrArg (fun l => l[i]?) hbn
    have q2 := congrArg (fun l => l[i]?) hks
    simp only [List.getElem?_map, hi, Option.map_some] at q1 q2
    cases q : es.toList[i]? with
    | none => rw [q] at q1; cases q1
    | some e => rw [q] at q1 q2; simp only [Option.map_some, Option.some.injEq] at q1 q2; exact ⟨e, List.mem_of_getElem? q, q2.symm, q1.symm⟩
  refine ⟨_, hrun, ⟨es', c', since, seen, c0, heap_setBlock_same hb _, S', H', (heap_setBlock_other hb _ hne).trans hr, fun e' he' => ?_, ?_, fun e' he' y hy => ?_, fun y hy => ?_, hsc, hsk⟩, fr_block w b _ hl, by simp [setBlock]⟩
  · obtain ⟨e, he, _, q⟩ := hat e' he'; rw [← q]; exact hold e he
  · have e1 : ∀ a : Array MapEntry, (leftOf a seen).size = ((a.toList.map (·.born)).filter fun n => !seen.contains n).length := fun a => by
      unfold leftOf
      rw [List.filter_map, List.length_map, ← Array.length_toList, Array.toList_filter]
      rfl
    rw [e1, e1, hbn]
  · obtain ⟨e, he, q1, q2⟩ := hat e' he'
    rw [← q2]; exact hl1 e he y (by rw [q1]; exact hy)
  · unfold upd; split
    · simp
    · exact hl2 y hy
/-- A key that is no longer to come is taken out. -/
theorem Rgg.drop (h : Rgg b r f left c w) {x : Int} (h0 : 0 ≤ x) (h1 : x < 256) (hx : left x = false) {t e : TypeId} (ht : Try.prog.underlying t = some (.map 5 e)) (ty : TypeId) :
    ∃ w' c', (Builtin.delete_ #[t, 5] ty #[.map (some b), .int .u8 x]).run Try.prog w = .ok (.tuple #[]) w' ∧ Rgg b r (upd f x none) left c' w' ∧ c' ≤ c ∧ Fr (On b) w w' ∧ w'.heap.size = w.heap.size := by
  have hl := h.map.lt
  have hne := h.ne
  obtain ⟨es, cl, since, seen, c0, hb, S, H, hr, hold, rfl, hl1, hl2, hsc, hsk⟩ := h
  obtain ⟨es', hrun, S', H', hsub⟩ := drop_who (ty := ty) hb S H h0 h1 ht
  refine ⟨_, _, hrun, ⟨es', cl, since, seen, c0, heap_setBlock_same hb _, S', H', (heap_setBlock_other hb _ hne).trans hr, fun e' he' => hold e' (hsub.subset he'), rfl, fun e' he' y hy => hl1 e' (hsub.subset he') y hy, fun y hy => ?_, hsc, hsk⟩, ?_, fr_block w b _ hl, by simp [setBlock]⟩
  · unfold upd; split
    · rename_i q; subst q; rw [hx] at hy; cases hy
    · exact hl2 y hy
  · have e1 : ∀ a : Array MapEntry, (leftOf a seen).size = (a.toList.filter fun e => !seen.contains e.born).length := fun a => by
      unfold leftOf
      rw [← Array.toList_filter, Array.length_toList]
    rw [e1, e1]
    exact (hsub.filter _).length_le
end
end Go.Proofs.Ytbnlenanfhggiaa
/- What a range over a map, a store and a deletion within it do: for the walk. -/
namespace Go.Proofs.Ytbnlenanfhggiaa
open Go.ChangeShapes Go.WideShapes Go.ChangeAt Go.RowKit Go.Maps Go.MapKept
set_option linter.unusedVariables false
set_option linter.unusedSimpArgs false
section
variable {b : Nat} {w w1 : World}
section
variable {r c : Nat} {m : Int → Option Value} {left : Int → Bool} {ops : Array Oper} {rest : List Oper} {o : Oper} {a : Act} {Q : Exit → Act → World → Prop}
theorem wpl_range (hg : o.guard = none) (x : Operand) (T E : TypeId) (hop : o.op = Op.range T x) (ht : Try.prog.underlying T = some (.map 5 E)) (hm : a.eval x = .map (some b)) (h : Mp b m w)
    (hK : ∀ w' c, Rgg b w.heap.size m (fun x => (m x).isSome) c w' → Kp w w' → w'.heap.size = w.heap.size + 1 → wpList Try.prog ops Q rest (a.put o.dst (.pointer (some ⟨w.heap.size, 0, none⟩))) w') :
    wpList Try.prog ops Q (o :: rest) a w := by
  refine wpList_plain hg fun K' hK' => ?_
  obtain ⟨w', c, hrun, r1, r2, r3⟩ := h.ranged ht
  unfold Oper.wp
  simp [execOp, hop, hm, hrun, Result.andThen]
  exact hK' _ _ (hK w' c r1 r2 r3)
theorem wpl_next (hg : o.guard = none) (x : Operand) (hop : o.op = Op.next x false) (hm : a.eval x = .pointer (some ⟨r, 0, none⟩)) (h : Rgg b r m left c w)
    (h0 : (∀ y, left y = false) → wpList Try.prog ops Q rest (a.put o.dst (.tuple #[.bool false])) w)
    (h1 : ∀ y v w' c', 0 ≤ y → y < 256 → left y = true → m y = some v → Rgg b r m (fun z => left z && !decide (z = y)) c' w' → c' < c → Fr (On r) w w' → w'.heap.size = w.heap.size →
      (Instr.entry (.pointer (some ⟨r, 0, none⟩))).run Try.prog w' = .ok (.tuple #[.int .u8 y, v]) w' → wpList Try.prog ops Q rest (a.put o.dst (.tuple #[.bool true, .int .u8 y, v])) w') :
    wpList Try.prog ops Q (o :: rest) a w := by
  refine wpList_plain hg fun K' hK' => ?_
  unfold Oper.wp
  rcases h.next o.type with ⟨h2, hrun⟩ | ⟨y, v, w', c', q1, q2, q3, q4, hrun, q5, q6, q7, q8, q9⟩
  · simp [execOp, hop, hm, hrun, Result.andThen]
    exact hK' _ _ (h0 h2)
  · simp [execOp, hop, hm, hrun, Result.andThen]
    exact hK' _ _ (h1 y v w' c' q1 q2 q3 q4 q5 q6 q7 q8 q9)
theorem wpl_store (hg : o.guard = none) (x y v : Operand) (T E : TypeId) (hop : o.op = Op.mapUpdate T x y v) (ht : Try.prog.underlying T = some (.map 5 E)) (hm : a.eval x = .map (some b)) (h : Rgg b r m left c w)
    {k : Int} (hy : a.eval y = .int .u8 k) (k0 : 0 ≤ k) (k1 : k < 256) (hk : m k ≠ none) {u : Value} (hv : a.eval v = u)
    (hK : ∀ w', Rgg b r (upd m k (some u)) left c w' → Fr (On b) w w' → w'.heap.size = w.heap.size → wpList Try.prog ops Q rest (a.put o.dst undef) w') :
    wpList Try.prog ops Q (o :: rest) a w := by
  refine wpList_plain hg fun K' hK' => ?_
  obtain ⟨w', hrun, r1, r2, r3⟩ := h.store k0 k1 hk ht u
  unfold Oper.wp
  simp [execOp, hop, hm, hy, hv, hrun, Result.andThen]
  exact hK' _ _ (hK w' r1 r2 r3)
theorem wpl_delete (hg : o.guard = none) (x y : Operand) (T E : TypeId) (hop : o.op = Op.call { callee := Callee.builtin Builtin.delete, args := #[x, y], argTypes := #[T, 5] }) (ht : Try.prog.underlying T = some (.map 5 E)) (hm : a.eval x = .map (some b)) (h : Rgg b r m left c w)
    {k : Int} (hy : a.eval y = .int .u8 k) (k0 : 0 ≤ k) (k1 : k < 256) (hk : left k = false)
    (hK : ∀ w' c', Rgg b r (upd m k none) left c' w' → c' ≤ c → Fr (On b) w w' → w'.heap.size = w.heap.size → wpList Try.prog ops Q rest (a.put o.dst (.tuple #[])) w') :
    wpList Try.prog ops Q (o :: rest) a w := by
  refine wpList_plain hg fun K' hK' => ?_
  obtain ⟨w', c', hrun, r1, r2, r3, r4⟩ := h.drop k0 k1 hk ht o.type
  unfold Oper.wp
  simp [execOp, hop, resolve, invoke, builtin, hm, hy, hrun, Result.andThen]
  exact hK' _ _ (hK w' c' r1 r2 r3 r4)
end
end
end Go.Proofs.Ytbnlenanfhggiaa
/- A row of bytes that is sorted in place; what is less. -/
namespace Go.Proofs.Ytbnlenanfhggiaa
open Go.ChangeShapes Go.WideShapes Go.ChangeAt Go.RowKit Go.Sort
set_option linter.unusedVariables false
set_option linter.unusedSimpArgs false
def ltZ (x y : Int) : Bool := decide (x < y)
theorem swoZ : SWO ltZ := ⟨fun x => by simp [ltZ], fun x y z h1 h2 => by simp only [ltZ, decide_eq_true_eq] at *; omega, fun x y z h1 h2 => by simp only [ltZ, decide_eq_false_iff_not] at *; omega⟩
/-- In block g lie these bytes first. -/
def Rw (g : Nat) (d : Array Int) (w : World) : Prop := ∃ cur, w.heap[g]? = some (.cells cur 5 (0, 0)) ∧ d.size ≤ cur.size ∧ ∀ i, i < d.size → cur[i]? = some (.int .u8 d[i]!)
section
variable {g : Nat} {d : Array Int} {w w1 : World}
theorem Rw.lt (h : Rw g d w) : g < w.heap.size := by obtain ⟨c, h, _⟩ := h; exact (Array.getElem?_eq_some_iff.1 h).1
theorem Rw.heap (h : Rw g d w) (he : w1.heap[g]? = w.heap[g]?) : Rw g d w1 := by obtain ⟨c, h, r⟩ := h; exact ⟨c, he.trans h, r⟩
theorem Rw.kp (h : Rw g d w) (k : Kp w w1) : Rw g d w1 := h.heap (k.block g h.lt)
theorem Rw.fr {S : Nat → Prop} (h : Rw g d w) (k : Fr S w w1) (hn : ¬ S g) : Rw g d w1 := h.heap (k.block g h.lt hn)
theorem Rw.cell (h : Rw g d w) {i : Nat} (hi : i < d.size) : w.cell? ⟨g, i, none⟩ = some (.int .u8 d[i]!) := by
  obtain ⟨c, h, _, r⟩ := h; rw [cell_at h]; exact r i hi
theorem Rw.fz (h : Rw g d w) (i : Nat) : w.frozen? ⟨g, i, none⟩ = false := by obtain ⟨c, h, _⟩ := h; simp [World.frozen?, h]
theorem Rw.drew (h : Rw g d w) (n : Nat) : Rw g d (w.drewN n) := h.kp (kp_drewN _ _)
theorem Rw.set (h : Rw g d w) {i : Nat} (x : Int) : Rw g (d.setIfInBounds i x) (w.setCell ⟨g, i, none⟩ (.int .u8 x)) := by
  obtain ⟨c, h, hs, r⟩ := h
  refine ⟨_, heap_setCell h, by simpa using hs, fun k hk => ?_⟩
  rw [Array.size_setIfInBounds] at hk
  by_cases q : i = k
  · subst q
    rw [Array.getElem?_setIfInBounds_self_of_lt (by omega)]
    simp [getElem!_def, Array.getElem?_setIfInBounds, hk]
  · rw [Array.getElem?_setIfInBounds_ne q, r k hk]
    simp [getElem!_def, Array.getElem?_setIfInBounds, q]
/-- Two bytes change places. -/
theorem Rw.swp (h : Rw g d w) {i j : Nat} {x y : Int} (hx : d[j]! = x) (hy : d[i]! = y) (n : Nat) : Rw g (swp d i j) (((w.setCell ⟨g, i, none⟩ (.int .u8 x)).setCell ⟨g, j, none⟩ (.int .u8 y)).drewN n) ∧ Fr (On g) w (((w.setCell ⟨g, i, none⟩ (.int .u8 x)).setCell ⟨g, j, none⟩ (.int .u8 y)).drewN n) := by
  refine ⟨?_, ((fr_set g i _ w).trans (fr_set g j _ _)).trans (Fr.drewN _ _ _)⟩
  unfold Go.Sort.swp; rw [hx, hy]; exact ((h.set x).set y).drew n
end
set_option maxHeartbeats 1000000 in
theorem nan_any (x : Int) (w : World) : Calls Try.prog 86 #[.int .u8 x] w fun e w' => e = .returned (.bool false) ∧ w' = w := by
  go_enter Try.func86, Try.ntmps86
  go_wp2
  go_ret
  exact ⟨by simp, rfl⟩
set_option maxHeartbeats 1000000 in
theorem less_any (x y : Int) (w : World) : Calls Try.prog 76 #[.int .u8 x, .int .u8 y] w fun e w' => e = .returned (.bool (ltZ x y)) ∧ w' = w := by
  go_enter Try.func76, Try.ntmps76
  go_wp2_with (go_at_call 86; refine Calls.mono (nan_any _ _) ?_; rintro e w' ⟨rfl, rfl⟩)
  go_ret
  exact ⟨rfl, rfl⟩
end Go.Proofs.Ytbnlenanfhggiaa
/- Sorted by putting in; turned round. -/
namespace Go.Proofs.Ytbnlenanfhggiaa
open Go.ChangeShapes Go.WideShapes Go.ChangeAt Go.RowKit Go.Sort
set_option linter.unusedVariables false
set_option linter.unusedSimpArgs false
section
variable {g : Nat} {d : Array Int} {w w1 : World}
theorem insInner_stop {a j : Nat} (h : j = 0 ∨ ¬ j > a ∨ ∃ k, j = k + 1 ∧ ltZ d[k + 1]! d[k]! = false) : insInner ltZ a j d = d := by
  cases j with
  | zero => rfl
  | succ k =>
    unfold insInner
    rw [if_neg]
    simp only [Bool.and_eq_true, decide_eq_true_eq, not_and]
    intro q
    rcases h with h | h | ⟨k', h1, h2⟩
    · cases h
    · exact absurd q h
    · cases h1; simp [h2]
theorem insInner_step {a k : Nat} (h1 : k + 1 > a) (h2 : ltZ d[k + 1]! d[k]! = true) : insInner ltZ a (k + 1) d = insInner ltZ a k (swp d (k + 1) k) := by
  conv => lhs; unfold insInner
  rw [if_pos]
  simp [h1, h2]
theorem insOuter_step {a b i : Nat} (h : i < b) : insOuter ltZ a b i d = insOuter ltZ a b (i + 1) (insInner ltZ a i d) := by
  conv => lhs; unfold insOuter
  rw [if_pos h]
theorem insOuter_stop {a b i : Nat} (h : ¬ i < b) : insOuter ltZ a b i d = d := by unfold insOuter; rw [if_neg h]
set_option maxHeartbeats 8000000 in
set_option maxRecDepth 100000 in
theorem ins_any {n a b cap : Nat} (h : Rw g d w) (hn : d.size = n) (hab : a ≤ b) (hb : b ≤ n) (hn2 : n ≤ 1000) :
    Calls Try.prog 70 #[.slice (some ⟨g, 0, none⟩) n cap, .int .i64 a, .int .i64 b] w fun e w' => e = .returned (.tuple #[]) ∧ Rw g (insertionSort ltZ d a b) w' ∧ Fr (On g) w w' := by
  have H0 : Hid (Rw g d w ∧ d.size = n) := ⟨h, hn⟩
  clear h hn
  go_enter Try.func70, Try.ntmps70
  go_wp2_with fail
  go_loopw [6] (fun v6 wr => ∃ (i : Nat) (d' : Array Int), v6 = .int .i64 i ∧ i ≤ n + 1 ∧ a + 1 ≤ i ∧ Hid (d'.size = n ∧ Rw g d' wr ∧ Fr (On g) w wr ∧ insOuter ltZ a b i d' = insertionSort ltZ d a b)) (fun v6 _ => n + 1 - (intOf v6).toNat)
  case atStart => exact ⟨a + 1, d, by go_num, by omega, by omega, H0.out.2, H0.out.1, Fr.refl _ _, rfl⟩
  case round =>
    obtain ⟨i, d', rfl, hi, hia, HI⟩ := hrel
    by_cases q : i < b
    · have d1 : decide ((i : Int) < (b : Int)) = true := decide_eq_true (by omega)
      have d2 : decide (i < b) = true := decide_eq_true (by omega)
      have HI2 : Hid (∀ wr2, Rw g (insInner ltZ a i d') wr2 → Fr (On g) w wr2 → (insInner ltZ a i d').size = n → Hid ((insInner ltZ a i d').size = n ∧ Rw g (insInner ltZ a i d') wr2 ∧ Fr (On g) w wr2 ∧ insOuter ltZ a b (i + 1) (insInner ltZ a i d') = insertionSort ltZ d a b)) := fun wr2 h1 h2 h3 => ⟨h3, h1, h2, by rw [← insOuter_step q]; exact HI.out.2.2.2⟩
      have qn : i < n := by omega
      go_wp2_with fail
      go_loopw [7] (fun v7 wr2 => ∃ (j : Nat) (e : Array Int), v7 = .int .i64 j ∧ j ≤ i ∧ Hid (e.size = n ∧ Rw g e wr2 ∧ Fr (On g) w wr2 ∧ insInner ltZ a j e = insInner ltZ a i d')) (fun v7 _ => (intOf v7).toNat)
      case atStart => exact ⟨i, d', rfl, Nat.le_refl _, HI.out.1, HI.out.2.1, HI.out.2.2.1, rfl⟩
      case round =>
        obtain ⟨j, e, rfl, hj, HJ⟩ := hrel
        by_cases p : j > a
        · obtain ⟨k, hk⟩ : ∃ k, j = k + 1 := ⟨j - 1, by omega⟩
          have e1 : decide ((j : Int) > (a : Int)) = true := decide_eq_true (by omega)
          have e2 : decide ((a : Int) < (j : Int)) = true := decide_eq_true (by omega)
          have e3 : decide (a < j) = true := decide_eq_true (by omega)
          have e4 : (j : Int) - 1 = (k : Int) := by omega
          have hsz := HJ.out.1
          have c1 := HJ.out.2.1.cell (i := j) (by omega)
          have c2 := HJ.out.2.1.cell (i := k) (by omega)
          have f1 := HJ.out.2.1.fz j
          have f2 := HJ.out.2.1.fz k
          have l1 : j < n := by omega
          have l2 : k < n := by omega
          obtain ⟨x, hx⟩ : ∃ x, e[j]! = x := ⟨_, rfl⟩
          obtain ⟨y, hy⟩ : ∃ y, e[k]! = y := ⟨_, rfl⟩
          rw [hx] at c1
          rw [hy] at c2
          have HXY : Hid (e[j]! = x ∧ e[k]! = y ∧ j = k + 1) := ⟨hx, hy, hk⟩
          clear hx hy hsz hk HI q d1 d2 e2 e3
          cases hl : ltZ x y with
          | false =>
            have HE : Hid (∀ m, Hid ((insInner ltZ a i d').size = n ∧ Rw g (insInner ltZ a i d') (wr.drewN m) ∧ Fr (On g) w (wr.drewN m) ∧ insOuter ltZ a b (i + 1) (insInner ltZ a i d') = insertionSort ltZ d a b)) := fun m => by
              have e0 : insInner ltZ a i d' = e := by
                rw [← HJ.out.2.2.2]; exact insInner_stop (.inr (.inr ⟨k, HXY.out.2.2, by rw [← HXY.out.2.2, HXY.out.1, HXY.out.2.1]; exact hl⟩))
              refine HI2.out _ ?_ ?_ ?_
              · rw [e0]; exact HJ.out.2.1.drew m
              · exact HJ.out.2.2.1.trans (Fr.drewN _ _ _)
              · rw [e0]; exact HJ.out.1
            go_wp2_with fail
            go_quiet ((go_at_call 76; have HC := less_any x y; rw [hl] at HC; exact Calls.quiet_of_same (HC _)))
            replace HE := HE.out nq
            clear c1 c2 f1 f2 HJ HI2
            go_wp2_with fail
            go_roundw
            case rel => exact ⟨i + 1, _, by go_num, by omega, by omega, HE⟩
            case measure => simp only [intOf]; omega
          | true =>
            have HE : Hid (∀ m m', Hid ((swp e j k).size = n ∧ Rw g (swp e j k) ((((wr.drewN m).setCell ⟨g, j, none⟩ (.int .u8 y)).setCell ⟨g, k, none⟩ (.int .u8 x)).drewN m') ∧ Fr (On g) w ((((wr.drewN m).setCell ⟨g, j, none⟩ (.int .u8 y)).setCell ⟨g, k, none⟩ (.int .u8 x)).drewN m') ∧ insInner ltZ a k (swp e j k) = insInner ltZ a i d')) := fun m m' => by
              obtain ⟨q1, q2⟩ := (HJ.out.2.1.drew m).swp (i := j) (j := k) HXY.out.2.1 HXY.out.1 m'
              refine ⟨by rw [size_swp]; exact HJ.out.1, q1, (HJ.out.2.2.1.trans (Fr.drewN _ _ _)).trans q2, ?_⟩
              rw [← HJ.out.2.2.2, HXY.out.2.2]
              rw [insInner_step (by have := HXY.out.2.2; omega) (by rw [← HXY.out.2.2, HXY.out.1, HXY.out.2.1]; exact hl)]
            go_wp2_with fail
            go_quiet ((go_at_call 76; have HC := less_any x y; rw [hl] at HC; exact Calls.quiet_of_same (HC _)))
            replace HE := HE.out nq
            have R5 := HJ.out.2.1.drew nq
            replace c1 := kp_cell (kp_drewN wr nq) c1
            replace c2 := kp_cell (kp_drewN wr nq) c2
            replace f1 := R5.fz j
            replace f2 := R5.fz k
            obtain ⟨w5, hw5⟩ : ∃ w5, wr.drewN nq = w5 := ⟨_, rfl⟩
            rw [hw5] at c1 c2 f1 f2 HE ⊢
            clear hw5 R5 HJ HI2 hl
            have hjk : j ≠ k := by have := HXY.out.2.2; omega
            go_wp2_with fail
            go_region
            go_wp2_with fail
            have := HXY.out.2.2
            exact ⟨⟨k, swp e j k, rfl, by omega, HE 1⟩, by simp only [intOf]; omega⟩
        · have e1 : decide ((j : Int) > (a : Int)) = false := decide_eq_false (by omega)
          have e2 : decide ((a : Int) < (j : Int)) = false := decide_eq_false (by omega)
          have e3 : decide (a < j) = false := decide_eq_false (by omega)
          have HE : Hid (∀ m, Hid ((insInner ltZ a i d').size = n ∧ Rw g (insInner ltZ a i d') (wr.drewN m) ∧ Fr (On g) w (wr.drewN m) ∧ insOuter ltZ a b (i + 1) (insInner ltZ a i d') = insertionSort ltZ d a b)) := fun m => by
            have e0 : insInner ltZ a i d' = e := by rw [← HJ.out.2.2.2]; exact insInner_stop (.inr (.inl p))
            refine HI2.out _ ?_ ?_ ?_
            · rw [e0]; exact HJ.out.2.1.drew m
            · exact HJ.out.2.2.1.trans (Fr.drewN _ _ _)
            · rw [e0]; exact HJ.out.1
          clear HI q d1 d2
          go_wp2_with fail
          go_quiet (fail)
          replace HE := HE.out nq
          clear HJ HI2
          go_wp2_with fail
          go_roundw
          case rel => exact ⟨i + 1, _, by go_num, by omega, by omega, HE⟩
          case measure => simp only [intOf]; omega
    · have d1 : decide ((i : Int) < (b : Int)) = false := decide_eq_false (by omega)
      have d2 : decide (i < b) = false := decide_eq_false (by omega)
      have HE : Hid (Rw g (insertionSort ltZ d a b) wr ∧ Fr (On g) w wr) := by
        have e0 : d' = insertionSort ltZ d a b := by rw [← HI.out.2.2.2, insOuter_stop q]
        rw [← e0]; exact ⟨HI.out.2.1, HI.out.2.2.1⟩
      clear HI H0 q
      go_wp2_with fail
      go_end0
      exact ⟨rfl, HE.out⟩
theorem rev_step {i j : Nat} (h : i < j) : reverseLoop i j d = reverseLoop (i + 1) (j - 1) (swp d i j) := by
  conv => lhs; unfold reverseLoop
  rw [if_pos h]
theorem rev_stop {i j : Nat} (h : ¬ i < j) : reverseLoop i j d = d := by unfold reverseLoop; rw [if_neg h]
set_option maxHeartbeats 8000000 in
set_option maxRecDepth 100000 in
theorem rev_any {n a b cap : Nat} (h : Rw g d w) (hn : d.size = n) (hab : a < b) (hb : b ≤ n) (hn2 : n ≤ 1000) :
    Calls Try.prog 74 #[.slice (some ⟨g, 0, none⟩) n cap, .int .i64 a, .int .i64 b] w fun e w' => e = .returned (.tuple #[]) ∧ Rw g (reverseRange d a b) w' ∧ Fr (On g) w w' := by
  have H0 : Hid (Rw g d w ∧ d.size = n) := ⟨h, hn⟩
  obtain ⟨z, hz⟩ : ∃ z, b = z + 1 := ⟨b - 1, by omega⟩
  have e0 : (b : Int) - 1 = (z : Int) := by omega
  have hr : reverseRange d a b = reverseLoop a z d := by unfold reverseRange; rw [hz]; rfl
  rw [hr]
  have hzn : z < n := by omega
  clear h hn hr hz hb
  go_enter Try.func74, Try.ntmps74
  go_wp2_with fail
  go_loopw [6, 7] (fun v6 v7 wr => ∃ (i j : Nat) (e : Array Int), v6 = .int .i64 i ∧ v7 = .int .i64 j ∧ j < n ∧ i ≤ n ∧ Hid (e.size = n ∧ Rw g e wr ∧ Fr (On g) w wr ∧ reverseLoop i j e = reverseLoop a z d)) (fun v6 v7 _ => n + (intOf v7).toNat - (intOf v6).toNat)
  case atStart => exact ⟨a, z, d, rfl, rfl, hzn, by omega, H0.out.2, H0.out.1, Fr.refl _ _, rfl⟩
  case round =>
    obtain ⟨i, j, e, rfl, rfl, hj, hi, HI⟩ := hrel
    clear e0
    by_cases q : i < j
    · have d1 : decide ((i : Int) < (j : Int)) = true := decide_eq_true (by omega)
      have d2 : decide (i < j) = true := decide_eq_true (by omega)
      obtain ⟨k, hk⟩ : ∃ k, j = k + 1 := ⟨j - 1, by omega⟩
      have e4 : (j : Int) - 1 = (k : Int) := by omega
      have hsz := HI.out.1
      have l1 : i < n := by omega
      have c1 := HI.out.2.1.cell (i := i) (by omega)
      have c2 := HI.out.2.1.cell (i := j) (by omega)
      have f1 := HI.out.2.1.fz i
      have f2 := HI.out.2.1.fz j
      obtain ⟨x, hx⟩ : ∃ x, e[i]! = x := ⟨_, rfl⟩
      obtain ⟨y, hy⟩ : ∃ y, e[j]! = y := ⟨_, rfl⟩
      rw [hx] at c1
      rw [hy] at c2
      have HE : Hid (∀ m', Hid ((swp e i j).size = n ∧ Rw g (swp e i j) (((wr.setCell ⟨g, i, none⟩ (.int .u8 y)).setCell ⟨g, j, none⟩ (.int .u8 x)).drewN m') ∧ Fr (On g) w (((wr.setCell ⟨g, i, none⟩ (.int .u8 y)).setCell ⟨g, j, none⟩ (.int .u8 x)).drewN m') ∧ reverseLoop (i + 1) k (swp e i j) = reverseLoop a z d)) := fun m' => by
        obtain ⟨q1, q2⟩ := HI.out.2.1.swp (i := i) (j := j) hy hx m'
        refine ⟨by rw [size_swp]; exact HI.out.1, q1, HI.out.2.2.1.trans q2, ?_⟩
        rw [← HI.out.2.2.2, rev_step q, hk]; rfl
      have HJK : Hid (j = k + 1) := hk
      have hij : i ≠ j := by omega
      clear hx hy hsz hk HI H0
      go_wp2_with fail
      go_region
      go_wp2_with fail
      have := HJK.out
      exact ⟨⟨i + 1, k, swp e i j, by go_num, rfl, by omega, by omega, HE.out 1⟩, by simp only [intOf]; omega⟩
    · have d1 : decide ((i : Int) < (j : Int)) = false := decide_eq_false (by omega)
      have d2 : decide (i < j) = false := decide_eq_false (by omega)
      have HE : Hid (Rw g (reverseLoop a z d) wr ∧ Fr (On g) w wr) := by
        rw [← HI.out.2.2.2, rev_stop q]; exact ⟨HI.out.2.1, HI.out.2.2.1⟩
      clear HI H0 q
      go_wp2_with fail
      go_end0
      exact ⟨rfl, HE.out⟩
end
end Go.Proofs.Ytbnlenanfhggiaa
/- Sorted by a heap. -/
namespace Go.Proofs.Ytbnlenanfhggiaa
open Go.ChangeShapes Go.WideShapes Go.ChangeAt Go.RowKit Go.Sort
set_option linter.unusedVariables false
set_option linter.unusedSimpArgs false
section
variable {g : Nat} {d : Array Int} {w w1 : World}
theorem sift_end {hi f r : Nat} (h : 2 * r + 1 ≥ hi) : siftDown ltZ hi f r d = d := by unfold siftDown; rw [dif_pos h]
theorem sift_lo {hi f r : Nat} (h : ¬ 2 * r + 1 ≥ hi) (h2 : (decide (2 * r + 1 + 1 < hi) && ltZ d[f + (2 * r + 1)]! d[f + (2 * r + 1) + 1]!) = false) :
    siftDown ltZ hi f r d = if !ltZ d[f + r]! d[f + (2 * r + 1)]! then d else siftDown ltZ hi f (2 * r + 1) (swp d (f + r) (f + (2 * r + 1))) := by
  conv => lhs; unfold siftDown
  rw [dif_neg h, h2]; rfl
theorem sift_up {hi f r : Nat} (h : ¬ 2 * r + 1 ≥ hi) (h2 : (decide (2 * r + 1 + 1 < hi) && ltZ d[f + (2 * r + 1)]! d[f + (2 * r + 1) + 1]!) = true) :
    siftDown ltZ hi f r d = if !ltZ d[f + r]! d[f + (2 * r + 2)]! then d else siftDown ltZ hi f (2 * r + 2) (swp d (f + r) (f + (2 * r + 2))) := by
  conv => lhs; unfold siftDown
  rw [dif_neg h, if_pos h2]
  split
  · rfl
  · rw [dif_pos (by simp at h2; omega)]
set_option maxHeartbeats 16000000 in
set_option maxRecDepth 100000 in
theorem sift_any {n lo hi f cap : Nat} (h : Rw g d w) (hn : d.size = n) (hb : f + hi ≤ n) (hlo : lo ≤ n) (hn2 : n ≤ 1000) :
    Calls Try.prog 81 #[.slice (some ⟨g, 0, none⟩) n cap, .int .i64 lo, .int .i64 hi, .int .i64 f] w fun e w' => e = .returned (.tuple #[]) ∧ Rw g (siftDown ltZ hi f lo d) w' ∧ Fr (On g) w w' := by
  have H0 : Hid (Rw g d w ∧ d.size = n) := ⟨h, hn⟩
  clear h hn
  go_enter Try.func81, Try.ntmps81
  go_wp2_with fail
  go_loopw [8] (fun v8 wr => ∃ (r : Nat) (e : Array Int), v8 = .int .i64 r ∧ r ≤ n ∧ Hid (e.size = n ∧ Rw g e wr ∧ Fr (On g) w wr ∧ siftDown ltZ hi f r e = siftDown ltZ hi f lo d)) (fun v8 _ => n - (intOf v8).toNat)
  case atStart => exact ⟨lo, d, rfl, hlo, H0.out.2, H0.out.1, Fr.refl _ _, rfl⟩
  case round =>
    obtain ⟨r, e, rfl, hr, HI⟩ := hrel
    clear H0
    obtain ⟨c, hc⟩ : ∃ c, c = 2 * r + 1 := ⟨_, rfl⟩
    have u1 : 2 * (r : Int) + 1 = (c : Int) := by omega
    by_cases q : c ≥ hi
    · have d1 : decide ((c : Int) ≥ (hi : Int)) = true := decide_eq_true (by omega)
      have d2 : decide ((hi : Int) ≤ (c : Int)) = true := decide_eq_true (by omega)
      have d3 : decide (hi ≤ c) = true := decide_eq_true (by omega)
      have HE : Hid (Rw g (siftDown ltZ hi f lo d) wr ∧ Fr (On g) w wr) := by
        rw [← HI.out.2.2.2, sift_end (by omega)]; exact ⟨HI.out.2.1, HI.out.2.2.1⟩
      clear HI q hc
      go_wp2_with fail
      first | go_end0 | refine bodyPost_ret (results_none rfl _ _ _) rfl ?_
      exact ⟨rfl, HE.out⟩
    · have d1 : decide ((c : Int) ≥ (hi : Int)) = false := decide_eq_false (by omega)
      have d2 : decide ((hi : Int) ≤ (c : Int)) = false := decide_eq_false (by omega)
      have d3 : decide (hi ≤ c) = false := decide_eq_false (by omega)
      obtain ⟨c2, hc2⟩ : ∃ c2, c2 = c + 1 := ⟨_, rfl⟩
      obtain ⟨p, hp⟩ : ∃ p, p = f + c := ⟨_, rfl⟩
      obtain ⟨p2, hp2⟩ : ∃ p2, p2 = f + c2 := ⟨_, rfl⟩
      obtain ⟨o, ho⟩ : ∃ o, o = f + r := ⟨_, rfl⟩
      have u2 : (c : Int) + 1 = (c2 : Int) := by omega
      have u3 : (f : Int) + (c : Int) = (p : Int) := by omega
      have u4 : (p : Int) + 1 = (p2 : Int) := by omega
      have u5 : (f : Int) + (c2 : Int) = (p2 : Int) := by omega
      have u6 : (f : Int) + (r : Int) = (o : Int) := by omega
      have hsz := HI.out.1
      have l1 : p < n := by omega
      have l2 : o < n := by omega
      have c1 := HI.out.2.1.cell (i := p) (by omega)
      have c3 := HI.out.2.1.cell (i := o) (by omega)
      obtain ⟨x, hx⟩ : ∃ x, e[p]! = x := ⟨_, rfl⟩
      obtain ⟨z, hz⟩ : ∃ z, e[o]! = z := ⟨_, rfl⟩
      rw [hx] at c1
      rw [hz] at c3
      have HN : Hid (c = 2 * r + 1 ∧ c2 = c + 1 ∧ p = f + c ∧ p2 = f + c2 ∧ o = f + r ∧ ¬ c ≥ hi ∧ e[p]! = x ∧ e[o]! = z) := ⟨hc, hc2, hp, hp2, ho, q, hx, hz⟩
      clear hc hc2 hp hp2 ho q hx hz hsz
      by_cases q2 : c2 < hi
      · have d4 : decide ((c2 : Int) < (hi : Int)) = true := decide_eq_true (by omega)
        have d5 : decide (c2 < hi) = true := decide_eq_true (by omega)
        have l3 : p2 < n := by have := HN.out; omega
        have cy := HI.out.2.1.cell (i := p2) (by have := HI.out.1; omega)
        obtain ⟨y, hy⟩ : ∃ y, e[p2]! = y := ⟨_, rfl⟩
        rw [hy] at cy
        have HY : Hid (e[p2]! = y ∧ c2 < hi) := ⟨hy, q2⟩
        clear hy q2
        cases hl : ltZ x y with
        | false =>
          have HS : Hid (siftDown ltZ hi f r e = if !ltZ z x then e else siftDown ltZ hi f c (swp e o p)) := by
            obtain ⟨n1, n2, n3, n4, n5, n6, n7, n8⟩ := HN.out
            have := sift_lo (d := e) (hi := hi) (f := f) (r := r) (by omega) (by rw [← n1, ← n3, n7, show p + 1 = p2 by omega, HY.out.1, hl, Bool.and_false])
            rw [this, ← n1, ← n3, ← n5, n7, n8]; exact rfl
          cases hm : ltZ z x with
          | false =>
            have HE : Hid (∀ m, Rw g (siftDown ltZ hi f lo d) (wr.drewN m) ∧ Fr (On g) w (wr.drewN m)) := fun m => by
              obtain ⟨n1, n2, n3, n4, n5, n6, n7, n8⟩ := HN.out
              have e0 : siftDown ltZ hi f lo d = e := by rw [← HI.out.2.2.2, HS.out, hm]; rfl
              rw [e0]; exact ⟨HI.out.2.1.drew m, HI.out.2.2.1.trans (Fr.drewN _ _ _)⟩
            go_wp2_with fail
            go_quiet ((go_at_call 76; have HC := less_any x y; rw [hl] at HC; exact Calls.quiet_of_same (HC _)))
            go_wp2_with fail
            obtain ⟨w5, hw5⟩ : ∃ w5, wr.drewN nq = w5 := ⟨_, rfl⟩
            have R5 := HI.out.2.1.drew nq
            replace c1 := kp_cell (kp_drewN wr nq) c1
            replace c3 := kp_cell (kp_drewN wr nq) c3
            have HQ : Hid (wr.drewN nq = w5) := hw5
            rw [hw5] at c1 c3 R5 ⊢
            clear hw5
            go_quiet ((go_at_call 76; have HC := less_any z x; rw [hm] at HC; exact Calls.quiet_of_same (HC _)))
            have HE2 : Hid (∀ m, Rw g (siftDown ltZ hi f lo d) (w5.drewN m) ∧ Fr (On g) w (w5.drewN m)) := fun m => by rw [← HQ.out, drew2]; exact HE.out _
            clear HE HQ HI HN R5 c1 c3
            go_wp2_with fail
            first | go_end0 | refine bodyPost_ret (results_none rfl _ _ _) rfl ?_
            exact ⟨rfl, HE2.out _⟩
          | true =>
            have HE : Hid (∀ m m', Hid ((swp e o p).size = n ∧ Rw g (swp e o p) ((((wr.drewN m).setCell ⟨g, o, none⟩ (.int .u8 x)).setCell ⟨g, p, none⟩ (.int .u8 z)).drewN m') ∧ Fr (On g) w ((((wr.drewN m).setCell ⟨g, o, none⟩ (.int .u8 x)).setCell ⟨g, p, none⟩ (.int .u8 z)).drewN m') ∧ siftDown ltZ hi f c (swp e o p) = siftDown ltZ hi f lo d)) := fun m m' => by
              obtain ⟨q1, q2⟩ := (HI.out.2.1.drew m).swp (i := o) (j := p) HN.out.2.2.2.2.2.2.1 HN.out.2.2.2.2.2.2.2 m'
              refine ⟨by rw [size_swp]; exact HI.out.1, q1, (HI.out.2.2.1.trans (Fr.drewN _ _ _)).trans q2, ?_⟩
              rw [← HI.out.2.2.2, HS.out, hm]; rfl
            go_wp2_with fail
            go_quiet ((go_at_call 76; have HC := less_any x y; rw [hl] at HC; exact Calls.quiet_of_same (HC _)))
            go_wp2_with fail
            obtain ⟨w5, hw5⟩ : ∃ w5, wr.drewN nq = w5 := ⟨_, rfl⟩
            have R5 := HI.out.2.1.drew nq
            replace c1 := kp_cell (kp_drewN wr nq) c1
            replace c3 := kp_cell (kp_drewN wr nq) c3
            have HQ : Hid (wr.drewN nq = w5) := hw5
            rw [hw5] at c1 c3 R5 ⊢
            clear hw5
            go_quiet ((go_at_call 76; have HC := less_any z x; rw [hm] at HC; exact Calls.quiet_of_same (HC _)))
            obtain ⟨w6, hw6⟩ : ∃ w6, w5.drewN nq = w6 := ⟨_, rfl⟩
            replace R5 := R5.drew nq
            replace c1 := kp_cell (kp_drewN w5 nq) c1
            replace c3 := kp_cell (kp_drewN w5 nq) c3
            rw [hw6] at c1 c3 R5 ⊢
            have f1 := R5.fz o
            have f2 := R5.fz p
            have HE2 : Hid (∀ m', Hid ((swp e o p).size = n ∧ Rw g (swp e o p) (((w6.setCell ⟨g, o, none⟩ (.int .u8 x)).setCell ⟨g, p, none⟩ (.int .u8 z)).drewN m') ∧ Fr (On g) w (((w6.setCell ⟨g, o, none⟩ (.int .u8 x)).setCell ⟨g, p, none⟩ (.int .u8 z)).drewN m') ∧ siftDown ltZ hi f c (swp e o p) = siftDown ltZ hi f lo d)) := fun m' => by rw [← hw6, ← HQ.out, drew2]; exact HE.out _ _
            have hne : o ≠ p := by have := HN.out; omega
            clear hw6 HE HQ HI R5 HS hm
            go_wp2_with fail
            go_region
            go_wp2_with fail
            have := HN.out
            exact ⟨⟨c, swp e o p, rfl, by omega, HE2.out 1⟩, by simp only [intOf]; omega⟩
        | true =>
          have HS : Hid (siftDown ltZ hi f r e = if !ltZ z y then e else siftDown ltZ hi f c2 (swp e o p2)) := by
            obtain ⟨n1, n2, n3, n4, n5, n6, n7, n8⟩ := HN.out
            have h1 := HY.out.2
            have := sift_up (d := e) (hi := hi) (f := f) (r := r) (by omega) (by rw [← n1, ← n3, n7, show p + 1 = p2 by omega, HY.out.1, hl, show c + 1 = c2 by omega, decide_eq_true h1]; rfl)
            rw [this, show 2 * r + 2 = c2 by omega, ← n4, ← n5, n8, HY.out.1]; exact rfl
          cases hm : ltZ z y with
          | false =>
            have HE : Hid (∀ m, Rw g (siftDown ltZ hi f lo d) (wr.drewN m) ∧ Fr (On g) w (wr.drewN m)) := fun m => by
              obtain ⟨n1, n2, n3, n4, n5, n6, n7, n8⟩ := HN.out
              have e0 : siftDown ltZ hi f lo d = e := by rw [← HI.out.2.2.2, HS.out, hm]; rfl
              rw [e0]; exact ⟨HI.out.2.1.drew m, HI.out.2.2.1.trans (Fr.drewN _ _ _)⟩
            go_wp2_with fail
            go_quiet ((go_at_call 76; have HC := less_any x y; rw [hl] at HC; exact Calls.quiet_of_same (HC _)))
            go_wp2_with fail
            obtain ⟨w5, hw5⟩ : ∃ w5, wr.drewN nq = w5 := ⟨_, rfl⟩
            have R5 := HI.out.2.1.drew nq
            replace c1 := kp_cell (kp_drewN wr nq) c1
            replace c3 := kp_cell (kp_drewN wr nq) c3
            replace cy := kp_cell (kp_drewN wr nq) cy
            have HQ : Hid (wr.drewN nq = w5) := hw5
            rw [hw5] at c1 c3 cy R5 ⊢
            clear hw5
            go_quiet ((go_at_call 76; have HC := less_any z y; rw [hm] at HC; exact Calls.quiet_of_same (HC _)))
            have HE2 : Hid (∀ m, Rw g (siftDown ltZ hi f lo d) (w5.drewN m) ∧ Fr (On g) w (w5.drewN m)) := fun m => by rw [← HQ.out, drew2]; exact HE.out _
            clear HE HQ HI HN R5 c1 c3 cy
            go_wp2_with fail
            first | go_end0 | refine bodyPost_ret (results_none rfl _ _ _) rfl ?_
            exact ⟨rfl, HE2.out _⟩
          | true =>
            have HE : Hid (∀ m m', Hid ((swp e o p2).size = n ∧ Rw g (swp e o p2) ((((wr.drewN m).setCell ⟨g, o, none⟩ (.int .u8 y)).setCell ⟨g, p2, none⟩ (.int .u8 z)).drewN m') ∧ Fr (On g) w ((((wr.drewN m).setCell ⟨g, o, none⟩ (.int .u8 y)).setCell ⟨g, p2, none⟩ (.int .u8 z)).drewN m') ∧ siftDown ltZ hi f c2 (swp e o p2) = siftDown ltZ hi f lo d)) := fun m m' => by
              obtain ⟨q1, q2⟩ := (HI.out.2.1.drew m).swp (i := o) (j := p2) HY.out.1 HN.out.2.2.2.2.2.2.2 m'
              refine ⟨by rw [size_swp]; exact HI.out.1, q1, (HI.out.2.2.1.trans (Fr.drewN _ _ _)).trans q2, ?_⟩
              rw [← HI.out.2.2.2, HS.out, hm]; rfl
            go_wp2_with fail
            go_quiet ((go_at_call 76; have HC := less_any x y; rw [hl] at HC; exact Calls.quiet_of_same (HC _)))
            go_wp2_with fail
            obtain ⟨w5, hw5⟩ : ∃ w5, wr.drewN nq = w5 := ⟨_, rfl⟩
            have R5 := HI.out.2.1.drew nq
            replace c1 := kp_cell (kp_drewN wr nq) c1
            replace c3 := kp_cell (kp_drewN wr nq) c3
            replace cy := kp_cell (kp_drewN wr nq) cy
            have HQ : Hid (wr.drewN nq = w5) := hw5
            rw [hw5] at c1 c3 cy R5 ⊢
            clear hw5
            go_quiet ((go_at_call 76; have HC := less_any z y; rw [hm] at HC; exact Calls.quiet_of_same (HC _)))
            obtain ⟨w6, hw6⟩ : ∃ w6, w5.drewN nq = w6 := ⟨_, rfl⟩
            replace R5 := R5.drew nq
            replace c1 := kp_cell (kp_drewN w5 nq) c1
            replace c3 := kp_cell (kp_drewN w5 nq) c3
            replace cy := kp_cell (kp_drewN w5 nq) cy
            rw [hw6] at c1 c3 cy R5 ⊢
            have f1 := R5.fz o
            have f2 := R5.fz p2
            have HE2 : Hid (∀ m', Hid ((swp e o p2).size = n ∧ Rw g (swp e o p2) (((w6.setCell ⟨g, o, none⟩ (.int .u8 y)).setCell ⟨g, p2, none⟩ (.int .u8 z)).drewN m') ∧ Fr (On g) w (((w6.setCell ⟨g, o, none⟩ (.int .u8 y)).setCell ⟨g, p2, none⟩ (.int .u8 z)).drewN m') ∧ siftDown ltZ hi f c2 (swp e o p2) = siftDown ltZ hi f lo d)) := fun m' => by rw [← hw6, ← HQ.out, drew2]; exact HE.out _ _
            have hne : o ≠ p2 := by have := HN.out; omega
            clear hw6 HE HQ HI R5 HS hm
            go_wp2_with fail
            go_region
            go_wp2_with fail
            have := HN.out
            exact ⟨⟨c2, swp e o p2, rfl, by omega, HE2.out 1⟩, by simp only [intOf]; omega⟩
      · have d4 : decide ((c2 : Int) < (hi : Int)) = false := decide_eq_false (by omega)
        have d5 : decide (c2 < hi) = false := decide_eq_false (by omega)
        have HS : Hid (siftDown ltZ hi f r e = if !ltZ z x then e else siftDown ltZ hi f c (swp e o p)) := by
          obtain ⟨n1, n2, n3, n4, n5, n6, n7, n8⟩ := HN.out
          have := sift_lo (d := e) (hi := hi) (f := f) (r := r) (by omega) (by rw [decide_eq_false (by omega)]; rfl)
          rw [this, ← n1, ← n3, ← n5, n7, n8]; exact rfl
        clear q2
        cases hm : ltZ z x with
        | false =>
          have HE : Hid (∀ m, Rw g (siftDown ltZ hi f lo d) (wr.drewN m) ∧ Fr (On g) w (wr.drewN m)) := fun m => by
            obtain ⟨n1, n2, n3, n4, n5, n6, n7, n8⟩ := HN.out
            have e0 : siftDown ltZ hi f lo d = e := by rw [← HI.out.2.2.2, HS.out, hm]; rfl
            rw [e0]; exact ⟨HI.out.2.1.drew m, HI.out.2.2.1.trans (Fr.drewN _ _ _)⟩
          go_wp2_with fail
          go_quiet (fail)
          go_wp2_with fail
          obtain ⟨w5, hw5⟩ : ∃ w5, wr.drewN nq = w5 := ⟨_, rfl⟩
          have R5 := HI.out.2.1.drew nq
          replace c1 := kp_cell (kp_drewN wr nq) c1
          replace c3 := kp_cell (kp_drewN wr nq) c3
          have HQ : Hid (wr.drewN nq = w5) := hw5
          rw [hw5] at c1 c3 R5 ⊢
          clear hw5
          go_quiet ((go_at_call 76; have HC := less_any z x; rw [hm] at HC; exact Calls.quiet_of_same (HC _)))
          have HE2 : Hid (∀ m, Rw g (siftDown ltZ hi f lo d) (w5.drewN m) ∧ Fr (On g) w (w5.drewN m)) := fun m => by rw [← HQ.out, drew2]; exact HE.out _
          clear HE HQ HI HN R5 c1 c3
          go_wp2_with fail
          first | go_end0 | refine bodyPost_ret (results_none rfl _ _ _) rfl ?_
          exact ⟨rfl, HE2.out _⟩
        | true =>
          have HE : Hid (∀ m m', Hid ((swp e o p).size = n ∧ Rw g (swp e o p) ((((wr.drewN m).setCell ⟨g, o, none⟩ (.int .u8 x)).setCell ⟨g, p, none⟩ (.int .u8 z)).drewN m') ∧ Fr (On g) w ((((wr.drewN m).setCell ⟨g, o, none⟩ (.int .u8 x)).setCell ⟨g, p, none⟩ (.int .u8 z)).drewN m') ∧ siftDown ltZ hi f c (swp e o p) = siftDown ltZ hi f lo d)) := fun m m' => by
            obtain ⟨q1, q2⟩ := (HI.out.2.1.drew m).swp (i := o) (j := p) HN.out.2.2.2.2.2.2.1 HN.out.2.2.2.2.2.2.2 m'
            refine ⟨by rw [size_swp]; exact HI.out.1, q1, (HI.out.2.2.1.trans (Fr.drewN _ _ _)).trans q2, ?_⟩
            rw [← HI.out.2.2.2, HS.out, hm]; rfl
          go_wp2_with fail
          go_quiet (fail)
          go_wp2_with fail
          obtain ⟨w5, hw5⟩ : ∃ w5, wr.drewN nq = w5 := ⟨_, rfl⟩
          have R5 := HI.out.2.1.drew nq
          replace c1 := kp_cell (kp_drewN wr nq) c1
          replace c3 := kp_cell (kp_drewN wr nq) c3
          have HQ : Hid (wr.drewN nq = w5) := hw5
          rw [hw5] at c1 c3 R5 ⊢
          clear hw5
          go_quiet ((go_at_call 76; have HC := less_any z x; rw [hm] at HC; exact Calls.quiet_of_same (HC _)))
          obtain ⟨w6, hw6⟩ : ∃ w6, w5.drewN nq = w6 := ⟨_, rfl⟩
          replace R5 := R5.drew nq
          replace c1 := kp_cell (kp_drewN w5 nq) c1
          replace c3 := kp_cell (kp_drewN w5 nq) c3
          rw [hw6] at c1 c3 R5 ⊢
          have f1 := R5.fz o
          have f2 := R5.fz p
          have HE2 : Hid (∀ m', Hid ((swp e o p).size = n ∧ Rw g (swp e o p) (((w6.setCell ⟨g, o, none⟩ (.int .u8 x)).setCell ⟨g, p, none⟩ (.int .u8 z)).drewN m') ∧ Fr (On g) w (((w6.setCell ⟨g, o, none⟩ (.int .u8 x)).setCell ⟨g, p, none⟩ (.int .u8 z)).drewN m') ∧ siftDown ltZ hi f c (swp e o p) = siftDown ltZ hi f lo d)) := fun m' => by rw [← hw6, ← HQ.out, drew2]; exact HE.out _ _
          have hne : o ≠ p := by have := HN.out; omega
          clear hw6 HE HQ HI R5 HS hm
          go_wp2_with fail
          go_region
          go_wp2_with fail
          have := HN.out
          exact ⟨⟨c, swp e o p, rfl, by omega, HE2.out 1⟩, by simp only [intOf]; omega⟩
end
end Go.Proofs.Ytbnlenanfhggiaa
/- Sorted by a heap: heapSort. -/
namespace Go.Proofs.Ytbnlenanfhggiaa
open Go.ChangeShapes Go.WideShapes Go.ChangeAt Go.RowKit Go.Sort
set_option linter.unusedVariables false
set_option linter.unusedSimpArgs false
section
variable {g : Nat} {d : Array Int} {w w1 : World}
theorem sift_size (hi f : Nat) : ∀ (m r : Nat) (d : Array Int), hi - r ≤ m → (siftDown ltZ hi f r d).size = d.size := by
  intro m
  induction m with
  | zero => intro r d h; rw [sift_end (by omega)]
  | succ m ih =>
    intro r d h
    by_cases q : 2 * r + 1 ≥ hi
    · rw [sift_end q]
    · cases p : (decide (2 * r + 1 + 1 < hi) && ltZ d[f + (2 * r + 1)]! d[f + (2 * r + 1) + 1]!) with
      | false =>
        rw [sift_lo q p]
        split
        · rfl
        · rw [ih _ _ (by omega), size_swp]
      | true =>
        rw [sift_up q p]
        split
        · rfl
        · rw [ih _ _ (by omega), size_swp]
set_option maxHeartbeats 16000000 in
set_option maxRecDepth 100000 in
theorem heap_any {n a b cap : Nat} (h : Rw g d w) (hn : d.size = n) (hab : a < b) (hb : b ≤ n) (hn2 : n ≤ 1000) :
    Calls Try.prog 71 #[.slice (some ⟨g, 0, none⟩) n cap, .int .i64 a, .int .i64 b] w fun e w' => e = .returned (.tuple #[]) ∧ Rw g (heapSort ltZ d a b) w' ∧ Fr (On g) w w' := by
  obtain ⟨H, hH⟩ : ∃ H, b = a + H := ⟨b - a, by omega⟩
  obtain ⟨H1, hH1⟩ : ∃ H1, H = H1 + 1 := ⟨H - 1, by omega⟩
  obtain ⟨m, hm⟩ : ∃ m, m = H1 / 2 := ⟨_, rfl⟩
  have u1 : (b : Int) - (a : Int) = (H : Int) := by omega
  have u2 : (H : Int) - 1 = (H1 : Int) := by omega
  have u3 : (H1 : Int).tdiv 2 = (m : Int) := by rw [hm]; rfl
  have u4 : (H1 : Int) / 2 = (m : Int) := by omega
  have H0 : Hid (Rw g d w ∧ d.size = n ∧ heapSort ltZ d a b = heapPop ltZ a H (heapBuild ltZ H a (m + 1) d)) := ⟨h, hn, by unfold heapSort; rw [show b - a = H by omega, show (H - 1) / 2 + 1 = m + 1 by omega]⟩
  have hHn : a + H ≤ n := by omega
  have hmH : m ≤ n := by omega
  have HH : Hid (H = H1 + 1) := hH1
  clear h hn hH hm hH1 hb
  go_enter Try.func71, Try.ntmps71
  go_wp2_with fail
  go_loopw [9] (fun v9 wr => ∃ (vi : Int) (k : Nat) (e : Array Int), v9 = .int .i64 vi ∧ vi + 1 = (k : Int) ∧ k ≤ n + 1 ∧ Hid (e.size = n ∧ Rw g e wr ∧ Fr (On g) w wr ∧ heapBuild ltZ H a k e = heapBuild ltZ H a (m + 1) d)) (fun v9 _ => (intOf v9 + 1).toNat)
  case atStart => exact ⟨m, m + 1, d, rfl, by omega, by omega, H0.out.2.1, H0.out.1, Fr.refl _ _, rfl⟩
  case round =>
    obtain ⟨vi, k, e, rfl, hk, hkn, HI⟩ := hrel
    clear u3 u4
    cases k with
    | zero =>
      obtain rfl : vi = -1 := by omega
      have HE : Hid (Rw g (heapBuild ltZ H a (m + 1) d) wr ∧ Fr (On g) w wr ∧ (heapBuild ltZ H a (m + 1) d).size = n) := by
        rw [← HI.out.2.2.2]; exact ⟨HI.out.2.1, HI.out.2.2.1, HI.out.1⟩
      clear HI hk
      go_wp2_with fail
      go_loopw [10] (fun v10 wr2 => ∃ (vi : Int) (k : Nat) (e : Array Int), v10 = .int .i64 vi ∧ vi + 1 = (k : Int) ∧ k ≤ H ∧ Hid (e.size = n ∧ Rw g e wr2 ∧ Fr (On g) w wr2 ∧ heapPop ltZ a k e = heapPop ltZ a H (heapBuild ltZ H a (m + 1) d))) (fun v10 _ => (intOf v10 + 1).toNat)
      case atStart => exact ⟨H1, H, _, rfl, by have := HH.out; omega, Nat.le_refl _, HE.out.2.2, HE.out.1, HE.out.2.1, rfl⟩
      case round =>
        obtain ⟨vi, k, e, rfl, hk, hkn2, HI⟩ := hrel
        clear HE
        cases k with
        | zero =>
          obtain rfl : vi = -1 := by omega
          have HF : Hid (Rw g (heapSort ltZ d a b) wr ∧ Fr (On g) w wr) := by
            rw [H0.out.2.2, ← HI.out.2.2.2]; exact ⟨HI.out.2.1, HI.out.2.2.1⟩
          clear HI hk H0
          go_wp2_with fail
          go_end0
          exact ⟨rfl, HF.out⟩
        | succ i =>
          obtain rfl : vi = (i : Int) := by omega
          clear hk
          obtain ⟨p, hp⟩ : ∃ p, p = a + i := ⟨_, rfl⟩
          have d1 : decide ((i : Int) ≥ 0) = true := decide_eq_true (by omega)
          have d2 : decide ((0 : Int) ≤ (i : Int)) = true := decide_eq_true (by omega)
          have v1 : (a : Int) + (i : Int) = (p : Int) := by omega
          have l1 : a < n := by omega
          have l2 : p < n := by omega
          have c1 := HI.out.2.1.cell (i := a) (by have := HI.out.1; omega)
          have c2 := HI.out.2.1.cell (i := p) (by have := HI.out.1; omega)
          have f1 := HI.out.2.1.fz a
          have f2 := HI.out.2.1.fz p
          obtain ⟨x, hx⟩ : ∃ x, e[a]! = x := ⟨_, rfl⟩
          obtain ⟨y, hy⟩ : ∃ y, e[p]! = y := ⟨_, rfl⟩
          rw [hx] at c1
          rw [hy] at c2
          have HS : Hid (∀ m', Calls Try.prog 81 #[.slice (some ⟨g, 0, none⟩) n cap, .int .i64 0, .int .i64 i, .int .i64 a] (((wr.setCell ⟨g, a, none⟩ (.int .u8 y)).setCell ⟨g, p, none⟩ (.int .u8 x)).drewN m') fun ee w' => ee = .returned (.tuple #[]) ∧ Hid ((siftDown ltZ i a 0 (swp e a p)).size = n ∧ Rw g (siftDown ltZ i a 0 (swp e a p)) w' ∧ Fr (On g) w w' ∧ heapPop ltZ a i (siftDown ltZ i a 0 (swp e a p)) = heapPop ltZ a H (heapBuild ltZ H a (m + 1) d))) := fun m' => by
            obtain ⟨q1, q2⟩ := HI.out.2.1.swp (i := a) (j := p) hy hx m'
            have hs : (swp e a p).size = n := by rw [size_swp]; exact HI.out.1
            refine (sift_any (lo := 0) q1 hs (by omega) (by omega) hn2).mono ?_
            rintro ee w' ⟨he, hr, hf⟩
            refine ⟨he, by rw [sift_size _ _ _ _ _ (Nat.le_refl _)]; exact hs, hr, (HI.out.2.2.1.trans q2).trans hf, ?_⟩
            rw [← HI.out.2.2.2, hp]; rfl
          have HP : Hid (p = a + i) := hp
          clear hx hy hp HI
          by_cases hne : a = p
          · subst hne
            have hxy : x = y := by rw [c1] at c2; cases c2; rfl
            subst hxy
            clear c2 f2 l2
            go_wp2_with fail
            go_region
            go_wp2_with fail
            refine Calls.mono (HS.out 1) ?_
            rintro ee w3 ⟨rfl, H3⟩
            have H3' : Hid _ := H3
            clear HS H3 c1 f1
            go_wp2_with fail
            go_roundw
            case rel => exact ⟨(i : Int) - 1, i, _, rfl, by omega, by omega, H3'.out⟩
            case measure => simp only [intOf]; omega
          · go_wp2_with fail
            go_region
            go_wp2_with fail
            refine Calls.mono (HS.out 1) ?_
            rintro ee w3 ⟨rfl, H3⟩
            have H3' : Hid _ := H3
            clear HS H3 c1 f1 c2 f2
            go_wp2_with fail
            go_roundw
            case rel => exact ⟨(i : Int) - 1, i, _, rfl, by omega, by omega, H3'.out⟩
            case measure => simp only [intOf]; omega
    | succ i =>
      obtain rfl : vi = (i : Int) := by omega
      clear hk
      have d1 : decide ((i : Int) ≥ 0) = true := decide_eq_true (by omega)
      have d2 : decide ((0 : Int) ≤ (i : Int)) = true := decide_eq_true (by omega)
      have HS : Hid (Calls Try.prog 81 #[.slice (some ⟨g, 0, none⟩) n cap, .int .i64 i, .int .i64 H, .int .i64 a] wr fun ee w' => ee = .returned (.tuple #[]) ∧ Hid ((siftDown ltZ H a i e).size = n ∧ Rw g (siftDown ltZ H a i e) w' ∧ Fr (On g) w w' ∧ heapBuild ltZ H a i (siftDown ltZ H a i e) = heapBuild ltZ H a (m + 1) d)) := by
        refine (sift_any HI.out.2.1 HI.out.1 (by omega) (by omega) hn2).mono ?_
        rintro ee w' ⟨he, hr, hf⟩
        refine ⟨he, by rw [sift_size _ _ _ _ _ (Nat.le_refl _)]; exact HI.out.1, hr, HI.out.2.2.1.trans hf, ?_⟩
        rw [← HI.out.2.2.2]; rfl
      clear HI
      go_wp2_with fail
      refine Calls.mono HS.out ?_
      rintro ee w3 ⟨rfl, H3⟩
      have H3' : Hid _ := H3
      clear HS H3
      go_wp2_with fail
      go_roundw
      case rel => exact ⟨(i : Int) - 1, i, _, rfl, by omega, by omega, H3'.out⟩
      case measure => simp only [intOf]; omega
end
end Go.Proofs.Ytbnlenanfhggiaa
