/- Texts that the proof of the law stands on: Leaf, Ref, Cls, SetMath, Sets, Gather, Of, Named, PBase, Scan1, Scan2, Scan3, Scan4. -/
import Derived.Test.YtmghdogoeehodaaGreatDoorRows
import Derived.WalkKit
import Derived.ProofKit
import Derived.OpenShut
import Derived.BigQuiet
import Derived.Laws.EntriesVeiled
import Derived.WalkSmall
import Derived.Below
import Derived.Deep.QuietTactic
import Derived.Laws.BitsAllLaws
import Derived.LoopTactic
import Derived.RegionTactic
import Derived.Deep.RegionWith
import Derived.Deep.RegionHeld3
import Derived.BigRegion
import Derived.Deep.RegionLaw
import Derived.Laws.AppendOwn
import Derived.Lib.Strings
import Derived.Lib.Slices
import Derived.Lib.Walk
import Derived.Lib.Bytealg
import Derived.WalkLawsBesides
/- Each test of a byte in package kind, and each one of the document's answer, returns just what a plain function of the byte says, and leaves the world as it was; for every byte. -/
namespace Go.Proofs.YtmghdogoeehodaaGreatDoor
open Go.ChangeShapes Go.WideShapes Go.ChangeAt Go.RowKit

def bt (c a b : Int) : Bool := decide (a ≤ c ∧ c ≤ b)
def digB (c : Int) : Bool := bt c 48 57
def octB (c : Int) : Bool := bt c 48 55
def smlB (c : Int) : Bool := bt c 97 122
def grtB (c : Int) : Bool := bt c 65 90
def letB (c : Int) : Bool := smlB c || grtB c
def ladB (c : Int) : Bool := letB c || digB c
def hedB (c : Int) : Bool := letB c || c == 95
def wrdB (c : Int) : Bool := hedB c || digB c
def blkB (c : Int) : Bool := c == 32 || c == 9
def spcB (c : Int) : Bool := c == 32 || bt c 9 13
def hexB (c : Int) : Bool := digB c || bt c 97 102 || bt c 65 70
def ctlB (c : Int) : Bool := decide (c < 32) || c == 127
def pctB (c : Int) : Bool := bt c 33 47 || bt c 58 64 || bt c 91 96 || bt c 123 126

theorem bt_yes {c a b : Int} (h1 : a ≤ c) (h2 : c ≤ b) : bt c a b = true := by simp [bt, h1, h2]
theorem bt_no1 {c a b : Int} (h1 : ¬ a ≤ c) : bt c a b = false := by simp [bt, h1]
theorem bt_no2 {c a b : Int} (h2 : ¬ c ≤ b) : bt c a b = false := by simp [bt, h2]

theorem between_any (c a b : Int) (w : World) :
    Calls Tryz.prog 122 #[.int .u8 c, .int .u8 a, .int .u8 b] w fun e w' => e = .returned (.bool (bt c a b)) ∧ w' = w := by
  by_cases h1 : a ≤ c
  · by_cases h2 : c ≤ b
    · rw [bt_yes h1 h2]
      go_enter Tryz.func122, Tryz.ntmps122
      go_wp2
      go_ret
      exact ⟨rfl, rfl⟩
    · rw [bt_no2 h2]
      go_enter Tryz.func122, Tryz.ntmps122
      go_wp2
      go_ret
      exact ⟨rfl, rfl⟩
  · rw [bt_no1 h1]
    go_enter Tryz.func122, Tryz.ntmps122
    go_wp2
    go_ret
    exact ⟨rfl, rfl⟩

theorem isDigit_any (c : Int) (w : World) :
    Calls Tryz.prog 111 #[.int .u8 c] w fun e w' => e = .returned (.bool (digB c)) ∧ w' = w := by
  unfold digB
  go_enter Tryz.func111, Tryz.ntmps111
  go_wp2_with (go_at_call 122; refine (between_any _ _ _ _).mono ?_; rintro e w' ⟨rfl, rfl⟩)
  go_ret
  exact ⟨rfl, rfl⟩

theorem isOctal_any (c : Int) (w : World) :
    Calls Tryz.prog 113 #[.int .u8 c] w fun e w' => e = .returned (.bool (octB c)) ∧ w' = w := by
  unfold octB
  go_enter Tryz.func113, Tryz.ntmps113
  go_wp2_with (go_at_call 122; refine (between_any _ _ _ _).mono ?_; rintro e w' ⟨rfl, rfl⟩)
  go_ret
  exact ⟨rfl, rfl⟩

theorem isSmall_any (c : Int) (w : World) :
    Calls Tryz.prog 117 #[.int .u8 c] w fun e w' => e = .returned (.bool (smlB c)) ∧ w' = w := by
  unfold smlB
  go_enter Tryz.func117, Tryz.ntmps117
  go_wp2_with (go_at_call 122; refine (between_any _ _ _ _).mono ?_; rintro e w' ⟨rfl, rfl⟩)
  go_ret
  exact ⟨rfl, rfl⟩

theorem isGreat_any (c : Int) (w : World) :
    Calls Tryz.prog 110 #[.int .u8 c] w fun e w' => e = .returned (.bool (grtB c)) ∧ w' = w := by
  unfold grtB
  go_enter Tryz.func110, Tryz.ntmps110
  go_wp2_with (go_at_call 122; refine (between_any _ _ _ _).mono ?_; rintro e w' ⟨rfl, rfl⟩)
  go_ret
  exact ⟨rfl, rfl⟩

theorem isLetter_any (c : Int) (w : World) :
    Calls Tryz.prog 116 #[.int .u8 c] w fun e w' => e = .returned (.bool (letB c)) ∧ w' = w := by
  unfold letB
  cases h : smlB c
  all_goals
    go_enter Tryz.func116, Tryz.ntmps116
    go_wp2_with (first | (go_at_call 117; refine (isSmall_any _ _).mono ?_; rintro e w' ⟨rfl, rfl⟩) | (go_at_call 110; refine (isGreat_any _ _).mono ?_; rintro e w' ⟨rfl, rfl⟩))
    go_ret
    exact ⟨rfl, rfl⟩

theorem isLetterOrDigit_any (c : Int) (w : World) :
    Calls Tryz.prog 128 #[.int .u8 c] w fun e w' => e = .returned (.bool (ladB c)) ∧ w' = w := by
  unfold ladB
  cases h : letB c
  all_goals
    go_enter Tryz.func128, Tryz.ntmps128
    go_wp2_with (first | (go_at_call 116; refine (isLetter_any _ _).mono ?_; rintro e w' ⟨rfl, rfl⟩) | (go_at_call 111; refine (isDigit_any _ _).mono ?_; rintro e w' ⟨rfl, rfl⟩))
    go_ret
    exact ⟨rfl, rfl⟩

theorem isHead_any (c : Int) (w : World) :
    Calls Tryz.prog 115 #[.int .u8 c] w fun e w' => e = .returned (.bool (hedB c)) ∧ w' = w := by
  unfold hedB
  cases h : letB c
  all_goals
    go_enter Tryz.func115, Tryz.ntmps115
    go_wp2_with (go_at_call 116; refine (isLetter_any _ _).mono ?_; rintro e w' ⟨rfl, rfl⟩)
    go_ret
    exact ⟨rfl, rfl⟩

theorem isWord_any (c : Int) (w : World) :
    Calls Tryz.prog 114 #[.int .u8 c] w fun e w' => e = .returned (.bool (wrdB c)) ∧ w' = w := by
  unfold wrdB
  cases h : hedB c
  all_goals
    go_enter Tryz.func114, Tryz.ntmps114
    go_wp2_with (first | (go_at_call 115; refine (isHead_any _ _).mono ?_; rintro e w' ⟨rfl, rfl⟩) | (go_at_call 111; refine (isDigit_any _ _).mono ?_; rintro e w' ⟨rfl, rfl⟩))
    go_ret
    exact ⟨rfl, rfl⟩

theorem isBlank_any (c : Int) (w : World) :
    Calls Tryz.prog 118 #[.int .u8 c] w fun e w' => e = .returned (.bool (blkB c)) ∧ w' = w := by
  unfold blkB
  cases h : (c == 32)
  all_goals
    go_enter Tryz.func118, Tryz.ntmps118
    go_wp2
    go_ret
    exact ⟨rfl, rfl⟩

theorem isSpace_any (c : Int) (w : World) :
    Calls Tryz.prog 129 #[.int .u8 c] w fun e w' => e = .returned (.bool (spcB c)) ∧ w' = w := by
  unfold spcB
  cases h : (c == 32)
  all_goals
    go_enter Tryz.func129, Tryz.ntmps129
    go_wp2_with (go_at_call 122; refine (between_any _ _ _ _).mono ?_; rintro e w' ⟨rfl, rfl⟩)
    go_ret
    exact ⟨rfl, rfl⟩

theorem isControl_any (c : Int) (w : World) :
    Calls Tryz.prog 130 #[.int .u8 c] w fun e w' => e = .returned (.bool (ctlB c)) ∧ w' = w := by
  unfold ctlB
  cases h : decide (c < 32)
  all_goals
    go_enter Tryz.func130, Tryz.ntmps130
    go_wp2
    go_ret
    exact ⟨rfl, rfl⟩

theorem isPunct_any (c : Int) (w : World) :
    Calls Tryz.prog 131 #[.int .u8 c] w fun e w' => e = .returned (.bool (pctB c)) ∧ w' = w := by
  unfold pctB
  cases h1 : bt c 33 47 <;> cases h2 : bt c 58 64 <;> cases h3 : bt c 91 96
  all_goals
    go_enter Tryz.func131, Tryz.ntmps131
    go_wp2_with (go_at_call 122; refine (between_any _ _ _ _).mono ?_; rintro e w' ⟨rfl, rfl⟩)
    go_ret
    exact ⟨rfl, rfl⟩

theorem isHex_any (c : Int) (w : World) :
    Calls Tryz.prog 112 #[.int .u8 c] w fun e w' => e = .returned (.bool (hexB c)) ∧ w' = w := by
  unfold hexB
  cases h1 : digB c <;> cases h2 : bt c 97 102
  all_goals
    go_enter Tryz.func112, Tryz.ntmps112
    go_wp2_with (first | (go_at_call 111; refine (isDigit_any _ _).mono ?_; rintro e w' ⟨rfl, rfl⟩) | (go_at_call 122; refine (between_any _ _ _ _).mono ?_; rintro e w' ⟨rfl, rfl⟩))
    go_ret
    exact ⟨rfl, rfl⟩

end Go.Proofs.YtmghdogoeehodaaGreatDoor
/- The document's answer for one byte (its classes, its letters) returns just what plain functions of the byte say, and leaves the world as it was. -/
namespace Go.Proofs.YtmghdogoeehodaaGreatDoor
open Go.ChangeShapes Go.WideShapes Go.ChangeAt Go.RowKit

def smI (c : Int) : Int := if grtB c then c + 32 else c
def grI (c : Int) : Int := if smlB c then c - 32 else c
def knB (k : Int) : Bool := k == 100 || k == 120 || k == 111 || k == 119 || k == 104 || k == 97 || k == 108 || k == 117 || k == 115
def clsB (k c : Int) : Bool :=
  if k = 100 then digB c else if k = 120 then hexB c else if k = 111 then octB c else if k = 119 then wrdB c else if k = 104 then hedB c
  else if k = 97 then letB c else if k = 108 then smlB c else if k = 117 then grtB c else if k = 115 then blkB c else false
def isB (k c : Int) : Bool := knB (smI k) && (clsB (smI k) c != grtB k)

theorem ret_u8 {a b : Int} (h : a = b) : Ending.returned (.int .u8 a) = .returned (.int .u8 b) := by rw [h]
theorem grtB_iff {c : Int} : grtB c = true ↔ 65 ≤ c ∧ c ≤ 90 := by simp [grtB, bt]
theorem smlB_iff {c : Int} : smlB c = true ↔ 97 ≤ c ∧ c ≤ 122 := by simp [smlB, bt]
theorem knB_no {k : Int} (h : knB k = false) : (k == 100) = false ∧ (k == 120) = false ∧ (k == 111) = false ∧ (k == 119) = false ∧ (k == 104) = false ∧ (k == 97) = false ∧ (k == 108) = false ∧ (k == 117) = false ∧ (k == 115) = false := by
  simpa [knB, and_assoc] using h
theorem knB_yes {k : Int} (h : knB k = true) : k = 100 ∨ k = 120 ∨ k = 111 ∨ k = 119 ∨ k = 104 ∨ k = 97 ∨ k = 108 ∨ k = 117 ∨ k = 115 := by
  simpa [knB, or_assoc] using h
theorem clsB_no {k : Int} (c : Int) (h : knB k = false) : clsB k c = false := by
  obtain ⟨h1, h2, h3, h4, h5, h6, h7, h8, h9⟩ := knB_no h
  simp only [beq_eq_false_iff_ne, ne_eq] at h1 h2 h3 h4 h5 h6 h7 h8 h9
  simp [clsB, h1, h2, h3, h4, h5, h6, h7, h8, h9]

-- END
-- END
-- END
-- END
-- END
-- END
theorem wrd_other (c : Int) : wrdB c = (smlB c || grtB c || digB c || c == 95) := by
  unfold wrdB hedB letB
  cases smlB c <;> cases grtB c <;> cases digB c <;> cases (c == 95) <;> rfl
-- END
-- END
-- END
-- END

end Go.Proofs.YtmghdogoeehodaaGreatDoor
/- The calls of package kind that ask one byte (Small, Great, Same, Known, Is) return just what plain functions of the bytes say, and write nothing that was there. -/
namespace Go.Proofs.YtmghdogoeehodaaGreatDoor
open Go.ChangeShapes Go.WideShapes Go.ChangeAt Go.RowKit

theorem bw_alloc {a b : World} (h : Below a.heap.size a b) (o : Obj) : Below a.heap.size a (b.alloc o) := h.alloc h.size o
theorem bw_trans {a b c : World} (h : Below a.heap.size a b) (k : Below b.heap.size b c) : Below a.heap.size a c := h.trans (k.mono h.size)

theorem kSmall_any (c : Int) (w : World) :
    Calls Tryz.prog 102 #[.int .u8 c] w fun e w' => e = .returned (.int .u8 (smI c)) ∧ w' = w := by
  unfold smI
  cases h : grtB c
  · go_enter Tryz.func102, Tryz.ntmps102
    go_wp2_with (go_at_call 110; refine (isGreat_any _ _).mono ?_; rintro e w' ⟨rfl, rfl⟩)
    go_ret
    exact ⟨rfl, rfl⟩
  · obtain ⟨h1, h2⟩ := grtB_iff.1 h
    go_enter Tryz.func102, Tryz.ntmps102
    go_wp2_with (go_at_call 110; refine (isGreat_any _ _).mono ?_; rintro e w' ⟨rfl, rfl⟩)
    go_ret
    exact ⟨ret_u8 (by omega), rfl⟩
-- END
/-- the test of a class, by its small letter -/
def fnum (k : Int) : Option Nat :=
  if k = 100 then some 111 else if k = 120 then some 112 else if k = 111 then some 113 else if k = 119 then some 114 else if k = 104 then some 115
  else if k = 97 then some 116 else if k = 108 then some 117 else if k = 117 then some 110 else if k = 115 then some 118 else none
theorem fnum_some {k : Int} {n : Nat} (h : fnum k = some n) : (k = 100 ∧ n = 111) ∨ (k = 120 ∧ n = 112) ∨ (k = 111 ∧ n = 113) ∨ (k = 119 ∧ n = 114) ∨ (k = 104 ∧ n = 115) ∨ (k = 97 ∧ n = 116) ∨ (k = 108 ∧ n = 117) ∨ (k = 117 ∧ n = 110) ∨ (k = 115 ∧ n = 118) := by
  unfold fnum at h
  repeat' split at h
  all_goals simp at h
  all_goals omega
theorem fnum_none {k : Int} (h : fnum k = none) : knB k = false := by
  cases hk : knB k
  · rfl
  · rcases knB_yes hk with rfl | rfl | rfl | rfl | rfl | rfl | rfl | rfl | rfl <;> simp [fnum] at h
theorem fnum_is {k : Int} {n : Nat} (h : fnum k = some n) : knB k = true := by
  rcases fnum_some h with ⟨rfl, _⟩ | ⟨rfl, _⟩ | ⟨rfl, _⟩ | ⟨rfl, _⟩ | ⟨rfl, _⟩ | ⟨rfl, _⟩ | ⟨rfl, _⟩ | ⟨rfl, _⟩ | ⟨rfl, _⟩ <;> rfl

theorem test_yes {k : Int} {n : Nat} (h : fnum k = some n) (c : Int) (w : World) :
    Calls Tryz.prog n #[.int .u8 c] w fun e w' => e = .returned (.bool (clsB k c)) ∧ w' = w := by
  rcases fnum_some h with ⟨rfl, rfl⟩ | ⟨rfl, rfl⟩ | ⟨rfl, rfl⟩ | ⟨rfl, rfl⟩ | ⟨rfl, rfl⟩ | ⟨rfl, rfl⟩ | ⟨rfl, rfl⟩ | ⟨rfl, rfl⟩ | ⟨rfl, rfl⟩
  · exact isDigit_any c w
  · exact isHex_any c w
  · exact isOctal_any c w
  · exact isWord_any c w
  · exact isHead_any c w
  · exact isLetter_any c w
  · exact isSmall_any c w
  · exact isGreat_any c w
  · exact isBlank_any c w

theorem classTest_no {k : Int} (h : fnum k = none) (w : World) :
    Calls Tryz.prog 103 #[.int .u8 k] w fun e w' => e = .returned .nilFunc ∧ w' = w := by
  obtain ⟨h1, h2, h3, h4, h5, h6, h7, h8, h9⟩ := knB_no (fnum_none h)
  clear h
  go_enter Tryz.func103, Tryz.ntmps103
  go_wp2
  go_ret
  exact ⟨rfl, rfl⟩
theorem classTest_yes {k : Int} {n : Nat} (h : fnum k = some n) (w : World) :
    Calls Tryz.prog 103 #[.int .u8 k] w fun e w' => e = .returned (.func (Fn.func n) #[] #[]) ∧ w' = w := by
  rcases fnum_some h with ⟨rfl, rfl⟩ | ⟨rfl, rfl⟩ | ⟨rfl, rfl⟩ | ⟨rfl, rfl⟩ | ⟨rfl, rfl⟩ | ⟨rfl, rfl⟩ | ⟨rfl, rfl⟩ | ⟨rfl, rfl⟩ | ⟨rfl, rfl⟩
  all_goals
    clear h
    go_enter Tryz.func103, Tryz.ntmps103
    go_wp2
    go_ret
    exact ⟨rfl, rfl⟩

theorem eql_nil (w : World) : Sem.run Tryz.prog (binOp BinOp.eql 142 Value.nilFunc Value.nilFunc) w = .ok (.bool true) w := by kernel_rfl
theorem eql_fn (n : Nat) (w : World) : Sem.run Tryz.prog (binOp BinOp.eql 142 (Value.func (Fn.func n) #[] #[]) Value.nilFunc) w = .ok (.bool false) w := by kernel_rfl

theorem classOf_no {k : Int} (h : fnum (smI k) = none) (w : World) :
    Calls Tryz.prog 96 #[.int .u8 k] w fun e w' => e = .returned (.tuple #[.agg #[.nilFunc, .bool false], .bool false]) ∧ Below w.heap.size w w' := by
  have hq := eql_nil
  go_enter Tryz.func96, Tryz.ntmps96
  go_wp2_with (first | (go_at_call 102; refine (kSmall_any _ _).mono ?_; rintro e w' ⟨rfl, rfl⟩) | (go_at_call 103; refine (classTest_no h _).mono ?_; rintro e w' ⟨rfl, rfl⟩))
  exact bodyPost_ret (v := .tuple #[.agg #[.nilFunc, .bool false], .bool false]) (by simp [results, Tryz.results96, go_sem]) rfl ⟨rfl, bw_alloc (Below.refl _ _) _⟩
theorem classOf_yes {k : Int} {n : Nat} (h : fnum (smI k) = some n) (w : World) :
    Calls Tryz.prog 96 #[.int .u8 k] w fun e w' => e = .returned (.tuple #[.agg #[.func (Fn.func n) #[] #[], .bool (smI k != k)], .bool true]) ∧ Below w.heap.size w w' := by
  have hq := eql_fn n
  go_enter Tryz.func96, Tryz.ntmps96
  go_wp2_with (first | (go_at_call 102; refine (kSmall_any _ _).mono ?_; rintro e w' ⟨rfl, rfl⟩) | (go_at_call 103; refine (classTest_yes h _).mono ?_; rintro e w' ⟨rfl, rfl⟩))
  exact bodyPost_ret (v := .tuple #[.agg #[.func (Fn.func n) #[] #[], .bool (smI k != k)], .bool true]) (by simp [results, Tryz.results96, go_sem]) rfl ⟨rfl, bw_alloc (Below.refl _ _) _⟩

theorem ghas_isDigit (o : Bool) (c : Int) (w : World) :
    Calls Tryz.prog 98 #[.agg #[.func (Fn.func 111) #[] #[], .bool o], .int .u8 c] w fun e w' => e = .returned (.bool (digB c != o)) ∧ Below w.heap.size w w' := by
  go_enter Tryz.func98, Tryz.ntmps98
  go_wp2
  go_quiet ((go_at_call 111; exact Calls.quiet_of_same (isDigit_any _ _)))
  go_wp2
  go_ret
  exact ⟨rfl, below_drewN (bw_alloc (Below.refl _ _) _) _⟩
theorem ghas_isHex (o : Bool) (c : Int) (w : World) :
    Calls Tryz.prog 98 #[.agg #[.func (Fn.func 112) #[] #[], .bool o], .int .u8 c] w fun e w' => e = .returned (.bool (hexB c != o)) ∧ Below w.heap.size w w' := by
  go_enter Tryz.func98, Tryz.ntmps98
  go_wp2
  go_quiet ((go_at_call 112; exact Calls.quiet_of_same (isHex_any _ _)))
  go_wp2
  go_ret
  exact ⟨rfl, below_drewN (bw_alloc (Below.refl _ _) _) _⟩
theorem ghas_isOctal (o : Bool) (c : Int) (w : World) :
    Calls Tryz.prog 98 #[.agg #[.func (Fn.func 113) #[] #[], .bool o], .int .u8 c] w fun e w' => e = .returned (.bool (octB c != o)) ∧ Below w.heap.size w w' := by
  go_enter Tryz.func98, Tryz.ntmps98
  go_wp2
  go_quiet ((go_at_call 113; exact Calls.quiet_of_same (isOctal_any _ _)))
  go_wp2
  go_ret
  exact ⟨rfl, below_drewN (bw_alloc (Below.refl _ _) _) _⟩
theorem ghas_isWord (o : Bool) (c : Int) (w : World) :
    Calls Tryz.prog 98 #[.agg #[.func (Fn.func 114) #[] #[], .bool o], .int .u8 c] w fun e w' => e = .returned (.bool (wrdB c != o)) ∧ Below w.heap.size w w' := by
  go_enter Tryz.func98, Tryz.ntmps98
  go_wp2
  go_quiet ((go_at_call 114; exact Calls.quiet_of_same (isWord_any _ _)))
  go_wp2
  go_ret
  exact ⟨rfl, below_drewN (bw_alloc (Below.refl _ _) _) _⟩
theorem ghas_isHead (o : Bool) (c : Int) (w : World) :
    Calls Tryz.prog 98 #[.agg #[.func (Fn.func 115) #[] #[], .bool o], .int .u8 c] w fun e w' => e = .returned (.bool (hedB c != o)) ∧ Below w.heap.size w w' := by
  go_enter Tryz.func98, Tryz.ntmps98
  go_wp2
  go_quiet ((go_at_call 115; exact Calls.quiet_of_same (isHead_any _ _)))
  go_wp2
  go_ret
  exact ⟨rfl, below_drewN (bw_alloc (Below.refl _ _) _) _⟩
theorem ghas_isLetter (o : Bool) (c : Int) (w : World) :
    Calls Tryz.prog 98 #[.agg #[.func (Fn.func 116) #[] #[], .bool o], .int .u8 c] w fun e w' => e = .returned (.bool (letB c != o)) ∧ Below w.heap.size w w' := by
  go_enter Tryz.func98, Tryz.ntmps98
  go_wp2
  go_quiet ((go_at_call 116; exact Calls.quiet_of_same (isLetter_any _ _)))
  go_wp2
  go_ret
  exact ⟨rfl, below_drewN (bw_alloc (Below.refl _ _) _) _⟩
theorem ghas_isSmall (o : Bool) (c : Int) (w : World) :
    Calls Tryz.prog 98 #[.agg #[.func (Fn.func 117) #[] #[], .bool o], .int .u8 c] w fun e w' => e = .returned (.bool (smlB c != o)) ∧ Below w.heap.size w w' := by
  go_enter Tryz.func98, Tryz.ntmps98
  go_wp2
  go_quiet ((go_at_call 117; exact Calls.quiet_of_same (isSmall_any _ _)))
  go_wp2
  go_ret
  exact ⟨rfl, below_drewN (bw_alloc (Below.refl _ _) _) _⟩
theorem ghas_isGreat (o : Bool) (c : Int) (w : World) :
    Calls Tryz.prog 98 #[.agg #[.func (Fn.func 110) #[] #[], .bool o], .int .u8 c] w fun e w' => e = .returned (.bool (grtB c != o)) ∧ Below w.heap.size w w' := by
  go_enter Tryz.func98, Tryz.ntmps98
  go_wp2
  go_quiet ((go_at_call 110; exact Calls.quiet_of_same (isGreat_any _ _)))
  go_wp2
  go_ret
  exact ⟨rfl, below_drewN (bw_alloc (Below.refl _ _) _) _⟩
theorem ghas_isBlank (o : Bool) (c : Int) (w : World) :
    Calls Tryz.prog 98 #[.agg #[.func (Fn.func 118) #[] #[], .bool o], .int .u8 c] w fun e w' => e = .returned (.bool (blkB c != o)) ∧ Below w.heap.size w w' := by
  go_enter Tryz.func98, Tryz.ntmps98
  go_wp2
  go_quiet ((go_at_call 118; exact Calls.quiet_of_same (isBlank_any _ _)))
  go_wp2
  go_ret
  exact ⟨rfl, below_drewN (bw_alloc (Below.refl _ _) _) _⟩
theorem ghas_isLetterOrDigit (o : Bool) (c : Int) (w : World) :
    Calls Tryz.prog 98 #[.agg #[.func (Fn.func 128) #[] #[], .bool o], .int .u8 c] w fun e w' => e = .returned (.bool (ladB c != o)) ∧ Below w.heap.size w w' := by
  go_enter Tryz.func98, Tryz.ntmps98
  go_wp2
  go_quiet ((go_at_call 128; exact Calls.quiet_of_same (isLetterOrDigit_any _ _)))
  go_wp2
  go_ret
  exact ⟨rfl, below_drewN (bw_alloc (Below.refl _ _) _) _⟩
theorem ghas_isSpace (o : Bool) (c : Int) (w : World) :
    Calls Tryz.prog 98 #[.agg #[.func (Fn.func 129) #[] #[], .bool o], .int .u8 c] w fun e w' => e = .returned (.bool (spcB c != o)) ∧ Below w.heap.size w w' := by
  go_enter Tryz.func98, Tryz.ntmps98
  go_wp2
  go_quiet ((go_at_call 129; exact Calls.quiet_of_same (isSpace_any _ _)))
  go_wp2
  go_ret
  exact ⟨rfl, below_drewN (bw_alloc (Below.refl _ _) _) _⟩
theorem ghas_isControl (o : Bool) (c : Int) (w : World) :
    Calls Tryz.prog 98 #[.agg #[.func (Fn.func 130) #[] #[], .bool o], .int .u8 c] w fun e w' => e = .returned (.bool (ctlB c != o)) ∧ Below w.heap.size w w' := by
  go_enter Tryz.func98, Tryz.ntmps98
  go_wp2
  go_quiet ((go_at_call 130; exact Calls.quiet_of_same (isControl_any _ _)))
  go_wp2
  go_ret
  exact ⟨rfl, below_drewN (bw_alloc (Below.refl _ _) _) _⟩
theorem ghas_isPunct (o : Bool) (c : Int) (w : World) :
    Calls Tryz.prog 98 #[.agg #[.func (Fn.func 131) #[] #[], .bool o], .int .u8 c] w fun e w' => e = .returned (.bool (pctB c != o)) ∧ Below w.heap.size w w' := by
  go_enter Tryz.func98, Tryz.ntmps98
  go_wp2
  go_quiet ((go_at_call 131; exact Calls.quiet_of_same (isPunct_any _ _)))
  go_wp2
  go_ret
  exact ⟨rfl, below_drewN (bw_alloc (Below.refl _ _) _) _⟩
theorem ghas_any {k : Int} {n : Nat} (h : fnum k = some n) (o : Bool) (c : Int) (w : World) :
    Calls Tryz.prog 98 #[.agg #[.func (Fn.func n) #[] #[], .bool o], .int .u8 c] w fun e w' => e = .returned (.bool (clsB k c != o)) ∧ Below w.heap.size w w' := by
  rcases fnum_some h with ⟨rfl, rfl⟩ | ⟨rfl, rfl⟩ | ⟨rfl, rfl⟩ | ⟨rfl, rfl⟩ | ⟨rfl, rfl⟩ | ⟨rfl, rfl⟩ | ⟨rfl, rfl⟩ | ⟨rfl, rfl⟩ | ⟨rfl, rfl⟩
  · exact ghas_isDigit o c w
  · exact ghas_isHex o c w
  · exact ghas_isOctal o c w
  · exact ghas_isWord o c w
  · exact ghas_isHead o c w
  · exact ghas_isLetter o c w
  · exact ghas_isSmall o c w
  · exact ghas_isGreat o c w
  · exact ghas_isBlank o c w

theorem great_is (k : Int) : (smI k != k) = grtB k := by
  unfold smI
  cases h : grtB k
  · simp
  · simp
    omega

theorem kIs_any (k c : Int) (w : World) :
    Calls Tryz.prog 90 #[.int .u8 k, .int .u8 c] w fun e w' => e = .returned (.bool (isB k c)) ∧ Below w.heap.size w w' := by
  unfold isB
  cases h : fnum (smI k) with
  | none =>
    rw [fnum_none h]
    go_enter Tryz.func90, Tryz.ntmps90
    go_wp2_with (go_at_call 96; refine (classOf_no h _).mono ?_; rintro e w1 ⟨rfl, hb1⟩)
    go_ret
    exact ⟨rfl, bw_alloc hb1 _⟩
  | some n =>
    rw [fnum_is h, ← great_is k, Bool.true_and]
    go_enter Tryz.func90, Tryz.ntmps90
    go_wp2_with (first | (go_at_call 96; refine (classOf_yes h _).mono ?_; rintro e w1 ⟨rfl, hb1⟩) | (go_at_call 98; refine (ghas_any h _ _ _).mono ?_; rintro e w2 ⟨rfl, hb2⟩))
    go_ret
    exact ⟨rfl, bw_trans (bw_alloc hb1 _) hb2⟩

-- END

end Go.Proofs.YtmghdogoeehodaaGreatDoor
/- Sets of bytes as four words of 64 bits, as plain mathematics: what With, Not, Both and gather come to, and that two sets with the same bytes are one. -/
namespace Go.Proofs.YtmghdogoeehodaaGreatDoor

structure S4 where
  a : Nat
  b : Nat
  c : Nat
  d : Nat
def S4.ok (s : S4) : Prop := s.a < 18446744073709551616 ∧ s.b < 18446744073709551616 ∧ s.c < 18446744073709551616 ∧ s.d < 18446744073709551616
def zeroS : S4 := ⟨0, 0, 0, 0⟩
def withS (s : S4) (x : Nat) : S4 :=
  if x < 64 then ⟨s.a ||| 2 ^ x, s.b, s.c, s.d⟩ else if x < 128 then ⟨s.a, s.b ||| 2 ^ (x - 64), s.c, s.d⟩
  else if x < 192 then ⟨s.a, s.b, s.c ||| 2 ^ (x - 128), s.d⟩ else ⟨s.a, s.b, s.c, s.d ||| 2 ^ (x - 192)⟩
def hasS (s : S4) (x : Nat) : Bool :=
  if x < 64 then s.a.testBit x else if x < 128 then s.b.testBit (x - 64) else if x < 192 then s.c.testBit (x - 128) else s.d.testBit (x - 192)
def mask : Nat := 18446744073709551615
def notW (x : Nat) : Nat := mask ^^^ x
def notS (s : S4) : S4 := ⟨notW s.a, notW s.b, notW s.c, notW s.d⟩
def bothS (s t : S4) : S4 := ⟨s.a ||| t.a, s.b ||| t.b, s.c ||| t.c, s.d ||| t.d⟩
def foldS (f : Int → Bool) : Nat → S4
  | 0 => zeroS
  | n + 1 => if f n then withS (foldS f n) n else foldS f n

theorem p64 : (18446744073709551616 : Nat) = 2 ^ 64 := by decide
theorem ok_zero : zeroS.ok := by unfold S4.ok zeroS; decide
theorem or_lt {x j : Nat} (hx : x < 18446744073709551616) (hj : j < 64) : x ||| 2 ^ j < 18446744073709551616 := by
  rw [p64] at *
  exact Nat.or_lt_two_pow hx (Nat.pow_lt_pow_right (by decide) hj)
theorem ok_with {s : S4} (h : s.ok) {x : Nat} (hx : x < 256) : (withS s x).ok := by
  obtain ⟨h1, h2, h3, h4⟩ := h
  unfold withS
  split
  · exact ⟨or_lt h1 (by omega), h2, h3, h4⟩
  · split
    · exact ⟨h1, or_lt h2 (by omega), h3, h4⟩
    · split
      · exact ⟨h1, h2, or_lt h3 (by omega), h4⟩
      · exact ⟨h1, h2, h3, or_lt h4 (by omega)⟩
theorem ok_fold (f : Int → Bool) : ∀ n, n ≤ 256 → (foldS f n).ok
  | 0, _ => ok_zero
  | n + 1, h => by
    unfold foldS
    split
    · exact ok_with (ok_fold f n (by omega)) (by omega)
    · exact ok_fold f n (by omega)
theorem notW_lt {x : Nat} (h : x < 18446744073709551616) : notW x < 18446744073709551616 := by
  unfold notW
  rw [p64] at *
  exact Nat.xor_lt_two_pow (by unfold mask; decide) h
theorem ok_not {s : S4} (h : s.ok) : (notS s).ok := ⟨notW_lt h.1, notW_lt h.2.1, notW_lt h.2.2.1, notW_lt h.2.2.2⟩
theorem or_lt2 {x y : Nat} (hx : x < 18446744073709551616) (hy : y < 18446744073709551616) : x ||| y < 18446744073709551616 := by
  rw [p64] at *
  exact Nat.or_lt_two_pow hx hy
theorem ok_both {s t : S4} (h : s.ok) (k : t.ok) : (bothS s t).ok := by
  obtain ⟨h1, h2, h3, h4⟩ := h
  obtain ⟨k1, k2, k3, k4⟩ := k
  exact ⟨or_lt2 h1 k1, or_lt2 h2 k2, or_lt2 h3 k3, or_lt2 h4 k4⟩

theorem xor_twice (m x : Nat) : m ^^^ (m ^^^ x) = x := by rw [← Nat.xor_assoc, Nat.xor_self, Nat.zero_xor]
theorem notW_eq (x : Nat) : notW x = mask ^^^ x := rfl
theorem notW_notW (x : Nat) : notW (notW x) = x := by rw [notW_eq, notW_eq, xor_twice]
theorem not_not (s : S4) : notS (notS s) = s := by
  unfold notS
  simp only [notW_notW]
theorem m64 : mask = 2 ^ 64 - 1 := by decide
theorem bit_not {x j : Nat} (hj : j < 64) : (notW x).testBit j = !x.testBit j := by
  unfold notW
  rw [Nat.testBit_xor, m64, Nat.testBit_two_pow_sub_one, decide_eq_true hj, Bool.true_xor]
theorem bit_or (x j k : Nat) : (x ||| 2 ^ j).testBit k = (x.testBit k || decide (j = k)) := by
  rw [Nat.testBit_or, Nat.testBit_two_pow]
theorem has_not (s : S4) {x : Nat} (hx : x < 256) : hasS (notS s) x = !hasS s x := by
  unfold hasS notS
  split
  · exact bit_not (by omega)
  · split
    · exact bit_not (by omega)
    · split
      · exact bit_not (by omega)
      · exact bit_not (by omega)
theorem has_both (s t : S4) (x : Nat) : hasS (bothS s t) x = (hasS s x || hasS t x) := by
  unfold hasS bothS
  simp only [Nat.testBit_or]
  repeat' split
  all_goals rfl
theorem has_with (s : S4) {x y : Nat} (hx : x < 256) (hy : y < 256) : hasS (withS s x) y = (hasS s y || decide (x = y)) := by
  by_cases e : x = y
  · subst e
    unfold hasS withS
    by_cases h1 : x < 64
    · simp [h1]
    · by_cases h2 : x < 128
      · simp [h1, h2]
      · by_cases h3 : x < 192
        · simp [h1, h2, h3]
        · simp [h1, h2, h3]
  · rw [decide_eq_false e, Bool.or_false]
    unfold hasS withS
    by_cases h1 : x < 64
    · rw [if_pos h1]
      repeat' split
      · rw [bit_or, decide_eq_false e, Bool.or_false]
      all_goals rfl
    · rw [if_neg h1]
      by_cases h2 : x < 128
      · rw [if_pos h2]
        split
        · rfl
        · split
          · rw [bit_or, decide_eq_false (by omega), Bool.or_false]
          · rfl
      · rw [if_neg h2]
        by_cases h3 : x < 192
        · rw [if_pos h3]
          split
          · rfl
          · split
            · rfl
            · split
              · rw [bit_or, decide_eq_false (by omega), Bool.or_false]
              · rfl
        · rw [if_neg h3]
          split
          · rfl
          · split
            · rfl
            · split
              · rfl
              · rw [bit_or, decide_eq_false (by omega), Bool.or_false]
theorem has_zero (x : Nat) : hasS zeroS x = false := by
  unfold hasS zeroS
  repeat' split
  all_goals exact Nat.zero_testBit _
theorem has_fold (f : Int → Bool) (x : Nat) : ∀ n, n ≤ 256 → x < 256 → hasS (foldS f n) x = (decide (x < n) && f x)
  | 0, _, _ => by rw [show foldS f 0 = zeroS from rfl, has_zero]; simp
  | n + 1, h, hx => by
    have ih := has_fold f x n (by omega) hx
    unfold foldS
    by_cases e : n = x
    · subst e
      cases hf : f n
      · simp only [Bool.false_eq_true, if_false]
        rw [ih, hf, Bool.and_false, Bool.and_false]
      · simp only [if_true]
        rw [has_with _ (by omega) hx]
        simp
    · have e2 : decide (x < n + 1) = decide (x < n) := by by_cases q : x < n <;> simp [q] <;> omega
      split
      · rw [has_with _ (by omega) hx, decide_eq_false e, Bool.or_false, ih, e2]
      · rw [ih, e2]
theorem has_all (f : Int → Bool) {x : Nat} (hx : x < 256) : hasS (foldS f 256) x = f x := by
  rw [has_fold f x 256 (by omega) hx, decide_eq_true hx, Bool.true_and]
theorem word_ext {x y : Nat} (hx : x < 18446744073709551616) (hy : y < 18446744073709551616) (h : ∀ j, j < 64 → x.testBit j = y.testBit j) : x = y := by
  refine Nat.eq_of_testBit_eq fun j => ?_
  by_cases hj : j < 64
  · exact h j hj
  · rw [p64] at hx hy
    have hp : 2 ^ 64 ≤ 2 ^ j := Nat.pow_le_pow_right (by decide) (by omega)
    rw [Nat.testBit_lt_two_pow (Nat.lt_of_lt_of_le hx hp), Nat.testBit_lt_two_pow (Nat.lt_of_lt_of_le hy hp)]
theorem set_ext {s t : S4} (hs : s.ok) (ht : t.ok) (h : ∀ x, x < 256 → hasS s x = hasS t x) : s = t := by
  obtain ⟨s1, s2, s3, s4⟩ := hs
  obtain ⟨t1, t2, t3, t4⟩ := ht
  have a := word_ext s1 t1 fun j hj => by have := h j (by omega); simpa [hasS, hj] using this
  have b := word_ext s2 t2 fun j hj => by
    have := h (64 + j) (by omega)
    simpa [hasS, show ¬ 64 + j < 64 from by omega, show 64 + j < 128 from by omega] using this
  have c := word_ext s3 t3 fun j hj => by
    have := h (128 + j) (by omega)
    simpa [hasS, show ¬ 128 + j < 64 from by omega, show ¬ 128 + j < 128 from by omega, show 128 + j < 192 from by omega] using this
  have d := word_ext s4 t4 fun j hj => by
    have := h (192 + j) (by omega)
    simpa [hasS, show ¬ 192 + j < 64 from by omega, show ¬ 192 + j < 128 from by omega, show ¬ 192 + j < 192 from by omega] using this
  cases s
  cases t
  simp only at a b c d
  rw [a, b, c, d]
theorem fold_congr {f g : Int → Bool} (h : ∀ x : Nat, x < 256 → f x = g x) : foldS f 256 = foldS g 256 :=
  set_ext (ok_fold f 256 (by omega)) (ok_fold g 256 (by omega)) fun x hx => by rw [has_all f hx, has_all g hx, h x hx]
/- a set has a byte just if the set with it is the set -/
theorem with_same {s : S4} (hs : s.ok) {x : Nat} (hx : x < 256) : withS s x = s ↔ hasS s x = true := by
  constructor
  · intro h
    have := has_with s hx hx
    rw [h] at this
    simpa using this
  · intro h
    refine set_ext (ok_with hs hx) hs fun y hy => ?_
    rw [has_with s hx hy]
    by_cases e : x = y
    · subst e
      simp [h]
    · simp [e]
end Go.Proofs.YtmghdogoeehodaaGreatDoor
/- The calls of package kind on sets (Has, With, Not, Both), and the document's, return just what plain functions of the four words say, and write nothing that was there. -/
namespace Go.Proofs.YtmghdogoeehodaaGreatDoor
open Go.ChangeShapes Go.WideShapes Go.ChangeAt Go.RowKit

theorem ret_set {a b c d a' b' c' d' : Int} (h1 : a = a') (h2 : b = b') (h3 : c = c') (h4 : d = d') :
    Ending.returned (.agg #[.int .u64 a, .int .u64 b, .int .u64 c, .int .u64 d]) = .returned (.agg #[.int .u64 a', .int .u64 b', .int .u64 c', .int .u64 d']) := by
  rw [h1, h2, h3, h4]
theorem bit_lt {j : Nat} (hj : j < 64) : 2 ^ j < 18446744073709551616 := by
  rw [p64]
  exact Nat.pow_lt_pow_right (by decide) hj
theorem wrap_bit {j : Nat} (hj : j < 64) : IntKind.u64.wrap (2 ^ j) = ((2 ^ j : Nat) : Int) := by
  have h := bit_lt hj
  rw [IntKind.wrap_u64, show ((2 : Int) ^ j) = ((2 ^ j : Nat) : Int) from by simp]
  generalize 2 ^ j = n at h
  exact Int.emod_eq_of_lt (by omega) (by omega)
theorem or_bit0 {x j : Nat} (hx : x < 18446744073709551616) (hj : j < 64) : bits BinOp.or IntKind.u64 (x : Int) (IntKind.u64.wrap (2 ^ j)) = ((x ||| 2 ^ j : Nat) : Int) := by
  rw [wrap_bit hj]
  exact u64_or_nat x (2 ^ j) hx (bit_lt hj)

theorem kWith_any (s : S4) (hs : s.ok) (x : Nat) (hx : x < 256) (w : World) :
    Calls Tryz.prog 104 #[.agg #[.int .u64 s.a, .int .u64 s.b, .int .u64 s.c, .int .u64 s.d], .int .u8 x] w fun e w' =>
      e = .returned (.agg #[.int .u64 (withS s x).a, .int .u64 (withS s x).b, .int .u64 (withS s x).c, .int .u64 (withS s x).d]) ∧ Below w.heap.size w w' := by
  obtain ⟨h1, h2, h3, h4⟩ := hs
  by_cases c1 : x < 64
  · have e : withS s x = ⟨s.a ||| 2 ^ x, s.b, s.c, s.d⟩ := by simp [withS, c1]
    rw [e]
    have q1 : (x : Int) / 64 = 0 := by omega
    have q2 : (x : Int) % 64 = x := by omega
    clear e
    go_enter Tryz.func104, Tryz.ntmps104
    go_wp2
    exact bodyPost_ret (v := .agg #[.int .u64 (bits BinOp.or IntKind.u64 (s.a : Int) (IntKind.u64.wrap (2 ^ x))), .int .u64 s.b, .int .u64 s.c, .int .u64 s.d]) (by simp [results, Tryz.results104, go_sem]) rfl ⟨ret_set (or_bit0 h1 (by omega)) rfl rfl rfl, bw_alloc (bw_alloc (Below.refl _ _) _) _⟩
  · skip
    by_cases c2 : x < 128
    · have e : withS s x = ⟨s.a, s.b ||| 2 ^ (x - 64), s.c, s.d⟩ := by simp [withS, c1, c2]
      rw [e]
      have q1 : (x : Int) / 64 = 1 := by omega
      have q2 : (x : Int) % 64 = x - 64 := by omega
      clear e
      go_enter Tryz.func104, Tryz.ntmps104
      go_wp2
      exact bodyPost_ret (v := .agg #[.int .u64 s.a, .int .u64 (bits BinOp.or IntKind.u64 (s.b : Int) (IntKind.u64.wrap (2 ^ (x - 64)))), .int .u64 s.c, .int .u64 s.d]) (by simp [results, Tryz.results104, go_sem]) rfl ⟨ret_set rfl (or_bit0 h2 (by omega)) rfl rfl, bw_alloc (bw_alloc (Below.refl _ _) _) _⟩
    · skip
      by_cases c3 : x < 192
      · have e : withS s x = ⟨s.a, s.b, s.c ||| 2 ^ (x - 128), s.d⟩ := by simp [withS, c1, c2, c3]
        rw [e]
        have q1 : (x : Int) / 64 = 2 := by omega
        have q2 : (x : Int) % 64 = x - 128 := by omega
        clear e
        go_enter Tryz.func104, Tryz.ntmps104
        go_wp2
        exact bodyPost_ret (v := .agg #[.int .u64 s.a, .int .u64 s.b, .int .u64 (bits BinOp.or IntKind.u64 (s.c : Int) (IntKind.u64.wrap (2 ^ (x - 128)))), .int .u64 s.d]) (by simp [results, Tryz.results104, go_sem]) rfl ⟨ret_set rfl rfl (or_bit0 h3 (by omega)) rfl, bw_alloc (bw_alloc (Below.refl _ _) _) _⟩
      · skip
        have e : withS s x = ⟨s.a, s.b, s.c, s.d ||| 2 ^ (x - 192)⟩ := by simp [withS, c1, c2, c3]
        rw [e]
        have q1 : (x : Int) / 64 = 3 := by omega
        have q2 : (x : Int) % 64 = x - 192 := by omega
        clear e
        go_enter Tryz.func104, Tryz.ntmps104
        go_wp2
        exact bodyPost_ret (v := .agg #[.int .u64 s.a, .int .u64 s.b, .int .u64 s.c, .int .u64 (bits BinOp.or IntKind.u64 (s.d : Int) (IntKind.u64.wrap (2 ^ (x - 192))))]) (by simp [results, Tryz.results104, go_sem]) rfl ⟨ret_set rfl rfl rfl (or_bit0 h4 (by omega)), bw_alloc (bw_alloc (Below.refl _ _) _) _⟩
-- END

theorem sgn : IntKind.u64.signed = false := rfl
theorem not_word {x : Nat} (hx : x < 18446744073709551616) : bits BinOp.xor IntKind.u64 IntKind.u64.max (x : Int) = ((notW x : Nat) : Int) := by
  rw [show IntKind.u64.max = ((mask : Nat) : Int) from by decide, u64_xor_nat mask x (by unfold mask; decide) hx, notW_eq]
theorem kNot_any (s : S4) (hs : s.ok) (w : World) :
    Calls Tryz.prog 95 #[.agg #[.int .u64 s.a, .int .u64 s.b, .int .u64 s.c, .int .u64 s.d]] w fun e w' =>
      e = .returned (.agg #[.int .u64 (notS s).a, .int .u64 (notS s).b, .int .u64 (notS s).c, .int .u64 (notS s).d]) ∧ Below w.heap.size w w' := by
  have hsg := sgn
  go_enter Tryz.func95, Tryz.ntmps95
  go_wp2
  refine wp_loop_rounds 5 ?_
  rw [rounds_succ]
  go_wp2
  rw [rounds_succ]
  go_wp2
  rw [rounds_succ]
  go_wp2
  rw [rounds_succ]
  go_wp2
  rw [rounds_succ]
  go_wp2
  exact bodyPost_ret (v := .agg #[.int .u64 (bits BinOp.xor IntKind.u64 IntKind.u64.max s.a), .int .u64 (bits BinOp.xor IntKind.u64 IntKind.u64.max s.b), .int .u64 (bits BinOp.xor IntKind.u64 IntKind.u64.max s.c), .int .u64 (bits BinOp.xor IntKind.u64 IntKind.u64.max s.d)]) (by simp [results, Tryz.results95, go_sem]) rfl
    ⟨ret_set (not_word hs.1) (not_word hs.2.1) (not_word hs.2.2.1) (not_word hs.2.2.2), bw_alloc (bw_alloc (Below.refl _ _) _) _⟩
-- END
theorem kBoth_any (s t : S4) (hs : s.ok) (ht : t.ok) (w : World) :
    Calls Tryz.prog 108 #[.agg #[.int .u64 s.a, .int .u64 s.b, .int .u64 s.c, .int .u64 s.d], .agg #[.int .u64 t.a, .int .u64 t.b, .int .u64 t.c, .int .u64 t.d]] w fun e w' =>
      e = .returned (.agg #[.int .u64 (bothS s t).a, .int .u64 (bothS s t).b, .int .u64 (bothS s t).c, .int .u64 (bothS s t).d]) ∧ Below w.heap.size w w' := by
  have hsg := sgn
  go_enter Tryz.func108, Tryz.ntmps108
  go_wp2
  refine wp_loop_rounds 5 ?_
  rw [rounds_succ]
  go_wp2
  go_region
  go_wp2
  rw [rounds_succ]
  go_wp2
  go_region
  go_wp2
  rw [rounds_succ]
  go_wp2
  go_region
  go_wp2
  rw [rounds_succ]
  go_wp2
  go_region
  go_wp2
  rw [rounds_succ]
  go_wp2
  exact bodyPost_ret (v := .agg #[.int .u64 (bits BinOp.or IntKind.u64 s.a t.a), .int .u64 (bits BinOp.or IntKind.u64 s.b t.b), .int .u64 (bits BinOp.or IntKind.u64 s.c t.c), .int .u64 (bits BinOp.or IntKind.u64 s.d t.d)]) (by simp [results, Tryz.results108, go_sem]) rfl
    ⟨ret_set (u64_or_nat _ _ hs.1 ht.1) (u64_or_nat _ _ hs.2.1 ht.2.1) (u64_or_nat _ _ hs.2.2.1 ht.2.2.1) (u64_or_nat _ _ hs.2.2.2 ht.2.2.2), by repeat (first | exact Below.refl _ _ | refine Below.drew ?_ | refine bw_alloc ?_ _)⟩
-- END
theorem bit_shown {n j : Nat} (hn : n < 18446744073709551616) : (bits BinOp.and IntKind.u64 ((n : Int) / 2 ^ j) 1 == 1) = n.testBit j := by
  have h : n / 2 ^ j < 18446744073709551616 := Nat.lt_of_le_of_lt (Nat.div_le_self _ _) hn
  rw [show ((n : Int) / 2 ^ j) = ((n / 2 ^ j : Nat) : Int) from by simp, show (1 : Int) = ((1 : Nat) : Int) from rfl, u64_and_nat (n / 2 ^ j) 1 h (by decide), nat_mask1, Nat.testBit_eq_decide_div_mod_eq, Bool.eq_iff_iff]
  simp only [beq_iff_eq, decide_eq_true_eq]
  omega
theorem bcell {W w1 : World} (hb : Below W.heap.size W w1) : (∀ b o, b < W.heap.size → w1.cell? ⟨b, o, none⟩ = W.cell? ⟨b, o, none⟩) ∧ (∀ b o, b < W.heap.size → w1.frozen? ⟨b, o, none⟩ = W.frozen? ⟨b, o, none⟩) :=
  ⟨fun b o h => hb.cell (p := ⟨b, o, none⟩) h, fun b o h => hb.frozen (p := ⟨b, o, none⟩) h⟩
theorem eq_set (a b c d a' b' c' d' : Int) (w : World) : (Op.equalIn 10000 32 (.agg #[.int .u64 a, .int .u64 b, .int .u64 c, .int .u64 d]) (.agg #[.int .u64 a', .int .u64 b', .int .u64 c', .int .u64 d'])).run Tryz.prog w = .ok (a == a' && b == b' && c == c' && d == d') w := by
  have u3 := Tryz.underlying30
  have a3 := Tryz.isAgg30
  have z3 := Tryz.sizeOf30
  rw [show (10000 : Nat) = 9999 + 1 from rfl, Op.equalIn]
  simp only [Sem.run_bind, run_underlying Tryz.underlying32, Result.andThen_ok]
  simp only [Std.Legacy.Range.forIn_eq_forIn_range', Std.Legacy.Range.size, Nat.sub_zero, Nat.add_sub_cancel, Nat.div_one, List.range'_succ, List.range'_zero, List.forIn_cons, List.forIn_nil]
  go_simp
  by_cases h1 : a = a' <;> by_cases h2 : b = b' <;> by_cases h3 : c = c' <;> by_cases h4 : d = d' <;> simp [h1, h2, h3, h4]
theorem eq_has (s : S4) (hs : s.ok) (x : Nat) (hx : x < 256) : (((withS s x).a : Int) == s.a && ((withS s x).b : Int) == s.b && ((withS s x).c : Int) == s.c && ((withS s x).d : Int) == s.d) = hasS s x := by
  rw [Bool.eq_iff_iff, ← with_same hs hx]
  simp only [Bool.and_eq_true, beq_iff_eq, Int.natCast_inj]
  constructor
  · rintro ⟨⟨⟨h1, h2⟩, h3⟩, h4⟩
    generalize withS s x = t at *
    cases s
    cases t
    simp_all
  · intro h
    rw [h]
    exact ⟨⟨⟨rfl, rfl⟩, rfl⟩, rfl⟩
-- END

theorem u64_range {n : Int} (h : (Lit.int .u64 n).wf = true) : ∃ k : Nat, n = k ∧ k < 18446744073709551616 := by
  have := bounds_u64 h
  exact ⟨n.toNat, by omega, by omega⟩
theorem u8_range {n : Int} (h : (Lit.int .u8 n).wf = true) : ∃ k : Nat, n = k ∧ k < 256 := by
  have := bounds_u8 h
  exact ⟨n.toNat, by omega, by omega⟩
theorem Tryz.cellsWord : Tryz.prog.cellsOf 30 = 1 := by kernel_rfl
theorem Tryz.cellsSet : Tryz.prog.cellsOf 32 = 4 := by kernel_rfl
theorem arr4 {cs : Array Value} (h : cs.size = 4) : ∃ a b c d, cs = #[a, b, c, d] := by
  obtain ⟨l⟩ := cs
  match l, h with
  | [a, b, c, d], _ => exact ⟨a, b, c, d, rfl⟩
/- a set that is handed in is four words -/
set_option maxRecDepth 100000 in
theorem set_form {H : Type} {enc : TypeId × Value → H} {W : World} {r : Reach} {b0 base : Nat} {spare : Nat → Bool} {held : Bool} {v : Value} {d : DataW H} {p : List MemPlace}
    (hv : Value.okWide Tryz.prog W r b0 32 v) (h : DataW.Trod enc Tryz.prog W base spare held 32 v d p) :
    ∃ s : S4, s.ok ∧ v = .agg #[.int .u64 s.a, .int .u64 s.b, .int .u64 s.c, .int .u64 s.d] := by
  simp only [Value.okWide, Tryz.underlying32] at hv
  obtain ⟨cs, rfl, hsz, _⟩ := hv
  obtain ⟨c0, c1, c2, c3, rfl⟩ := arr4 (hsz.trans Tryz.cellsSet)
  obtain ⟨fuel, hf⟩ := h
  obtain ⟨xs, m, rfl, _, _, hl, hi⟩ := DataW.trod_array Tryz.underlying32 hf
  match xs, hl with
  | [x0, x1, x2, x3], _ =>
    have y0 := hi 0 (by omega)
    have y1 := hi 1 (by omega)
    have y2 := hi 2 (by omega)
    have y3 := hi 3 (by omega)
    simp [Value.cells, Tryz.cellsWord] at y0 y1 y2 y3
    obtain ⟨n0, e0, _, w0⟩ := DataW.trod_int Tryz.underlying30 y0
    obtain ⟨n1, e1, _, w1⟩ := DataW.trod_int Tryz.underlying30 y1
    obtain ⟨n2, e2, _, w2⟩ := DataW.trod_int Tryz.underlying30 y2
    obtain ⟨n3, e3, _, w3⟩ := DataW.trod_int Tryz.underlying30 y3
    obtain ⟨k0, rfl, l0⟩ := u64_range w0
    obtain ⟨k1, rfl, l1⟩ := u64_range w1
    obtain ⟨k2, rfl, l2⟩ := u64_range w2
    obtain ⟨k3, rfl, l3⟩ := u64_range w3
    simp only [List.cons.injEq, and_true] at e0 e1 e2 e3
    subst e0 e1 e2 e3
    exact ⟨⟨k0, k1, k2, k3⟩, ⟨l0, l1, l2, l3⟩, rfl⟩
theorem keepB {B : Nat} {W0 W w2 : World} (hB : B ≤ W0.heap.size) (h : Below B W0 W) (hb : Below W.heap.size W w2) : Below B W0 w2 := h.trans (hb.mono (Nat.le_trans hB h.size))
theorem set_refl (s : S4) : ((s.a : Int) == s.a && (s.b : Int) == s.b && (s.c : Int) == s.c && (s.d : Int) == s.d) = true := by simp
def Box (w : World) (b : Nat) (s : S4) : Prop :=
  w.cell? ⟨b, 0, none⟩ = some (.int .u64 s.a) ∧ w.cell? ⟨b, 1, none⟩ = some (.int .u64 s.b) ∧ w.cell? ⟨b, 2, none⟩ = some (.int .u64 s.c) ∧ w.cell? ⟨b, 3, none⟩ = some (.int .u64 s.d)
theorem box_new (w : World) (s : S4) (t : TypeId) : Box (w.alloc (.cells #[.int .u64 s.a, .int .u64 s.b, .int .u64 s.c, .int .u64 s.d] t)) w.heap.size s := by
  unfold Box
  refine ⟨?_, ?_, ?_, ?_⟩ <;> go_simp
theorem Box.below {B : Nat} {W W' : World} {b : Nat} {s : S4} (h : Box W b s) (hb : Below B W W') (hB : b < B) : Box W' b s :=
  ⟨(hb.cell (p := ⟨b, 0, none⟩) hB).trans h.1, (hb.cell (p := ⟨b, 1, none⟩) hB).trans h.2.1, (hb.cell (p := ⟨b, 2, none⟩) hB).trans h.2.2.1, (hb.cell (p := ⟨b, 3, none⟩) hB).trans h.2.2.2⟩
theorem size_alloc (w : World) (o : Obj) : (w.alloc o).heap.size = w.heap.size + 1 := by
  show (w.heap.push _).size = _
  simp
theorem Box.alloc {w : World} {b : Nat} {s : S4} (h : Box w b s) (hb : b < w.heap.size) (o : Obj) : Box (w.alloc o) b s := h.below (bw_alloc (Below.refl _ _) o) hb

end Go.Proofs.YtmghdogoeehodaaGreatDoor
/- gather of package kind makes just the set of the bytes for which its function says yes, and writes nothing that was there. -/
namespace Go.Proofs.YtmghdogoeehodaaGreatDoor
open Go.ChangeShapes Go.WideShapes Go.ChangeAt Go.RowKit

structure Open (w : World) (b : Nat) : Prop where
  f0 : w.frozen? ⟨b, 0, none⟩ = false
  f1 : w.frozen? ⟨b, 1, none⟩ = false
  f2 : w.frozen? ⟨b, 2, none⟩ = false
  f3 : w.frozen? ⟨b, 3, none⟩ = false
theorem Open.below {B : Nat} {W W' : World} {b : Nat} (h : Open W b) (hb : Below B W W') (hB : b < B) : Open W' b :=
  ⟨(hb.frozen (p := ⟨b, 0, none⟩) hB).trans h.f0, (hb.frozen (p := ⟨b, 1, none⟩) hB).trans h.f1, (hb.frozen (p := ⟨b, 2, none⟩) hB).trans h.f2, (hb.frozen (p := ⟨b, 3, none⟩) hB).trans h.f3⟩
theorem open_new (w : World) (cs : Array Value) (t : TypeId) : Open (w.alloc (.cells cs t)) w.heap.size := by
  constructor <;> go_simp
def put4 (w : World) (b : Nat) (s : S4) : World :=
  (((w.setCell ⟨b, 0, none⟩ (.int .u64 s.a)).setCell ⟨b, 1, none⟩ (.int .u64 s.b)).setCell ⟨b, 2, none⟩ (.int .u64 s.c)).setCell ⟨b, 3, none⟩ (.int .u64 s.d)
theorem far {b c i j : Nat} (h : b ≠ c ∨ i ≠ j) : (⟨b, i, none⟩ : Addr) ≠ ⟨c, j, none⟩ := by
  intro e
  simp only [Addr.mk.injEq, and_true] at e
  omega
theorem cell_put4 (w : World) (b c i : Nat) (s : S4) (h : b ≠ c) : (put4 w b s).cell? ⟨c, i, none⟩ = w.cell? ⟨c, i, none⟩ := by
  unfold put4
  rw [World.cell?_setCell_other _ _ _ _ (far (.inl h)), World.cell?_setCell_other _ _ _ _ (far (.inl h)), World.cell?_setCell_other _ _ _ _ (far (.inl h)), World.cell?_setCell_other _ _ _ _ (far (.inl h))]
theorem frozen_put4 (w : World) (b : Nat) (s : S4) (a : Addr) : (put4 w b s).frozen? a = w.frozen? a := by
  unfold put4
  simp only [World.frozen?_setCell]
theorem size_put4 (w : World) (b : Nat) (s : S4) : (put4 w b s).heap.size = w.heap.size := by
  unfold put4
  simp only [World.size_setCell]
theorem Box.put4 {w : World} {b : Nat} {t : S4} (h : Box w b t) (s : S4) : Box (put4 w b s) b s := by
  obtain ⟨h0, h1, h2, h3⟩ := h
  unfold Go.Proofs.YtmghdogoeehodaaGreatDoor.put4
  refine ⟨?_, ?_, ?_, ?_⟩
  · rw [World.cell?_setCell_other _ _ _ _ (far (.inr (by decide))), World.cell?_setCell_other _ _ _ _ (far (.inr (by decide))), World.cell?_setCell_other _ _ _ _ (far (.inr (by decide)))]
    exact World.cell?_setCell_same _ _ _ h0
  · rw [World.cell?_setCell_other _ _ _ _ (far (.inr (by decide))), World.cell?_setCell_other _ _ _ _ (far (.inr (by decide)))]
    exact World.cell?_setCell_same _ _ _ (by rw [World.cell?_setCell_other _ _ _ _ (far (.inr (by decide)))]; exact h1)
  · rw [World.cell?_setCell_other _ _ _ _ (far (.inr (by decide)))]
    exact World.cell?_setCell_same _ _ _ (by rw [World.cell?_setCell_other _ _ _ _ (far (.inr (by decide))), World.cell?_setCell_other _ _ _ _ (far (.inr (by decide)))]; exact h2)
  · exact World.cell?_setCell_same _ _ _ (by rw [World.cell?_setCell_other _ _ _ _ (far (.inr (by decide))), World.cell?_setCell_other _ _ _ _ (far (.inr (by decide))), World.cell?_setCell_other _ _ _ _ (far (.inr (by decide)))]; exact h3)
theorem below_put4 {B : Nat} {W w : World} (h : Below B W w) {b : Nat} (hb : B ≤ b) (s : S4) : Below B W (put4 w b s) :=
  (((h.setCell (p := ⟨b, 0, none⟩) hb _).setCell (p := ⟨b, 1, none⟩) hb _).setCell (p := ⟨b, 2, none⟩) hb _).setCell (p := ⟨b, 3, none⟩) hb _
/- what holds at the head of each round: the result's box, the set's box, nothing that was there has turned -/
structure Inv (w wr : World) (s : S4) : Prop where
  s : Box wr (w.heap.size + 1) s
  r : Box wr w.heap.size zeroS
  fs : Open wr (w.heap.size + 1)
  fr : Open wr w.heap.size
  bw : Below w.heap.size w wr
  sz : w.heap.size + 2 ≤ wr.heap.size
theorem Inv.below {w wr w1 : World} {s : S4} (h : Inv w wr s) (hb : Below wr.heap.size wr w1) : Inv w w1 s :=
  ⟨h.s.below hb (by have := h.sz; omega), h.r.below hb (by have := h.sz; omega), h.fs.below hb (by have := h.sz; omega), h.fr.below hb (by have := h.sz; omega), h.bw.trans (hb.mono h.bw.size), Nat.le_trans h.sz hb.size⟩
theorem Inv.put {w wr : World} {s : S4} (h : Inv w wr s) (t : S4) : Inv w (put4 wr (w.heap.size + 1) t) t :=
  ⟨h.s.put4 t, ⟨(cell_put4 _ _ _ _ _ (by omega)).trans h.r.1, (cell_put4 _ _ _ _ _ (by omega)).trans h.r.2.1, (cell_put4 _ _ _ _ _ (by omega)).trans h.r.2.2.1, (cell_put4 _ _ _ _ _ (by omega)).trans h.r.2.2.2⟩,
    ⟨(frozen_put4 _ _ _ _).trans h.fs.f0, (frozen_put4 _ _ _ _).trans h.fs.f1, (frozen_put4 _ _ _ _).trans h.fs.f2, (frozen_put4 _ _ _ _).trans h.fs.f3⟩,
    ⟨(frozen_put4 _ _ _ _).trans h.fr.f0, (frozen_put4 _ _ _ _).trans h.fr.f1, (frozen_put4 _ _ _ _).trans h.fr.f2, (frozen_put4 _ _ _ _).trans h.fr.f3⟩,
    below_put4 h.bw (by omega) t, by rw [size_put4]; exact h.sz⟩
theorem inv_start (w : World) (t : TypeId) : Inv w ((w.alloc (.cells #[.int .u64 0, .int .u64 0, .int .u64 0, .int .u64 0] t)).alloc (.cells #[.int .u64 0, .int .u64 0, .int .u64 0, .int .u64 0] t)) zeroS := by
  have b1 := box_new w zeroS t
  have b2 := box_new (w.alloc (.cells #[.int .u64 0, .int .u64 0, .int .u64 0, .int .u64 0] t)) zeroS t
  have o1 := open_new w #[.int .u64 0, .int .u64 0, .int .u64 0, .int .u64 0] t
  have o2 := open_new (w.alloc (.cells #[.int .u64 0, .int .u64 0, .int .u64 0, .int .u64 0] t)) #[.int .u64 0, .int .u64 0, .int .u64 0, .int .u64 0] t
  rw [size_alloc] at b2 o2
  exact ⟨b2, b1.alloc (by simp only [size_alloc]; omega) _, o2, o1.below (bw_alloc (Below.refl _ _) _) (by simp only [size_alloc]; omega), bw_alloc (bw_alloc (Below.refl _ _) _) _, by simp only [size_alloc]; omega⟩
theorem fold_no {f : Int → Bool} {k : Nat} (h : f k = false) : foldS f (k + 1) = foldS f k := by simp [foldS, h]
theorem fold_yes {f : Int → Bool} {k : Nat} (h : f k = true) : foldS f (k + 1) = withS (foldS f k) k := by simp [foldS, h]

set_option maxRecDepth 100000 in
theorem gather_any (f : Int → Bool) (g : Value) (hh : Hid (∀ (c : Nat) (w : World), c < 256 → Calls Tryz.prog 98 #[g, .int .u8 c] w fun e w' => e = .returned (.bool (f c)) ∧ Below w.heap.size w w')) (w : World) :
    Calls Tryz.prog 97 #[.func (Fn.func 98) #[g] #[]] w fun e w' =>
      e = .returned (.agg #[.int .u64 (foldS f 256).a, .int .u64 (foldS f 256).b, .int .u64 (foldS f 256).c, .int .u64 (foldS f 256).d]) ∧ Below w.heap.size w w' := by
  go_enter Tryz.func97, Tryz.ntmps97
  go_wp2
  go_loopw [6] (fun i wr => ∃ k : Nat, k ≤ 256 ∧ i = .int .i64 k ∧ Inv w wr (foldS f k)) (fun i _ => 256 - (intOf i).toNat)
  case atStart => exact ⟨0, Nat.zero_le _, rfl, inv_start w 32⟩
  case round =>
    obtain ⟨k, hk, rfl, hI⟩ := hrel
    by_cases hlt : k < 256
    · cases hf : f k
      · have hF := fold_no hf
        go_wp2_with fail
        refine (hh.out k _ hlt).mono ?_
        rintro e w1 ⟨rfl, hb⟩
        have hI1 := hI.below hb
        have HF : Hid (foldS f (k + 1) = foldS f k) := hF
        clear hF
        go_wp2
        go_roundw
        case rel => exact ⟨k + 1, by omega, by go_num, by rw [HF.out]; exact hI1⟩
        case measure => simp [intOf]; omega
      · have HF : Hid (foldS f (k + 1) = withS (foldS f k) k) := fold_yes hf
        go_wp2_with fail
        refine (hh.out k _ hlt).mono ?_
        rintro e w1 ⟨rfl, hb⟩
        have hI1 := hI.below hb
        obtain ⟨c0, c1, c2, c3⟩ := hI1.s
        go_wp2_with fail
        refine (kWith_any (foldS f k) (ok_fold f k hk) k hlt _).mono ?_
        rintro e w2 ⟨rfl, hb2⟩
        have hI2 := hI1.below hb2
        obtain ⟨d0, d1, d2, d3⟩ := hI2.s
        obtain ⟨f0, f1, f2, f3⟩ := hI2.fs
        clear c0 c1 c2 c3
        go_wp2
        go_roundw
        case rel => exact ⟨k + 1, by omega, by go_num, by rw [HF.out]; exact hI2.put _⟩
        case measure => simp [intOf]; omega
    · have hk2 : k = 256 := by omega
      subst hk2
      obtain ⟨c0, c1, c2, c3⟩ := hI.s
      obtain ⟨d0, d1, d2, d3⟩ := hI.r
      obtain ⟨f0, f1, f2, f3⟩ := hI.fr
      go_wp2
      obtain ⟨r0, r1, r2, r3⟩ := hI.r.put4 (foldS f 256)
      have hbl := below_put4 hI.bw (Nat.le_refl _) (foldS f 256)
      show bodyPost _ _ _ _ _ (put4 wr w.heap.size (foldS f 256))
      generalize put4 wr w.heap.size (foldS f 256) = wz at *
      exact bodyPost_ret (v := .agg #[.int .u64 (foldS f 256).a, .int .u64 (foldS f 256).b, .int .u64 (foldS f 256).c, .int .u64 (foldS f 256).d]) (by simp [results, Tryz.results97, go_sem, r0, r1, r2, r3]) rfl ⟨rfl, hbl⟩

end Go.Proofs.YtmghdogoeehodaaGreatDoor
/- Of of package kind returns just the set of the bytes of its class (or nothing, false), and so does the document's; neither writes anything that was there. -/
namespace Go.Proofs.YtmghdogoeehodaaGreatDoor
open Go.ChangeShapes Go.WideShapes Go.ChangeAt Go.RowKit

theorem kOf_no {k : Int} (h : fnum (smI k) = none) (w : World) :
    Calls Tryz.prog 83 #[.int .u8 k] w fun e w' => e = .returned (.tuple #[.agg #[.int .u64 0, .int .u64 0, .int .u64 0, .int .u64 0], .bool false]) ∧ Below w.heap.size w w' := by
  go_enter Tryz.func83, Tryz.ntmps83
  go_wp2_with fail
  refine (classOf_no h _).mono ?_
  rintro e w1 ⟨rfl, hb1⟩
  have b1 : Box w1 w.heap.size zeroS := (box_new w zeroS 32).below hb1 (by simp only [size_alloc]; omega)
  have o1 : Open w1 w.heap.size := (open_new w _ 32).below hb1 (by simp only [size_alloc]; omega)
  have hz : w.heap.size < w1.heap.size := by have := hb1.size; rw [size_alloc] at this; omega
  have hb : Below w.heap.size w w1 := bw_trans (bw_alloc (Below.refl _ _) _) hb1
  have bz := (b1.put4 zeroS).alloc (by rw [size_put4]; exact hz) (.cells #[.nilFunc, .bool false] 144)
  obtain ⟨c0, c1, c2, c3⟩ := b1
  obtain ⟨f0, f1, f2, f3⟩ := o1
  clear hb1
  have HZ : Hid (Box ((put4 w1 w.heap.size zeroS).alloc (.cells #[.nilFunc, .bool false] 144)) w.heap.size zeroS) := bz
  clear bz
  go_wp2
  show bodyPost _ _ _ _ _ ((put4 w1 w.heap.size zeroS).alloc (.cells #[.nilFunc, .bool false] 144))
  obtain ⟨r0, r1, r2, r3⟩ := HZ.out
  have hbl := bw_alloc (below_put4 hb (Nat.le_refl _) zeroS) (.cells #[.nilFunc, .bool false] 144)
  generalize (put4 w1 w.heap.size zeroS).alloc (.cells #[.nilFunc, .bool false] 144) = wz at *
  exact bodyPost_ret (v := .tuple #[.agg #[.int .u64 zeroS.a, .int .u64 zeroS.b, .int .u64 zeroS.c, .int .u64 zeroS.d], .bool false]) (by simp [results, Tryz.results83, go_sem, r0, r1, r2, r3]) rfl ⟨rfl, hbl⟩

theorem kOf_yes {k : Int} {n : Nat} (h : fnum (smI k) = some n) (w : World) :
    Calls Tryz.prog 83 #[.int .u8 k] w fun e w' =>
      e = .returned (.tuple #[.agg #[.int .u64 (foldS (isB k) 256).a, .int .u64 (foldS (isB k) 256).b, .int .u64 (foldS (isB k) 256).c, .int .u64 (foldS (isB k) 256).d], .bool true]) ∧ Below w.heap.size w w' := by
  have hh : Hid (∀ (c : Nat) (w : World), c < 256 → Calls Tryz.prog 98 #[.agg #[.func (Fn.func n) #[] #[], .bool (smI k != k)], .int .u8 c] w fun e w' => e = .returned (.bool (isB k c)) ∧ Below w.heap.size w w') := by
    intro c w _
    unfold isB
    rw [fnum_is h, ← great_is k, Bool.true_and]
    exact ghas_any h _ _ _
  go_enter Tryz.func83, Tryz.ntmps83
  go_wp2_with fail
  refine (classOf_yes h _).mono ?_
  rintro e w1 ⟨rfl, hb1⟩
  have b1 : Box w1 w.heap.size zeroS := (box_new w zeroS 32).below hb1 (by simp only [size_alloc]; omega)
  have o1 : Open w1 w.heap.size := (open_new w _ 32).below hb1 (by simp only [size_alloc]; omega)
  have hz : w.heap.size < w1.heap.size := by have := hb1.size; rw [size_alloc] at this; omega
  have hb : Below w.heap.size w w1 := bw_trans (bw_alloc (Below.refl _ _) _) hb1
  clear hb1
  go_wp2_with fail
  refine (gather_any (isB k) _ hh _).mono ?_
  rintro e w2 ⟨rfl, hb2⟩
  have b2 : Box w2 w.heap.size zeroS := (b1.alloc hz _).below hb2 (by simp only [size_alloc]; omega)
  have o2 : Open w2 w.heap.size := (o1.below (bw_alloc (Below.refl _ _) _) hz).below hb2 (by simp only [size_alloc]; omega)
  have hb' : Below w.heap.size w w2 := bw_trans (bw_alloc hb _) hb2
  obtain ⟨r0, r1, r2, r3⟩ := b2.put4 (foldS (isB k) 256)
  have R0 : Hid _ := r0
  have R1 : Hid _ := r1
  have R2 : Hid _ := r2
  have R3 : Hid _ := r3
  obtain ⟨c0, c1, c2, c3⟩ := b2
  obtain ⟨f0, f1, f2, f3⟩ := o2
  clear hb2 b1 o1 hb r0 r1 r2 r3
  go_wp2
  show bodyPost _ _ _ _ _ (put4 w2 w.heap.size (foldS (isB k) 256))
  have hbl := below_put4 hb' (Nat.le_refl _) (foldS (isB k) 256)
  have r0 := R0.out
  have r1 := R1.out
  have r2 := R2.out
  have r3 := R3.out
  clear R0 R1 R2 R3
  generalize put4 w2 w.heap.size (foldS (isB k) 256) = wz at *
  generalize foldS (isB k) 256 = s at *
  exact bodyPost_ret (v := .tuple #[.agg #[.int .u64 s.a, .int .u64 s.b, .int .u64 s.c, .int .u64 s.d], .bool true]) (by simp [results, Tryz.results83, go_sem, r0, r1, r2, r3]) rfl ⟨rfl, hbl⟩

/- both in one: what is no class has none -/
theorem isB_no {k : Int} (h : fnum (smI k) = none) (c : Int) : isB k c = false := by
  unfold isB
  rw [fnum_none h, Bool.false_and]
theorem fold_none {f : Int → Bool} (h : ∀ c, f c = false) : ∀ n, foldS f n = zeroS
  | 0 => rfl
  | n + 1 => by unfold foldS; rw [h n, fold_none h n]; rfl
theorem kOf_any (k : Int) (w : World) :
    Calls Tryz.prog 83 #[.int .u8 k] w fun e w' =>
      e = .returned (.tuple #[.agg #[.int .u64 (foldS (isB k) 256).a, .int .u64 (foldS (isB k) 256).b, .int .u64 (foldS (isB k) 256).c, .int .u64 (foldS (isB k) 256).d], .bool (knB (smI k))]) ∧ Below w.heap.size w w' := by
  cases h : fnum (smI k) with
  | none =>
    rw [fold_none (isB_no h) 256, fnum_none h]
    exact kOf_no h w
  | some n =>
    rw [fnum_is h]
    exact kOf_yes h w

-- END
end Go.Proofs.YtmghdogoeehodaaGreatDoor
/- Named of package kind returns just the set of the bytes of its name (or nothing, false), and so does the document's; neither writes anything that was there. -/
namespace Go.Proofs.YtmghdogoeehodaaGreatDoor
open Go.ChangeShapes Go.WideShapes Go.ChangeAt Go.RowKit

/-- the test of a name -/
def nmN (l : List UInt8) : Option Nat :=
  if l = [97, 108, 112, 104, 97] then some 116 else if l = [100, 105, 103, 105, 116] then some 111 else if l = [97, 108, 110, 117, 109] then some 128 else if l = [108, 111, 119, 101, 114] then some 117 else if l = [117, 112, 112, 101, 114] then some 110 else if l = [98, 108, 97, 110, 107] then some 118 else if l = [115, 112, 97, 99, 101] then some 129 else if l = [120, 100, 105, 103, 105, 116] then some 112 else if l = [99, 110, 116, 114, 108] then some 130 else if l = [112, 117, 110, 99, 116] then some 131 else none
def nmB (l : List UInt8) (c : Int) : Bool :=
  if l = [97, 108, 112, 104, 97] then letB c else if l = [100, 105, 103, 105, 116] then digB c else if l = [97, 108, 110, 117, 109] then ladB c else if l = [108, 111, 119, 101, 114] then smlB c else if l = [117, 112, 112, 101, 114] then grtB c else if l = [98, 108, 97, 110, 107] then blkB c else if l = [115, 112, 97, 99, 101] then spcB c else if l = [120, 100, 105, 103, 105, 116] then hexB c else if l = [99, 110, 116, 114, 108] then ctlB c else if l = [112, 117, 110, 99, 116] then pctB c else false
def nmK (l : List UInt8) : Bool := (nmN l).isSome
theorem nm_some {l : List UInt8} {n : Nat} (h : nmN l = some n) : (l = [97, 108, 112, 104, 97] ∧ n = 116) ∨ (l = [100, 105, 103, 105, 116] ∧ n = 111) ∨ (l = [97, 108, 110, 117, 109] ∧ n = 128) ∨ (l = [108, 111, 119, 101, 114] ∧ n = 117) ∨ (l = [117, 112, 112, 101, 114] ∧ n = 110) ∨ (l = [98, 108, 97, 110, 107] ∧ n = 118) ∨ (l = [115, 112, 97, 99, 101] ∧ n = 129) ∨ (l = [120, 100, 105, 103, 105, 116] ∧ n = 112) ∨ (l = [99, 110, 116, 114, 108] ∧ n = 130) ∨ (l = [112, 117, 110, 99, 116] ∧ n = 131) := by
  unfold nmN at h
  by_cases h0 : l = [97, 108, 112, 104, 97]
  · rw [if_pos h0] at h
    cases h
    exact .inl ⟨h0, rfl⟩
  rw [if_neg h0] at h
  by_cases h1 : l = [100, 105, 103, 105, 116]
  · rw [if_pos h1] at h
    cases h
    exact .inr (.inl ⟨h1, rfl⟩)
  rw [if_neg h1] at h
  by_cases h2 : l = [97, 108, 110, 117, 109]
  · rw [if_pos h2] at h
    cases h
    exact .inr (.inr (.inl ⟨h2, rfl⟩))
  rw [if_neg h2] at h
  by_cases h3 : l = [108, 111, 119, 101, 114]
  · rw [if_pos h3] at h
    cases h
    exact .inr (.inr (.inr (.inl ⟨h3, rfl⟩)))
  rw [if_neg h3] at h
  by_cases h4 : l = [117, 112, 112, 101, 114]
  · rw [if_pos h4] at h
    cases h
    exact .inr (.inr (.inr (.inr (.inl ⟨h4, rfl⟩))))
  rw [if_neg h4] at h
  by_cases h5 : l = [98, 108, 97, 110, 107]
  · rw [if_pos h5] at h
    cases h
    exact .inr (.inr (.inr (.inr (.inr (.inl ⟨h5, rfl⟩)))))
  rw [if_neg h5] at h
  by_cases h6 : l = [115, 112, 97, 99, 101]
  · rw [if_pos h6] at h
    cases h
    exact .inr (.inr (.inr (.inr (.inr (.inr (.inl ⟨h6, rfl⟩))))))
  rw [if_neg h6] at h
  by_cases h7 : l = [120, 100, 105, 103, 105, 116]
  · rw [if_pos h7] at h
    cases h
    exact .inr (.inr (.inr (.inr (.inr (.inr (.inr (.inl ⟨h7, rfl⟩)))))))
  rw [if_neg h7] at h
  by_cases h8 : l = [99, 110, 116, 114, 108]
  · rw [if_pos h8] at h
    cases h
    exact .inr (.inr (.inr (.inr (.inr (.inr (.inr (.inr (.inl ⟨h8, rfl⟩))))))))
  rw [if_neg h8] at h
  by_cases h9 : l = [112, 117, 110, 99, 116]
  · rw [if_pos h9] at h
    cases h
    exact .inr (.inr (.inr (.inr (.inr (.inr (.inr (.inr (.inr (⟨h9, rfl⟩)))))))))
  rw [if_neg h9] at h
  cases h
theorem nm_none {l : List UInt8} (h : nmN l = none) : (l == [97, 108, 112, 104, 97]) = false ∧ (l == [100, 105, 103, 105, 116]) = false ∧ (l == [97, 108, 110, 117, 109]) = false ∧ (l == [108, 111, 119, 101, 114]) = false ∧ (l == [117, 112, 112, 101, 114]) = false ∧ (l == [98, 108, 97, 110, 107]) = false ∧ (l == [115, 112, 97, 99, 101]) = false ∧ (l == [120, 100, 105, 103, 105, 116]) = false ∧ (l == [99, 110, 116, 114, 108]) = false ∧ (l == [112, 117, 110, 99, 116]) = false := by
  have q : ∀ m : List UInt8, nmN m ≠ none → (l == m) = false := fun m hm => by
    rw [beq_eq_false_iff_ne]
    intro e
    rw [e] at h
    exact hm h
  exact ⟨q _ (by decide), q _ (by decide), q _ (by decide), q _ (by decide), q _ (by decide), q _ (by decide), q _ (by decide), q _ (by decide), q _ (by decide), q _ (by decide)⟩
theorem nmB_none {l : List UInt8} (h : nmN l = none) (c : Int) : nmB l c = false := by
  obtain ⟨h0, h1, h2, h3, h4, h5, h6, h7, h8, h9⟩ := nm_none h
  simp only [beq_eq_false_iff_ne, ne_eq] at h0 h1 h2 h3 h4 h5 h6 h7 h8 h9
  simp only [nmB, h0, h1, h2, h3, h4, h5, h6, h7, h8, h9, if_false]
theorem nameTest_no {s : ByteArray} (h : nmN s.toList = none) (w : World) :
    Calls Tryz.prog 124 #[.string s] w fun e w' => e = .returned .nilFunc ∧ w' = w := by
  obtain ⟨h0, h1, h2, h3, h4, h5, h6, h7, h8, h9⟩ := nm_none h
  clear h
  go_enter Tryz.func124, Tryz.ntmps124
  go_wp2
  go_ret
  exact ⟨rfl, rfl⟩
theorem nameTest_yes {s : ByteArray} {n : Nat} (h : nmN s.toList = some n) (w : World) :
    Calls Tryz.prog 124 #[.string s] w fun e w' => e = .returned (.func (Fn.func n) #[] #[]) ∧ w' = w := by
  rcases nm_some h with ⟨hs, rfl⟩ | ⟨hs, rfl⟩ | ⟨hs, rfl⟩ | ⟨hs, rfl⟩ | ⟨hs, rfl⟩ | ⟨hs, rfl⟩ | ⟨hs, rfl⟩ | ⟨hs, rfl⟩ | ⟨hs, rfl⟩ | ⟨hs, rfl⟩
  all_goals
    clear h
    go_enter Tryz.func124, Tryz.ntmps124
    go_wp2
    go_ret
    exact ⟨rfl, rfl⟩
theorem neq_nil (w : World) : Sem.run Tryz.prog (binOp BinOp.neq 142 Value.nilFunc Value.nilFunc) w = .ok (.bool false) w := by kernel_rfl
theorem neq_fn (n : Nat) (w : World) : Sem.run Tryz.prog (binOp BinOp.neq 142 (Value.func (Fn.func n) #[] #[]) Value.nilFunc) w = .ok (.bool true) w := by kernel_rfl
theorem namedGroup_no {s : ByteArray} (h : nmN s.toList = none) (w : World) :
    Calls Tryz.prog 121 #[.string s] w fun e w' => e = .returned (.tuple #[.agg #[.nilFunc, .bool false], .bool false]) ∧ Below w.heap.size w w' := by
  have hq := neq_nil
  go_enter Tryz.func121, Tryz.ntmps121
  go_wp2_with (go_at_call 124; refine (nameTest_no h _).mono ?_; rintro e w' ⟨rfl, rfl⟩)
  exact bodyPost_ret (v := .tuple #[.agg #[.nilFunc, .bool false], .bool false]) (by simp [results, Tryz.results121, go_sem]) rfl ⟨rfl, bw_alloc (Below.refl _ _) _⟩
theorem namedGroup_yes {s : ByteArray} {n : Nat} (h : nmN s.toList = some n) (w : World) :
    Calls Tryz.prog 121 #[.string s] w fun e w' => e = .returned (.tuple #[.agg #[.func (Fn.func n) #[] #[], .bool false], .bool true]) ∧ Below w.heap.size w w' := by
  have hq := neq_fn n
  go_enter Tryz.func121, Tryz.ntmps121
  go_wp2_with (go_at_call 124; refine (nameTest_yes h _).mono ?_; rintro e w' ⟨rfl, rfl⟩)
  exact bodyPost_ret (v := .tuple #[.agg #[.func (Fn.func n) #[] #[], .bool false], .bool true]) (by simp [results, Tryz.results121, go_sem]) rfl ⟨rfl, bw_alloc (Below.refl _ _) _⟩
theorem gname_any {l : List UInt8} {n : Nat} (h : nmN l = some n) (c : Int) (w : World) :
    Calls Tryz.prog 98 #[.agg #[.func (Fn.func n) #[] #[], .bool false], .int .u8 c] w fun e w' => e = .returned (.bool (nmB l c)) ∧ Below w.heap.size w w' := by
  rcases nm_some h with ⟨rfl, rfl⟩ | ⟨rfl, rfl⟩ | ⟨rfl, rfl⟩ | ⟨rfl, rfl⟩ | ⟨rfl, rfl⟩ | ⟨rfl, rfl⟩ | ⟨rfl, rfl⟩ | ⟨rfl, rfl⟩ | ⟨rfl, rfl⟩ | ⟨rfl, rfl⟩
  · rw [show nmB [97, 108, 112, 104, 97] c = (letB c != false) from by rw [Bool.bne_false]; rfl]
    exact ghas_isLetter false c w
  · rw [show nmB [100, 105, 103, 105, 116] c = (digB c != false) from by rw [Bool.bne_false]; rfl]
    exact ghas_isDigit false c w
  · rw [show nmB [97, 108, 110, 117, 109] c = (ladB c != false) from by rw [Bool.bne_false]; rfl]
    exact ghas_isLetterOrDigit false c w
  · rw [show nmB [108, 111, 119, 101, 114] c = (smlB c != false) from by rw [Bool.bne_false]; rfl]
    exact ghas_isSmall false c w
  · rw [show nmB [117, 112, 112, 101, 114] c = (grtB c != false) from by rw [Bool.bne_false]; rfl]
    exact ghas_isGreat false c w
  · rw [show nmB [98, 108, 97, 110, 107] c = (blkB c != false) from by rw [Bool.bne_false]; rfl]
    exact ghas_isBlank false c w
  · rw [show nmB [115, 112, 97, 99, 101] c = (spcB c != false) from by rw [Bool.bne_false]; rfl]
    exact ghas_isSpace false c w
  · rw [show nmB [120, 100, 105, 103, 105, 116] c = (hexB c != false) from by rw [Bool.bne_false]; rfl]
    exact ghas_isHex false c w
  · rw [show nmB [99, 110, 116, 114, 108] c = (ctlB c != false) from by rw [Bool.bne_false]; rfl]
    exact ghas_isControl false c w
  · rw [show nmB [112, 117, 110, 99, 116] c = (pctB c != false) from by rw [Bool.bne_false]; rfl]
    exact ghas_isPunct false c w

theorem kNamed_no {s : ByteArray} (h : nmN s.toList = none) (w : World) :
    Calls Tryz.prog 107 #[.string s] w fun e w' => e = .returned (.tuple #[.agg #[.int .u64 0, .int .u64 0, .int .u64 0, .int .u64 0], .bool false]) ∧ Below w.heap.size w w' := by
  go_enter Tryz.func107, Tryz.ntmps107
  go_wp2_with fail
  refine (namedGroup_no h _).mono ?_
  rintro e w1 ⟨rfl, hb1⟩
  have b1 : Box w1 w.heap.size zeroS := (box_new w zeroS 32).below hb1 (by simp only [size_alloc]; omega)
  have o1 : Open w1 w.heap.size := (open_new w _ 32).below hb1 (by simp only [size_alloc]; omega)
  have hz : w.heap.size < w1.heap.size := by have := hb1.size; rw [size_alloc] at this; omega
  have hb : Below w.heap.size w w1 := bw_trans (bw_alloc (Below.refl _ _) _) hb1
  have bz := (b1.put4 zeroS).alloc (by rw [size_put4]; exact hz) (.cells #[.nilFunc, .bool false] 144)
  obtain ⟨c0, c1, c2, c3⟩ := b1
  obtain ⟨f0, f1, f2, f3⟩ := o1
  clear hb1
  have HZ : Hid (Box ((put4 w1 w.heap.size zeroS).alloc (.cells #[.nilFunc, .bool false] 144)) w.heap.size zeroS) := bz
  clear bz
  go_wp2
  show bodyPost _ _ _ _ _ ((put4 w1 w.heap.size zeroS).alloc (.cells #[.nilFunc, .bool false] 144))
  obtain ⟨r0, r1, r2, r3⟩ := HZ.out
  have hbl := bw_alloc (below_put4 hb (Nat.le_refl _) zeroS) (.cells #[.nilFunc, .bool false] 144)
  generalize (put4 w1 w.heap.size zeroS).alloc (.cells #[.nilFunc, .bool false] 144) = wz at *
  exact bodyPost_ret (v := .tuple #[.agg #[.int .u64 zeroS.a, .int .u64 zeroS.b, .int .u64 zeroS.c, .int .u64 zeroS.d], .bool false]) (by simp [results, Tryz.results107, go_sem, r0, r1, r2, r3]) rfl ⟨rfl, hbl⟩
theorem kNamed_yes {s : ByteArray} {n : Nat} (h : nmN s.toList = some n) (w : World) :
    Calls Tryz.prog 107 #[.string s] w fun e w' =>
      e = .returned (.tuple #[.agg #[.int .u64 (foldS (nmB s.toList) 256).a, .int .u64 (foldS (nmB s.toList) 256).b, .int .u64 (foldS (nmB s.toList) 256).c, .int .u64 (foldS (nmB s.toList) 256).d], .bool true]) ∧ Below w.heap.size w w' := by
  have hh : Hid (∀ (c : Nat) (w : World), c < 256 → Calls Tryz.prog 98 #[.agg #[.func (Fn.func n) #[] #[], .bool false], .int .u8 c] w fun e w' => e = .returned (.bool (nmB s.toList c)) ∧ Below w.heap.size w w') :=
    fun c w _ => gname_any h c w
  generalize hl : nmB s.toList = f at *
  clear hl
  go_enter Tryz.func107, Tryz.ntmps107
  go_wp2_with fail
  refine (namedGroup_yes h _).mono ?_
  rintro e w1 ⟨rfl, hb1⟩
  have b1 : Box w1 w.heap.size zeroS := (box_new w zeroS 32).below hb1 (by simp only [size_alloc]; omega)
  have o1 : Open w1 w.heap.size := (open_new w _ 32).below hb1 (by simp only [size_alloc]; omega)
  have hz : w.heap.size < w1.heap.size := by have := hb1.size; rw [size_alloc] at this; omega
  have hb : Below w.heap.size w w1 := bw_trans (bw_alloc (Below.refl _ _) _) hb1
  clear hb1
  go_wp2_with fail
  refine (gather_any f _ hh _).mono ?_
  rintro e w2 ⟨rfl, hb2⟩
  have b2 : Box w2 w.heap.size zeroS := (b1.alloc hz _).below hb2 (by simp only [size_alloc]; omega)
  have o2 : Open w2 w.heap.size := (o1.below (bw_alloc (Below.refl _ _) _) hz).below hb2 (by simp only [size_alloc]; omega)
  have hb' : Below w.heap.size w w2 := bw_trans (bw_alloc hb _) hb2
  obtain ⟨r0, r1, r2, r3⟩ := b2.put4 (foldS f 256)
  have R0 : Hid _ := r0
  have R1 : Hid _ := r1
  have R2 : Hid _ := r2
  have R3 : Hid _ := r3
  obtain ⟨c0, c1, c2, c3⟩ := b2
  obtain ⟨f0, f1, f2, f3⟩ := o2
  clear hb2 b1 o1 hb r0 r1 r2 r3
  go_wp2
  show bodyPost _ _ _ _ _ (put4 w2 w.heap.size (foldS f 256))
  have hbl := below_put4 hb' (Nat.le_refl _) (foldS f 256)
  have r0 := R0.out
  have r1 := R1.out
  have r2 := R2.out
  have r3 := R3.out
  clear R0 R1 R2 R3
  generalize put4 w2 w.heap.size (foldS f 256) = wz at *
  generalize foldS f 256 = t at *
  exact bodyPost_ret (v := .tuple #[.agg #[.int .u64 t.a, .int .u64 t.b, .int .u64 t.c, .int .u64 t.d], .bool true]) (by simp [results, Tryz.results107, go_sem, r0, r1, r2, r3]) rfl ⟨rfl, hbl⟩
theorem kNamed_any (s : ByteArray) (w : World) :
    Calls Tryz.prog 107 #[.string s] w fun e w' =>
      e = .returned (.tuple #[.agg #[.int .u64 (foldS (nmB s.toList) 256).a, .int .u64 (foldS (nmB s.toList) 256).b, .int .u64 (foldS (nmB s.toList) 256).c, .int .u64 (foldS (nmB s.toList) 256).d], .bool (nmK s.toList)]) ∧ Below w.heap.size w w' := by
  unfold nmK
  cases h : nmN s.toList with
  | none =>
    rw [fold_none (nmB_none h) 256]
    exact kNamed_no h w
  | some n => exact kNamed_yes h w

end Go.Proofs.YtmghdogoeehodaaGreatDoor
/- What memory holds while a pattern is read, and what a call of the reader leaves as it was. -/
namespace Go.Proofs.YtmghdogoeehodaaGreatDoor
open Go.ChangeShapes Go.WideShapes Go.ChangeAt Go.RowKit
set_option linter.unusedVariables false
set_option linter.unusedSimpArgs false

theorem drewN_heap (w : World) (n : Nat) : (w.drewN n).heap = w.heap := by induction n generalizing w <;> simp_all [World.drewN]
theorem drew2 (w : World) (a b : Nat) : (w.drewN a).drewN b = w.drewN (a + b) := by
  have e : ∀ (n : Nat) (w : World), w.drewN n = { w with drawn := w.drawn + n } := by
    intro n
    induction n with
    | zero => intro w; rfl
    | succ n ih => intro w; simp [World.drewN, World.drew, ih, Nat.add_assoc, Nat.add_comm 1 n]
  simp [e, Nat.add_assoc]
theorem heap_setCell {w : World} {b off : Nat} {v : Value} {cur : Array Value} {e : TypeId} {fr : Nat × Nat} (hg : w.heap[b]? = some (.cells cur e fr)) :
    (w.setCell ⟨b, off, none⟩ v).heap[b]? = some (.cells (cur.setIfInBounds off v) e fr) := by
  have hlt : b < w.heap.size := (Array.getElem?_eq_some_iff.1 hg).1
  simp [World.setCell, Array.getElem?_modify, hg]
theorem heap_setCell_other {w : World} {b off k : Nat} {v : Value} (hk : k ≠ b) : (w.setCell ⟨b, off, none⟩ v).heap[k]? = w.heap[k]? := by
  simp [World.setCell, Array.getElem?_modify, Ne.symm hk]
theorem size_setCell (w : World) (a : Addr) (v : Value) : (w.setCell a v).heap.size = w.heap.size := by simp [World.setCell]
theorem alloc_new (w : World) (ob : Obj) : (w.alloc ob).heap[w.heap.size]? = some ob := by show (w.heap.push ob)[w.heap.size]? = _; simp
theorem alloc_old (w : World) (ob : Obj) (k : Nat) (hk : k < w.heap.size) : (w.alloc ob).heap[k]? = w.heap[k]? := by
  show (w.heap.push ob)[k]? = _; rw [Array.getElem?_push_lt hk, Array.getElem?_eq_getElem hk]
theorem alloc_size (w : World) (ob : Obj) : (w.alloc ob).heap.size = w.heap.size + 1 := by show (w.heap.push ob).size = _; simp

/-- From w to w' no block that was there has turned but those of which 'S' speaks. -/
structure Fr (S : Nat → Prop) (w w' : World) : Prop where
  os : w'.os = w.os
  tape : w'.tape = w.tape
  output : w'.output = w.output
  size : w.heap.size ≤ w'.heap.size
  block : ∀ k, k < w.heap.size → ¬ S k → w'.heap[k]? = w.heap[k]?
section
variable {S S' : Nat → Prop} {w w1 w2 : World}
theorem Fr.refl (S : Nat → Prop) (w : World) : Fr S w w := ⟨rfl, rfl, rfl, Nat.le_refl _, fun _ _ _ => rfl⟩
theorem Fr.trans' (h : Fr S w w1) (h' : Fr S' w1 w2) (hs : ∀ k, k < w.heap.size → S' k → S k) : Fr S w w2 :=
  ⟨h'.os.trans h.os, h'.tape.trans h.tape, h'.output.trans h.output, Nat.le_trans h.size h'.size,
   fun k hk hn => (h'.block k (Nat.lt_of_lt_of_le hk h.size) (fun hq => hn (hs k hk hq))).trans (h.block k hk hn)⟩
theorem Fr.trans (h : Fr S w w1) (h' : Fr S w1 w2) : Fr S w w2 := h.trans' h' fun _ _ q => q
theorem Fr.mono (h : Fr S w w1) (hs : ∀ k, k < w.heap.size → S k → S' k) : Fr S' w w1 := ⟨h.os, h.tape, h.output, h.size, fun k hk hn => h.block k hk fun q => hn (hs k hk q)⟩
theorem Fr.drewN (S : Nat → Prop) (w : World) (n : Nat) : Fr S w (w.drewN n) := by
  refine ⟨?_, ?_, ?_, by rw [drewN_heap]; exact Nat.le_refl _, fun _ _ _ => by rw [drewN_heap]⟩
  all_goals (induction n generalizing w <;> simp_all [World.drewN])
theorem Fr.setCell {b off : Nat} {v : Value} (hS : S b) (w : World) : Fr S w (w.setCell ⟨b, off, none⟩ v) :=
  ⟨rfl, rfl, rfl, by rw [size_setCell]; exact Nat.le_refl _, fun k _ hn => heap_setCell_other fun e => hn (e ▸ hS)⟩
theorem Fr.alloc (S : Nat → Prop) (w : World) (ob : Obj) : Fr S w (w.alloc ob) := ⟨rfl, rfl, rfl, by rw [alloc_size]; omega, fun k hk _ => alloc_old w ob k hk⟩
theorem Fr.below {B : Nat} (h : Fr S w w1) (hB : B ≤ w.heap.size) (hS : ∀ k, k < B → ¬ S k) : Below B w w1 := ⟨h.os, h.tape, h.output, h.size, fun k hk => h.block k (by omega) (hS k hk)⟩
theorem Fr.of_below (h : Below w.heap.size w w1) : Fr S w w1 := ⟨h.os, h.tape, h.output, h.size, fun k hk _ => h.block k hk⟩
end
/-- This one block. -/
def On (b k : Nat) : Prop := k = b
theorem fr_set (b off : Nat) (v : Value) (w : World) : Fr (On b) w (w.setCell ⟨b, off, none⟩ v) := Fr.setCell (S := On b) rfl w
/-- Nothing that was there has turned. -/
abbrev Kp (w w' : World) : Prop := Below w.heap.size w w'
theorem kp_drewN (w : World) (q : Nat) : Kp w (w.drewN q) := (Fr.drewN (fun _ => False) w q).below (Nat.le_refl _) fun _ _ h => h
theorem kp_alloc (w : World) (ob : Obj) : Kp w (w.alloc ob) := (Below.refl _ w).alloc (Nat.le_refl _) ob
theorem kp_trans {a b c : World} (h : Kp a b) (k : Kp b c) : Kp a c := h.trans (k.mono h.size)

theorem Fr.new {S : Nat → Prop} {w w1 : World} {n off : Nat} {v : Value} (h : Fr S w w1) (hn : w.heap.size ≤ n) : Fr S w (w1.setCell ⟨n, off, none⟩ v) :=
  ⟨h.os, h.tape, h.output, by rw [size_setCell]; exact h.size, fun k hk hS => by rw [heap_setCell_other (by omega)]; exact h.block k hk hS⟩
theorem Fr.frAlloc {S : Nat → Prop} {w w1 : World} {ob : Obj} (h : Fr S (w.alloc ob) w1) : Fr S w w1 := (Fr.alloc S w ob).trans h
/-- A byte of a text, nought behind its end. -/
def byteAt (s : ByteArray) (k : Nat) : Nat := ((s.data.toList[k]?).map UInt8.toNat).getD 0
theorem byteAt_lt (s : ByteArray) (k : Nat) : byteAt s k < 256 := by
  unfold byteAt
  cases s.data.toList[k]? with
  | none => simp
  | some b => simpa using b.toNat_lt
theorem byteAt_eq (s : ByteArray) (k : Nat) (h : k < s.size) : byteAt s k = (s[k]).toNat := by
  have : s.data.toList[k]? = some (s[k]) := by
    rw [List.getElem?_eq_getElem (by simpa using h)]; rfl
  unfold byteAt; rw [this]; rfl

/-- At the head of block 'b' (of type 'T') stands a scanner; 'tl' is what stands behind it. -/
def Scn (T : TypeId) (tl : List Value) (s : ByteArray) (at_ : Nat) (md : ByteArray) (cs : Nat) (b : Nat) (w : World) : Prop :=
  w.heap[b]? = some (.cells (.string s :: .int .i64 at_ :: .string md :: .int .u8 cs :: tl).toArray T (0, 0))
section
variable {T : TypeId} {tl : List Value} {s md : ByteArray} {at_ cs b : Nat} {w w' : World}
theorem Scn.lt (h : Scn T tl s at_ md cs b w) : b < w.heap.size := (Array.getElem?_eq_some_iff.1 h).1
theorem Scn.c0 (h : Scn T tl s at_ md cs b w) : w.cell? ⟨b, 0, none⟩ = some (.string s) := by unfold Scn at h; simp [World.cell?, h]
theorem Scn.c1 (h : Scn T tl s at_ md cs b w) : w.cell? ⟨b, 1, none⟩ = some (.int .i64 at_) := by unfold Scn at h; simp [World.cell?, h]
theorem Scn.c2 (h : Scn T tl s at_ md cs b w) : w.cell? ⟨b, 2, none⟩ = some (.string md) := by unfold Scn at h; simp [World.cell?, h]
theorem Scn.c3 (h : Scn T tl s at_ md cs b w) : w.cell? ⟨b, 3, none⟩ = some (.int .u8 cs) := by unfold Scn at h; simp [World.cell?, h]
theorem Scn.fz (h : Scn T tl s at_ md cs b w) (j : Nat) : w.frozen? ⟨b, j, none⟩ = false := by unfold Scn at h; simp [World.frozen?, h]
theorem Scn.heap (h : Scn T tl s at_ md cs b w) (he : w'.heap[b]? = w.heap[b]?) : Scn T tl s at_ md cs b w' := by unfold Scn at h ⊢; rw [he]; exact h
theorem Scn.kp (h : Scn T tl s at_ md cs b w) (k : Kp w w') : Scn T tl s at_ md cs b w' := h.heap (k.block b h.lt)
theorem Scn.drewN (h : Scn T tl s at_ md cs b w) (q : Nat) : Scn T tl s at_ md cs b (w.drewN q) := h.heap (by rw [drewN_heap])
theorem Scn.other (h : Scn T tl s at_ md cs b w) {n off : Nat} {v : Value} (hn : n ≠ b) : Scn T tl s at_ md cs b (w.setCell ⟨n, off, none⟩ v) := h.heap (heap_setCell_other (Ne.symm hn))
theorem Scn.set1 (h : Scn T tl s at_ md cs b w) (a' : Nat) : Scn T tl s a' md cs b (w.setCell ⟨b, 1, none⟩ (.int .i64 a')) := by unfold Scn at h ⊢; rw [heap_setCell h]; simp
theorem Scn.set2 (h : Scn T tl s at_ md cs b w) (m' : ByteArray) : Scn T tl s at_ m' cs b (w.setCell ⟨b, 2, none⟩ (.string m')) := by unfold Scn at h ⊢; rw [heap_setCell h]; simp
theorem Scn.set3 (h : Scn T tl s at_ md cs b w) (c' : Nat) : Scn T tl s at_ md c' b (w.setCell ⟨b, 3, none⟩ (.int .u8 c')) := by unfold Scn at h ⊢; rw [heap_setCell h]; simp
end
end Go.Proofs.YtmghdogoeehodaaGreatDoor
/- The scanner's small calls: among, take, skip. -/
namespace Go.Proofs.YtmghdogoeehodaaGreatDoor
open Go.ChangeShapes Go.WideShapes Go.ChangeAt Go.RowKit
set_option linter.unusedVariables false
set_option linter.unusedSimpArgs false

set_option maxHeartbeats 1000000 in
set_option maxRecDepth 100000 in
theorem indexByteL_any (s : ByteArray) (c : Int) (w : World) :
    Calls Tryz.prog 73 #[.string s, .int .u8 c] w fun e w' => e = .returned (.int .i64 (Lib.indexByte s.data.toList c.toNat.toUInt8)) ∧ w' = w := by
  go_enter Tryz.func73, Tryz.ntmps73
  go_wp2
  rw [run_callFunc_extern Tryz.func91 (by kernel_rfl) (by kernel_rfl) (by kernel_rfl) (e := Extern.BytealgIndexByte.indexByte) (by kernel_rfl), Lib.run_indexByteString]
  simp only [Result.andThen]
  rw [Oper.upon_value]
  go_wp2
  go_ret
  exact ⟨rfl, rfl⟩
theorem indexByte_any (s : ByteArray) (c : Int) (w : World) :
    Calls Tryz.prog 56 #[.string s, .int .u8 c] w fun e w' => e = .returned (.int .i64 (Lib.indexByte s.data.toList c.toNat.toUInt8)) ∧ w' = w := by
  go_enter Tryz.func56, Tryz.ntmps56
  go_wp2_with (go_at_call 73; refine (indexByteL_any _ _ _).mono ?_; rintro e w' ⟨rfl, rfl⟩)
  go_ret
  exact ⟨rfl, rfl⟩
theorem hasPrefix_any (s p : ByteArray) (w : World) :
    Calls Tryz.prog 68 #[.string s, .string p] w fun e w' => e = .returned (.bool (Lib.hasPrefix s.data.toList p.data.toList)) ∧ w' = w := by
  rw [← Lib.hasPrefix_of_take, ← Lib.size_eq, ← Lib.size_eq]
  go_enter Tryz.func68, Tryz.ntmps68
  go_wp2
  · rename_i h
    go_ret
    refine ⟨?_, rfl⟩
    show Ending.returned (Value.bool ((s.extract 0 p.size).toList == p.toList)) = _
    rw [Lib.extract_toList, Lib.toList_data]
    simp [h]
  · rename_i h
    go_ret
    refine ⟨?_, rfl⟩
    show Ending.returned (Value.bool false) = _
    simp [h]
/-- Is a byte one of a text's? -/
def amo (c : Nat) (m : ByteArray) : Bool := decide (0 ≤ Lib.indexByte m.data.toList c.toUInt8)
theorem among_any (c : Nat) (m : ByteArray) (w : World) :
    Calls Tryz.prog 43 #[.int .u8 c, .string m] w fun e w' => e = .returned (.bool (amo c m)) ∧ w' = w := by
  unfold amo
  go_enter Tryz.func43, Tryz.ntmps43
  go_wp2_with (go_at_call 56; refine (indexByte_any _ _ _).mono ?_; rintro e w' ⟨rfl, rfl⟩)
  go_ret
  exact ⟨by simp, rfl⟩
section
variable {T : TypeId} {tl : List Value} {s md : ByteArray} {at_ cs b : Nat} {w : World}
theorem take_end (h : Scn T tl s s.size md cs b w) (hs : s.size ≤ 400) :
    Calls Tryz.prog 71 #[.pointer (some ⟨b, 0, none⟩)] w fun e w' => e = .returned (.tuple #[.int .u8 0, .bool false]) ∧ ∃ q, w' = w.drewN q := by
  have c0 := h.c0; have c1 := h.c1
  clear h
  go_enter Tryz.func71, Tryz.ntmps71
  go_wp2
  go_quiet (fail)
  go_wp2
  go_ret2
  exact ⟨rfl, _, rfl⟩
theorem Scn.step (h : Scn T tl s at_ md cs b w) : Scn T tl s (at_ + 1) md cs b (w.setCell ⟨b, 1, none⟩ (.int .i64 ((at_ : Int) + 1))) := h.set1 (at_ + 1)
theorem Scn.add (h : Scn T tl s at_ md cs b w) (n : Nat) : Scn T tl s (at_ + n) md cs b (w.setCell ⟨b, 1, none⟩ (.int .i64 ((at_ : Int) + (n : Int)))) := h.set1 (at_ + n)
theorem take_one (h : Scn T tl s at_ md cs b w) (hs : s.size ≤ 400) (ha : at_ < s.size) :
    Calls Tryz.prog 71 #[.pointer (some ⟨b, 0, none⟩)] w fun e w' => e = .returned (.tuple #[.int .u8 (byteAt s at_), .bool true]) ∧ Fr (On b) w w' ∧ Scn T tl s (at_ + 1) md cs b w' := by
  have HB : Hid (byteAt s at_ = (s[at_]).toNat) := byteAt_eq s at_ ha
  have HF : Hid (∀ q r, Fr (On b) w (((w.drewN q).setCell ⟨b, 1, none⟩ (.int .i64 ((at_ : Int) + 1))).drewN r) ∧ Scn T tl s (at_ + 1) md cs b (((w.drewN q).setCell ⟨b, 1, none⟩ (.int .i64 ((at_ : Int) + 1))).drewN r)) := fun q r =>
    ⟨((Fr.drewN _ w q).trans (fr_set _ _ _ _)).trans (Fr.drewN _ _ r), (h.drewN q).step.drewN r⟩
  have c0 := h.c0; have c1 := h.c1; have f1 := h.fz 1
  have hne : ((at_ : Int) == (s.size : Int)) = false := by simp; omega
  clear h
  go_enter Tryz.func71, Tryz.ntmps71
  go_wp2
  go_quiet (fail)
  go_wp2
  go_quiet (fail)
  go_wp2
  go_ret2
  exact ⟨by rw [HB.out]; rfl, HF.out _ _⟩
/-- Does the text 't' come at a place? -/
def pfx (s : ByteArray) (k : Nat) (t : ByteArray) : Bool := Lib.hasPrefix (s.data.toList.drop k) t.data.toList
theorem skip_any (h : Scn T tl s at_ md cs b w) (hs : s.size ≤ 400) (ha : at_ ≤ s.size) (t : ByteArray) (ht : t.size ≤ 400) (y : Bool) (hy : pfx s at_ t = y) :
    Calls Tryz.prog 92 #[.pointer (some ⟨b, 0, none⟩), .string t] w fun e w' => e = .returned (.bool y) ∧ Fr (On b) w w' ∧ Scn T tl s (if y then at_ + t.size else at_) md cs b w' := by
  have HF : Hid (∀ q, (Fr (On b) w ((w.drewN q).setCell ⟨b, 1, none⟩ (.int .i64 ((at_ : Int) + (t.size : Int)))) ∧ Scn T tl s (at_ + t.size) md cs b ((w.drewN q).setCell ⟨b, 1, none⟩ (.int .i64 ((at_ : Int) + (t.size : Int))))) ∧ (Fr (On b) w (w.drewN q) ∧ Scn T tl s at_ md cs b (w.drewN q))) := fun q =>
    ⟨⟨(Fr.drewN _ w q).trans (fr_set _ _ _ _), (h.drewN q).add t.size⟩, Fr.drewN _ w q, h.drewN q⟩
  have HY : Hid (Lib.hasPrefix (List.take (s.size - at_) (List.drop at_ s.data.toList)) t.data.toList = y) := by
    show Lib.hasPrefix (List.take (s.size - at_) (List.drop at_ s.data.toList)) t.data.toList = y
    rw [List.take_of_length_le (by rw [List.length_drop, ← Lib.size_eq]; omega)]
    exact hy
  have c0 := h.c0; have c1 := h.c1; have f1 := h.fz 1
  clear h hy
  go_enter Tryz.func92, Tryz.ntmps92
  go_wp2
  go_quiet ((go_at_call 68; exact Calls.quiet_of_same (hasPrefix_any _ _ _)))
  rw [HY.out]
  cases y
  · go_wp2
    go_ret
    exact ⟨rfl, (HF.out _).2⟩
  · go_wp2
    go_ret
    exact ⟨rfl, (HF.out _).1⟩
end
end Go.Proofs.YtmghdogoeehodaaGreatDoor
/- The scanner's calls escaped, token. -/
namespace Go.Proofs.YtmghdogoeehodaaGreatDoor
open Go.ChangeShapes Go.WideShapes Go.ChangeAt Go.RowKit
set_option linter.unusedVariables false
set_option linter.unusedSimpArgs false

structure Tok where
  kd : Nat
  c : Nat
  pl : Nat
deriving DecidableEq
def Tok.val (t : Tok) : Value := .agg #[.int .u8 t.kd, .int .u8 t.c, .int .i64 t.pl]
def mdV : ByteArray := ⟨#[94, 36, 46, 42, 91, 126, 43, 61, 63, 123, 40, 41, 124, 60, 62]⟩
/-- What is wrong, and where: the panic's value. -/
def Wrong (n a : Nat) : Ending := .panicked [{ v := .iface 61 (.agg #[.int .u16 n, .int .i64 a]), recovered := false }]
def escTok (s : ByteArray) (k : Nat) (md : ByteArray) (pl : Nat) : Tok :=
  ⟨if amo (byteAt s k) md then 1 else if amo (byteAt s k) mdV then 2 else if letB (byteAt s k) then 3 else if digB (byteAt s k) then 3 else 1, byteAt s k, pl⟩
/-- A token in a block of its own. -/
def TokBox (n : Nat) (t : Tok) (w : World) : Prop := w.heap[n]? = some (.cells #[.int .u8 t.kd, .int .u8 t.c, .int .i64 t.pl] 78 (0, 0))
theorem TokBox.cells {n : Nat} {t : Tok} {w : World} (h : TokBox n t w) : (w.cell? ⟨n, 0, none⟩ = some (.int .u8 t.kd) ∧ w.cell? ⟨n, 1, none⟩ = some (.int .u8 t.c) ∧ w.cell? ⟨n, 2, none⟩ = some (.int .i64 t.pl)) ∧ w.frozen? ⟨n, 0, none⟩ = false ∧ w.frozen? ⟨n, 1, none⟩ = false ∧ w.frozen? ⟨n, 2, none⟩ = false := by
  unfold TokBox at h
  exact ⟨⟨by simp [World.cell?, h], by simp [World.cell?, h], by simp [World.cell?, h]⟩, by simp [World.frozen?, h], by simp [World.frozen?, h], by simp [World.frozen?, h]⟩
theorem TokBox.put {n : Nat} {t : Tok} {w : World} (h : TokBox n t w) (a b c : Value) : (w.setCell ⟨n, 0, none⟩ a).cell? ⟨n, 0, none⟩ = some a ∧ ((w.setCell ⟨n, 0, none⟩ a).setCell ⟨n, 1, none⟩ b).cell? ⟨n, 1, none⟩ = some b ∧ (((w.setCell ⟨n, 0, none⟩ a).setCell ⟨n, 1, none⟩ b).setCell ⟨n, 2, none⟩ c).cell? ⟨n, 2, none⟩ = some c ∧
    (((w.setCell ⟨n, 0, none⟩ a).setCell ⟨n, 1, none⟩ b).setCell ⟨n, 2, none⟩ c).heap[n]? = some (.cells #[a, b, c] 78 (0, 0)) := by
  have h0 := heap_setCell (off := 0) (v := a) h
  have h1 := heap_setCell (off := 1) (v := b) h0
  have h2 := heap_setCell (off := 2) (v := c) h1
  exact ⟨by simp only [World.cell?, h0]; rfl, by simp only [World.cell?, h1]; rfl, by simp only [World.cell?, h2]; rfl, h2⟩
theorem TokBox.new (w : World) : TokBox w.heap.size ⟨0, 0, 0⟩ (w.alloc (.cells #[.int .u8 0, .int .u8 0, .int .i64 0] 78)) := alloc_new w _
theorem TokBox.fr {n b : Nat} {t : Tok} {w w' : World} (h : TokBox n t w) (k : Fr (On b) w w') (hn : n ≠ b) : TokBox n t w' := by
  unfold TokBox at *
  rw [k.block n (Array.getElem?_eq_some_iff.1 h).1 hn]; exact h
theorem TokBox.kp {n : Nat} {t : Tok} {w w' : World} (h : TokBox n t w) (k : Kp w w') : TokBox n t w' := by
  unfold TokBox at *
  rw [k.block n (Array.getElem?_eq_some_iff.1 h).1]; exact h
section
variable {T : TypeId} {tl : List Value} {s md : ByteArray} {at_ cs b : Nat} {w : World}
theorem escaped_no (h : Scn T tl s s.size md cs b w) (hs : s.size ≤ 400) (pl : Nat) :
    Calls Tryz.prog 72 #[.pointer (some ⟨b, 0, none⟩), .int .i64 pl] w fun e w' => e = Wrong 30 pl ∧ Fr (On b) w w' := by
  have HT : Hid (∀ ob, Calls Tryz.prog 71 #[.pointer (some ⟨b, 0, none⟩)] (w.alloc ob) fun e w' => e = .returned (.tuple #[.int .u8 0, .bool false]) ∧ ∃ q, w' = (w.alloc ob).drewN q) := fun ob => take_end (h.kp (kp_alloc w ob)) hs
  unfold Wrong
  clear h
  go_enter Tryz.func72, Tryz.ntmps72
  go_wp2_with fail
  refine (HT.out _).mono ?_
  rintro e w1 ⟨rfl, q, rfl⟩
  go_wp2_with fail
  exact ⟨rfl, rfl, (Fr.alloc _ w _).trans (Fr.drewN _ _ _)⟩
theorem isB_a (c : Int) : isB 97 c = letB c := by simp [isB, smI, grtB, bt, knB, clsB]
theorem isB_d (c : Int) : isB 100 c = digB c := by simp [isB, smI, grtB, bt, knB, clsB]
theorem is_a (c : Int) (w : World) : Calls Tryz.prog 90 #[.int .u8 97, .int .u8 c] w fun e w' => e = .returned (.bool (letB c)) ∧ Kp w w' := by rw [← isB_a]; exact kIs_any 97 c w
theorem is_d (c : Int) (w : World) : Calls Tryz.prog 90 #[.int .u8 100, .int .u8 c] w fun e w' => e = .returned (.bool (digB c)) ∧ Kp w w' := by rw [← isB_d]; exact kIs_any 100 c w
theorem escaped_ok (h : Scn T tl s at_ md cs b w) (hs : s.size ≤ 400) (ha : at_ < s.size) (pl : Nat) :
    Calls Tryz.prog 72 #[.pointer (some ⟨b, 0, none⟩), .int .i64 pl] w fun e w' => e = .returned (escTok s at_ md pl).val ∧ Fr (On b) w w' ∧ Scn T tl s (at_ + 1) md cs b w' := by
  have HT : Hid (∀ ob, Calls Tryz.prog 71 #[.pointer (some ⟨b, 0, none⟩)] (w.alloc ob) fun e w' => e = .returned (.tuple #[.int .u8 (byteAt s at_), .bool true]) ∧ Fr (On b) (w.alloc ob) w' ∧ Scn T tl s (at_ + 1) md cs b w') := fun ob => take_one (h.kp (kp_alloc w ob)) hs ha
  unfold escTok
  generalize byteAt s at_ = c at *
  have hne : w.heap.size ≠ b := Nat.ne_of_gt h.lt
  clear h
  have hm : mdV = ⟨#[94, 36, 46, 42, 91, 126, 43, 61, 63, 123, 40, 41, 124, 60, 62]⟩ := rfl
  rw [hm]
  clear hm
  cases h1 : amo c md with
  | true =>
    go_enter Tryz.func72, Tryz.ntmps72
    go_wp2_with fail
    refine (HT.out _).mono ?_
    rintro e w1 ⟨rfl, q1, q2⟩
    have c2 := q2.c2
    have HQ : Hid (∀ w2, Kp w1 w2 → Fr (On b) w w2 ∧ Scn T tl s (at_ + 1) md cs b w2) := fun w2 k => ⟨q1.frAlloc.trans (Fr.of_below k), q2.kp k⟩
    have HX : Hid (∀ w2, Kp w1 w2 → TokBox w.heap.size ⟨0, 0, 0⟩ w2) := fun w2 k => ((TokBox.new w).fr q1 hne).kp k
    obtain ⟨⟨r0, r1, r2⟩, z0, z1, z2⟩ := (HX.out w1 (Below.refl _ _)).cells
    clear q1 q2
    go_wp2_with (go_at_call 43; refine (among_any _ _ _).mono ?_; rintro e _ ⟨rfl, rfl⟩)
    have HE := HQ.out _ (Below.refl _ _)
    obtain ⟨e0, e1, e2, _⟩ := (HX.out _ (Below.refl _ _)).put (.int .u8 1) (.int .u8 c) (.int .i64 pl)
    exact bodyPost_ret (v := .agg #[.int .u8 1, .int .u8 c, .int .i64 pl]) (by simp [results, Tryz.results72, go_sem, e0, e1, e2]) rfl ⟨rfl, ((HE.1.new (Nat.le_refl _)).new (Nat.le_refl _)).new (Nat.le_refl _), ((HE.2.other hne).other hne).other hne⟩
  | false =>
    cases h2 : amo c ⟨#[94, 36, 46, 42, 91, 126, 43, 61, 63, 123, 40, 41, 124, 60, 62]⟩ with
    | true =>
      go_enter Tryz.func72, Tryz.ntmps72
      go_wp2_with fail
      refine (HT.out _).mono ?_
      rintro e w1 ⟨rfl, q1, q2⟩
      have c2 := q2.c2
      have HQ : Hid (∀ w2, Kp w1 w2 → Fr (On b) w w2 ∧ Scn T tl s (at_ + 1) md cs b w2) := fun w2 k => ⟨q1.frAlloc.trans (Fr.of_below k), q2.kp k⟩
      have HX : Hid (∀ w2, Kp w1 w2 → TokBox w.heap.size ⟨0, 0, 0⟩ w2) := fun w2 k => ((TokBox.new w).fr q1 hne).kp k
      obtain ⟨⟨r0, r1, r2⟩, z0, z1, z2⟩ := (HX.out w1 (Below.refl _ _)).cells
      clear q1 q2
      go_wp2_with (go_at_call 43; refine (among_any _ _ _).mono ?_; rintro e _ ⟨rfl, rfl⟩)
      have HE := HQ.out _ (Below.refl _ _)
      obtain ⟨e0, e1, e2, _⟩ := (HX.out _ (Below.refl _ _)).put (.int .u8 2) (.int .u8 c) (.int .i64 pl)
      exact bodyPost_ret (v := .agg #[.int .u8 2, .int .u8 c, .int .i64 pl]) (by simp [results, Tryz.results72, go_sem, e0, e1, e2]) rfl ⟨rfl, ((HE.1.new (Nat.le_refl _)).new (Nat.le_refl _)).new (Nat.le_refl _), ((HE.2.other hne).other hne).other hne⟩
    | false =>
      cases h3 : letB c with
      | true =>
        go_enter Tryz.func72, Tryz.ntmps72
        go_wp2_with fail
        refine (HT.out _).mono ?_
        rintro e w1 ⟨rfl, q1, q2⟩
        have c2 := q2.c2
        have HQ : Hid (∀ w2, Kp w1 w2 → Fr (On b) w w2 ∧ Scn T tl s (at_ + 1) md cs b w2) := fun w2 k => ⟨q1.frAlloc.trans (Fr.of_below k), q2.kp k⟩
        have HX : Hid (∀ w2, Kp w1 w2 → TokBox w.heap.size ⟨0, 0, 0⟩ w2) := fun w2 k => ((TokBox.new w).fr q1 hne).kp k
        obtain ⟨⟨r0, r1, r2⟩, z0, z1, z2⟩ := (HX.out w1 (Below.refl _ _)).cells
        clear q1 q2
        go_wp2_with (go_at_call 43; refine (among_any _ _ _).mono ?_; rintro e _ ⟨rfl, rfl⟩)
        refine (is_a _ _).mono ?_
        rintro e w2 ⟨rfl, k2⟩
        rw [h3]
        obtain ⟨⟨r0, r1, r2⟩, z0, z1, z2⟩ := (HX.out w2 k2).cells
        have K2 : Hid (Kp _ w2) := k2
        clear k2
        go_wp2_with fail
        have HE := HQ.out _ K2.out
        obtain ⟨e0, e1, e2, _⟩ := (HX.out _ K2.out).put (.int .u8 3) (.int .u8 c) (.int .i64 pl)
        exact bodyPost_ret (v := .agg #[.int .u8 3, .int .u8 c, .int .i64 pl]) (by simp [results, Tryz.results72, go_sem, e0, e1, e2]) rfl ⟨rfl, ((HE.1.new (Nat.le_refl _)).new (Nat.le_refl _)).new (Nat.le_refl _), ((HE.2.other hne).other hne).other hne⟩
      | false =>
        cases h4 : digB c with
        | true =>
          go_enter Tryz.func72, Tryz.ntmps72
          go_wp2_with fail
          refine (HT.out _).mono ?_
          rintro e w1 ⟨rfl, q1, q2⟩
          have c2 := q2.c2
          have HQ : Hid (∀ w2, Kp w1 w2 → Fr (On b) w w2 ∧ Scn T tl s (at_ + 1) md cs b w2) := fun w2 k => ⟨q1.frAlloc.trans (Fr.of_below k), q2.kp k⟩
          have HX : Hid (∀ w2, Kp w1 w2 → TokBox w.heap.size ⟨0, 0, 0⟩ w2) := fun w2 k => ((TokBox.new w).fr q1 hne).kp k
          obtain ⟨⟨r0, r1, r2⟩, z0, z1, z2⟩ := (HX.out w1 (Below.refl _ _)).cells
          clear q1 q2
          go_wp2_with (go_at_call 43; refine (among_any _ _ _).mono ?_; rintro e _ ⟨rfl, rfl⟩)
          refine (is_a _ _).mono ?_
          rintro e w2 ⟨rfl, k2⟩
          rw [h3]
          obtain ⟨⟨r0, r1, r2⟩, z0, z1, z2⟩ := (HX.out w2 k2).cells
          have K2 : Hid (Kp _ w2) := k2
          clear k2
          go_wp2_with fail
          refine (is_d _ _).mono ?_
          rintro e w3 ⟨rfl, k3⟩
          rw [h4]
          obtain ⟨⟨r0, r1, r2⟩, z0, z1, z2⟩ := (HX.out w3 (kp_trans K2.out k3)).cells
          have K3 : Hid (Kp _ w3) := kp_trans K2.out k3
          clear k3
          go_wp2_with fail
          have HE := HQ.out _ K3.out
          obtain ⟨e0, e1, e2, _⟩ := (HX.out _ K3.out).put (.int .u8 3) (.int .u8 c) (.int .i64 pl)
          exact bodyPost_ret (v := .agg #[.int .u8 3, .int .u8 c, .int .i64 pl]) (by simp [results, Tryz.results72, go_sem, e0, e1, e2]) rfl ⟨rfl, ((HE.1.new (Nat.le_refl _)).new (Nat.le_refl _)).new (Nat.le_refl _), ((HE.2.other hne).other hne).other hne⟩
        | false =>
          go_enter Tryz.func72, Tryz.ntmps72
          go_wp2_with fail
          refine (HT.out _).mono ?_
          rintro e w1 ⟨rfl, q1, q2⟩
          have c2 := q2.c2
          have HQ : Hid (∀ w2, Kp w1 w2 → Fr (On b) w w2 ∧ Scn T tl s (at_ + 1) md cs b w2) := fun w2 k => ⟨q1.frAlloc.trans (Fr.of_below k), q2.kp k⟩
          have HX : Hid (∀ w2, Kp w1 w2 → TokBox w.heap.size ⟨0, 0, 0⟩ w2) := fun w2 k => ((TokBox.new w).fr q1 hne).kp k
          obtain ⟨⟨r0, r1, r2⟩, z0, z1, z2⟩ := (HX.out w1 (Below.refl _ _)).cells
          clear q1 q2
          go_wp2_with (go_at_call 43; refine (among_any _ _ _).mono ?_; rintro e _ ⟨rfl, rfl⟩)
          refine (is_a _ _).mono ?_
          rintro e w2 ⟨rfl, k2⟩
          rw [h3]
          obtain ⟨⟨r0, r1, r2⟩, z0, z1, z2⟩ := (HX.out w2 k2).cells
          have K2 : Hid (Kp _ w2) := k2
          clear k2
          go_wp2_with fail
          refine (is_d _ _).mono ?_
          rintro e w3 ⟨rfl, k3⟩
          rw [h4]
          obtain ⟨⟨r0, r1, r2⟩, z0, z1, z2⟩ := (HX.out w3 (kp_trans K2.out k3)).cells
          have K3 : Hid (Kp _ w3) := kp_trans K2.out k3
          clear k3
          go_wp2_with fail
          have HE := HQ.out _ K3.out
          obtain ⟨e0, e1, e2, _⟩ := (HX.out _ K3.out).put (.int .u8 1) (.int .u8 c) (.int .i64 pl)
          exact bodyPost_ret (v := .agg #[.int .u8 1, .int .u8 c, .int .i64 pl]) (by simp [results, Tryz.results72, go_sem, e0, e1, e2]) rfl ⟨rfl, ((HE.1.new (Nat.le_refl _)).new (Nat.le_refl _)).new (Nat.le_refl _), ((HE.2.other hne).other hne).other hne⟩
end
end Go.Proofs.YtmghdogoeehodaaGreatDoor
/- The scanner's calls token, obey, next, peek; a token's isSign, endsBranch. -/
namespace Go.Proofs.YtmghdogoeehodaaGreatDoor
open Go.ChangeShapes Go.WideShapes Go.ChangeAt Go.RowKit
set_option linter.unusedVariables false
set_option linter.unusedSimpArgs false

def tokOf (s md : ByteArray) (k : Nat) : Option (Tok × Nat) :=
  if k < s.size then
    if byteAt s k = 92 then
      if k + 1 < s.size then some (escTok s (k + 1) md k, k + 2) else none
    else some (⟨if amo (byteAt s k) md then 2 else 1, byteAt s k, k⟩, k + 1)
  else some (⟨0, 0, k⟩, k)
section
variable {T : TypeId} {tl : List Value} {s md : ByteArray} {at_ cs b : Nat} {w : World}
theorem token_end (h : Scn T tl s at_ md cs b w) (hs : s.size ≤ 400) (he : at_ = s.size) :
    Calls Tryz.prog 54 #[.pointer (some ⟨b, 0, none⟩)] w fun e w' => e = .returned (Tok.val ⟨0, 0, at_⟩) ∧ Fr (On b) w w' ∧ Scn T tl s at_ md cs b w' := by
  have HT : Hid (∀ ob, Calls Tryz.prog 71 #[.pointer (some ⟨b, 0, none⟩)] (w.alloc ob) fun e w' => e = .returned (.tuple #[.int .u8 0, .bool false]) ∧ ∃ q, w' = (w.alloc ob).drewN q) := fun ob => by subst he; exact take_end (h.kp (kp_alloc w ob)) hs
  have HQ : Hid (∀ ob q, Fr (On b) w ((w.alloc ob).drewN q) ∧ Scn T tl s at_ md cs b ((w.alloc ob).drewN q)) := fun ob q => ⟨(Fr.alloc _ w ob).trans (Fr.drewN _ _ q), (h.kp (kp_alloc w ob)).drewN q⟩
  have HX : Hid (∀ q, TokBox w.heap.size ⟨0, 0, 0⟩ ((w.alloc (.cells #[.int .u8 0, .int .u8 0, .int .i64 0] 78)).drewN q)) := fun q => (TokBox.new w).kp (kp_drewN _ q)
  have c1 := h.c1
  have hne : w.heap.size ≠ b := Nat.ne_of_gt h.lt
  have c1' : ∀ ob, (w.alloc ob).cell? ⟨b, 1, none⟩ = some (.int .i64 at_) := fun ob => (h.kp (kp_alloc w ob)).c1
  clear h he
  go_enter Tryz.func54, Tryz.ntmps54
  go_wp2_with fail
  refine (HT.out _).mono ?_
  rintro e w1 ⟨rfl, q, rfl⟩
  obtain ⟨⟨r0, r1, r2⟩, z0, z1, z2⟩ := (HX.out q).cells
  go_wp2_with fail
  have HE := HQ.out (.cells #[.int .u8 0, .int .u8 0, .int .i64 0] 78) q
  obtain ⟨e0, e1, e2, _⟩ := (HX.out q).put (.int .u8 0) (.int .u8 0) (.int .i64 at_)
  exact bodyPost_ret (v := .agg #[.int .u8 0, .int .u8 0, .int .i64 at_]) (by simp [results, Tryz.results54, go_sem, e0, e1, e2]) rfl ⟨rfl, ((HE.1.new (Nat.le_refl _)).new (Nat.le_refl _)).new (Nat.le_refl _), ((HE.2.other hne).other hne).other hne⟩
theorem token_byte (h : Scn T tl s at_ md cs b w) (hs : s.size ≤ 400) (ha : at_ < s.size) (hc : byteAt s at_ ≠ 92) :
    Calls Tryz.prog 54 #[.pointer (some ⟨b, 0, none⟩)] w fun e w' => e = .returned (Tok.val ⟨if amo (byteAt s at_) md then 2 else 1, byteAt s at_, at_⟩) ∧ Fr (On b) w w' ∧ Scn T tl s (at_ + 1) md cs b w' := by
  have HT : Hid (∀ ob, Calls Tryz.prog 71 #[.pointer (some ⟨b, 0, none⟩)] (w.alloc ob) fun e w' => e = .returned (.tuple #[.int .u8 (byteAt s at_), .bool true]) ∧ Fr (On b) (w.alloc ob) w' ∧ Scn T tl s (at_ + 1) md cs b w') := fun ob => take_one (h.kp (kp_alloc w ob)) hs ha
  have c1 := h.c1
  have hne : w.heap.size ≠ b := Nat.ne_of_gt h.lt
  have c1' : ∀ ob, (w.alloc ob).cell? ⟨b, 1, none⟩ = some (.int .i64 at_) := fun ob => (h.kp (kp_alloc w ob)).c1
  generalize byteAt s at_ = c at *
  have hd : ((c : Int) == 92) = false := by simp; omega
  clear h hc
  cases h1 : amo c md with
  | true =>
    go_enter Tryz.func54, Tryz.ntmps54
    go_wp2_with fail
    refine (HT.out _).mono ?_
    rintro e w1 ⟨rfl, q1, q2⟩
    have c2 := q2.c2
    have HQ : Hid (Fr (On b) w w1 ∧ Scn T tl s (at_ + 1) md cs b w1 ∧ TokBox w.heap.size ⟨0, 0, 0⟩ w1) := ⟨q1.frAlloc, q2, (TokBox.new w).fr q1 hne⟩
    obtain ⟨⟨r0, r1, r2⟩, z0, z1, z2⟩ := HQ.out.2.2.cells
    clear q1 q2
    go_wp2_with (go_at_call 43; refine (among_any _ _ _).mono ?_; rintro e _ ⟨rfl, rfl⟩)
    obtain ⟨e0, e1, e2, _⟩ := HQ.out.2.2.put (.int .u8 2) (.int .u8 c) (.int .i64 at_)
    exact bodyPost_ret (v := .agg #[.int .u8 2, .int .u8 c, .int .i64 at_]) (by simp [results, Tryz.results54, go_sem, e0, e1, e2]) rfl ⟨rfl, ((HQ.out.1.new (Nat.le_refl _)).new (Nat.le_refl _)).new (Nat.le_refl _), ((HQ.out.2.1.other hne).other hne).other hne⟩
  | false =>
    go_enter Tryz.func54, Tryz.ntmps54
    go_wp2_with fail
    refine (HT.out _).mono ?_
    rintro e w1 ⟨rfl, q1, q2⟩
    have c2 := q2.c2
    have HQ : Hid (Fr (On b) w w1 ∧ Scn T tl s (at_ + 1) md cs b w1 ∧ TokBox w.heap.size ⟨0, 0, 0⟩ w1) := ⟨q1.frAlloc, q2, (TokBox.new w).fr q1 hne⟩
    obtain ⟨⟨r0, r1, r2⟩, z0, z1, z2⟩ := HQ.out.2.2.cells
    clear q1 q2
    go_wp2_with (go_at_call 43; refine (among_any _ _ _).mono ?_; rintro e _ ⟨rfl, rfl⟩)
    obtain ⟨e0, e1, e2, _⟩ := HQ.out.2.2.put (.int .u8 1) (.int .u8 c) (.int .i64 at_)
    exact bodyPost_ret (v := .agg #[.int .u8 1, .int .u8 c, .int .i64 at_]) (by simp [results, Tryz.results54, go_sem, e0, e1, e2]) rfl ⟨rfl, ((HQ.out.1.new (Nat.le_refl _)).new (Nat.le_refl _)).new (Nat.le_refl _), ((HQ.out.2.1.other hne).other hne).other hne⟩
theorem token_esc (h : Scn T tl s at_ md cs b w) (hs : s.size ≤ 400) (ha : at_ + 1 < s.size) (hc : byteAt s at_ = 92) :
    Calls Tryz.prog 54 #[.pointer (some ⟨b, 0, none⟩)] w fun e w' => e = .returned (escTok s (at_ + 1) md at_).val ∧ Fr (On b) w w' ∧ Scn T tl s (at_ + 2) md cs b w' := by
  have HT : Hid (∀ ob, Calls Tryz.prog 71 #[.pointer (some ⟨b, 0, none⟩)] (w.alloc ob) fun e w' => e = .returned (.tuple #[.int .u8 (byteAt s at_), .bool true]) ∧ Fr (On b) (w.alloc ob) w' ∧ Scn T tl s (at_ + 1) md cs b w') := fun ob => take_one (h.kp (kp_alloc w ob)) hs (by omega)
  have c1 := h.c1
  have hne : w.heap.size ≠ b := Nat.ne_of_gt h.lt
  have c1' : ∀ ob, (w.alloc ob).cell? ⟨b, 1, none⟩ = some (.int .i64 at_) := fun ob => (h.kp (kp_alloc w ob)).c1
  rw [hc] at HT
  have HE : Hid (∀ w1, Scn T tl s (at_ + 1) md cs b w1 → Calls Tryz.prog 72 #[.pointer (some ⟨b, 0, none⟩), .int .i64 at_] w1 fun e w' => e = .returned (escTok s (at_ + 1) md at_).val ∧ Fr (On b) w1 w' ∧ Scn T tl s (at_ + 2) md cs b w') := fun w1 q => escaped_ok q hs ha at_
  generalize escTok s (at_ + 1) md at_ = t at *
  obtain ⟨kd, c, pl⟩ := t
  unfold Tok.val at *
  simp only at *
  clear h hc
  go_enter Tryz.func54, Tryz.ntmps54
  go_wp2_with fail
  refine (HT.out _).mono ?_
  rintro e w1 ⟨rfl, q1, q2⟩
  have HQ : Hid (Fr (On b) w w1 ∧ Scn T tl s (at_ + 1) md cs b w1 ∧ TokBox w.heap.size ⟨0, 0, 0⟩ w1) := ⟨q1.frAlloc, q2, (TokBox.new w).fr q1 hne⟩
  clear q1 q2
  go_wp2_with fail
  refine (HE.out _ HQ.out.2.1).mono ?_
  rintro e w2 ⟨rfl, q1, q2⟩
  have HQ2 : Hid (Fr (On b) w w2 ∧ Scn T tl s (at_ + 2) md cs b w2 ∧ TokBox w.heap.size ⟨0, 0, 0⟩ w2) := ⟨HQ.out.1.trans q1, q2, HQ.out.2.2.fr q1 hne⟩
  obtain ⟨⟨r0, r1, r2⟩, z0, z1, z2⟩ := HQ2.out.2.2.cells
  clear q1 q2
  go_wp2_with fail
  obtain ⟨e0, e1, e2, _⟩ := HQ2.out.2.2.put (.int .u8 kd) (.int .u8 c) (.int .i64 pl)
  exact bodyPost_ret (v := .agg #[.int .u8 kd, .int .u8 c, .int .i64 pl]) (by simp [results, Tryz.results54, go_sem, e0, e1, e2]) rfl ⟨rfl, ((HQ2.out.1.new (Nat.le_refl _)).new (Nat.le_refl _)).new (Nat.le_refl _), ((HQ2.out.2.1.other hne).other hne).other hne⟩
theorem token_no (h : Scn T tl s at_ md cs b w) (hs : s.size ≤ 400) (ha : at_ + 1 = s.size) (hc : byteAt s at_ = 92) :
    Calls Tryz.prog 54 #[.pointer (some ⟨b, 0, none⟩)] w fun e w' => e = Wrong 30 at_ ∧ Fr (On b) w w' := by
  have HT : Hid (∀ ob, Calls Tryz.prog 71 #[.pointer (some ⟨b, 0, none⟩)] (w.alloc ob) fun e w' => e = .returned (.tuple #[.int .u8 (byteAt s at_), .bool true]) ∧ Fr (On b) (w.alloc ob) w' ∧ Scn T tl s (at_ + 1) md cs b w') := fun ob => take_one (h.kp (kp_alloc w ob)) hs (by omega)
  have c1 := h.c1
  have hne : w.heap.size ≠ b := Nat.ne_of_gt h.lt
  have c1' : ∀ ob, (w.alloc ob).cell? ⟨b, 1, none⟩ = some (.int .i64 at_) := fun ob => (h.kp (kp_alloc w ob)).c1
  rw [hc] at HT
  have HE : Hid (∀ w1, Scn T tl s (at_ + 1) md cs b w1 → Calls Tryz.prog 72 #[.pointer (some ⟨b, 0, none⟩), .int .i64 at_] w1 fun e w' => e = Wrong 30 at_ ∧ Fr (On b) w1 w') := fun w1 q => escaped_no (by rw [ha] at q; exact q) hs at_
  unfold Wrong at *
  clear h hc
  go_enter Tryz.func54, Tryz.ntmps54
  go_wp2_with fail
  refine (HT.out _).mono ?_
  rintro e w1 ⟨rfl, q1, q2⟩
  have HQ : Hid (Fr (On b) w w1 ∧ Scn T tl s (at_ + 1) md cs b w1) := ⟨q1.frAlloc, q2⟩
  clear q1 q2
  go_wp2_with fail
  refine (HE.out _ HQ.out.2).mono ?_
  rintro e w2 ⟨rfl, q1⟩
  go_wp2_with fail
  exact ⟨rfl, rfl, HQ.out.1.trans q1⟩
theorem token_ok {t : Tok} {k : Nat} (h : Scn T tl s at_ md cs b w) (hs : s.size ≤ 400) (ha : at_ ≤ s.size) (ht : tokOf s md at_ = some (t, k)) :
    Calls Tryz.prog 54 #[.pointer (some ⟨b, 0, none⟩)] w fun e w' => e = .returned t.val ∧ Fr (On b) w w' ∧ Scn T tl s k md cs b w' := by
  unfold tokOf at ht
  split at ht
  · rename_i h1
    split at ht
    · rename_i h2
      split at ht
      · rename_i h3
        cases ht
        exact token_esc h hs h3 h2
      · cases ht
    · rename_i h2
      cases ht
      exact token_byte h hs h1 h2
  · cases ht
    exact token_end h hs (by omega)
theorem token_bad (h : Scn T tl s at_ md cs b w) (hs : s.size ≤ 400) (ha : at_ ≤ s.size) (ht : tokOf s md at_ = none) :
    Calls Tryz.prog 54 #[.pointer (some ⟨b, 0, none⟩)] w fun e w' => e = Wrong 30 at_ ∧ Fr (On b) w w' := by
  unfold tokOf at ht
  split at ht
  · rename_i h1
    split at ht
    · rename_i h2
      split at ht
      · cases ht
      · rename_i h3
        exact token_no h hs (by omega) h2
    · cases ht
  · cases ht
end
end Go.Proofs.YtmghdogoeehodaaGreatDoor
/- The scanner's calls obey, next, peek; a token's isSign, endsBranch. -/
namespace Go.Proofs.YtmghdogoeehodaaGreatDoor
open Go.ChangeShapes Go.WideShapes Go.ChangeAt Go.RowKit
set_option linter.unusedVariables false
set_option linter.unusedSimpArgs false

def mdM : ByteArray := ⟨#[94, 36, 46, 42, 91, 126]⟩
def mdN : ByteArray := ⟨#[94, 36]⟩
def mdO : ByteArray := ⟨#[]⟩
/-- What a letter says of mode and case. -/
def obeyF (c : Nat) (md : ByteArray) (cs : Nat) : Option (ByteArray × Nat) :=
  if c = 118 then some (mdV, cs) else if c = 109 then some (mdM, cs) else if c = 77 then some (mdN, cs) else if c = 86 then some (mdO, cs) else if c = 99 then some (md, 1) else if c = 67 then some (md, 2) else none
section
variable {T : TypeId} {tl : List Value} {s md : ByteArray} {at_ cs b : Nat} {w : World}
theorem obey_no {c : Nat} (ho : obeyF c md cs = none) (w : World) :
    Calls Tryz.prog 55 #[.pointer (some ⟨b, 0, none⟩), .int .u8 c] w fun e w' => e = .returned (.bool false) ∧ w' = w := by
  unfold obeyF at ho
  have h1 : ((c : Int) == 118) = false := by by_cases e : c = 118 <;> simp_all; omega
  have h2 : ((c : Int) == 109) = false := by by_cases e : c = 109 <;> simp_all; omega
  have h3 : ((c : Int) == 77) = false := by by_cases e : c = 77 <;> simp_all; omega
  have h4 : ((c : Int) == 86) = false := by by_cases e : c = 86 <;> simp_all; omega
  have h5 : ((c : Int) == 99) = false := by by_cases e : c = 99 <;> simp_all; omega
  have h6 : ((c : Int) == 67) = false := by by_cases e : c = 67 <;> simp_all; omega
  clear ho
  go_enter Tryz.func55, Tryz.ntmps55
  go_wp2
  go_ret
  exact ⟨rfl, rfl⟩
theorem obey_yes {c : Nat} {m' : ByteArray} {c' : Nat} (h : Scn T tl s at_ md cs b w) (ho : obeyF c md cs = some (m', c')) :
    Calls Tryz.prog 55 #[.pointer (some ⟨b, 0, none⟩), .int .u8 c] w fun e w' => e = .returned (.bool true) ∧ Fr (On b) w w' ∧ Scn T tl s at_ m' c' b w' := by
  have c2 := h.c2; have c3 := h.c3; have f2 := h.fz 2; have f3 := h.fz 3
  have H2 : Hid (∀ m', Fr (On b) w (w.setCell ⟨b, 2, none⟩ (.string m')) ∧ Scn T tl s at_ m' cs b (w.setCell ⟨b, 2, none⟩ (.string m'))) := fun m' => ⟨fr_set _ _ _ _, h.set2 m'⟩
  have H3 : Hid (∀ c' : Nat, Fr (On b) w (w.setCell ⟨b, 3, none⟩ (.int .u8 c')) ∧ Scn T tl s at_ md c' b (w.setCell ⟨b, 3, none⟩ (.int .u8 c'))) := fun c' => ⟨fr_set _ _ _ _, h.set3 c'⟩
  clear h
  unfold obeyF at ho
  by_cases hc : c = 118
  · rw [if_pos hc] at ho
    cases ho
    subst hc
    go_enter Tryz.func55, Tryz.ntmps55
    go_wp2
    go_ret
    exact ⟨rfl, H2.out _⟩
  rw [if_neg hc] at ho
  clear hc
  by_cases hc : c = 109
  · rw [if_pos hc] at ho
    cases ho
    subst hc
    go_enter Tryz.func55, Tryz.ntmps55
    go_wp2
    go_ret
    exact ⟨rfl, H2.out _⟩
  rw [if_neg hc] at ho
  clear hc
  by_cases hc : c = 77
  · rw [if_pos hc] at ho
    cases ho
    subst hc
    go_enter Tryz.func55, Tryz.ntmps55
    go_wp2
    go_ret
    exact ⟨rfl, H2.out _⟩
  rw [if_neg hc] at ho
  clear hc
  by_cases hc : c = 86
  · rw [if_pos hc] at ho
    cases ho
    subst hc
    go_enter Tryz.func55, Tryz.ntmps55
    go_wp2
    go_ret
    exact ⟨rfl, H2.out _⟩
  rw [if_neg hc] at ho
  clear hc
  by_cases hc : c = 99
  · rw [if_pos hc] at ho
    cases ho
    subst hc
    go_enter Tryz.func55, Tryz.ntmps55
    go_wp2
    go_ret
    exact ⟨rfl, H3.out 1⟩
  rw [if_neg hc] at ho
  clear hc
  by_cases hc : c = 67
  · rw [if_pos hc] at ho
    cases ho
    subst hc
    go_enter Tryz.func55, Tryz.ntmps55
    go_wp2
    go_ret
    exact ⟨rfl, H3.out 2⟩
  rw [if_neg hc] at ho
  clear hc
  cases ho
theorem isSign_any (t : Tok) (c : Nat) (w : World) : Calls Tryz.prog 33 #[t.val, .int .u8 c] w fun e w' => e = .returned (.bool (decide (t.kd = 2 ∧ t.c = c))) ∧ Kp w w' := by
  obtain ⟨kd, d, pl⟩ := t
  unfold Tok.val
  by_cases h1 : kd = 2
  · have h2 : ((kd : Int) == 2) = true := by simp; omega
    rw [show decide (kd = 2 ∧ d = c) = ((d : Int) == (c : Int)) by by_cases e : d = c <;> simp [h1, e]; omega]
    clear h1
    go_enter Tryz.func33, Tryz.ntmps33
    go_wp2
    go_ret
    exact ⟨rfl, kp_alloc w _⟩
  · have h2 : ((kd : Int) == 2) = false := by simp; omega
    rw [show decide (kd = 2 ∧ d = c) = false by simp [h1]]
    clear h1
    go_enter Tryz.func33, Tryz.ntmps33
    go_wp2
    go_ret
    exact ⟨rfl, kp_alloc w _⟩
/-- No piece of the branch comes any more. -/
def Tok.ends (t : Tok) : Bool := decide (t.kd = 0) || (decide (t.kd = 2 ∧ t.c = 124) || decide (t.kd = 2 ∧ t.c = 41))
theorem ends_any (t : Tok) (w : World) : Calls Tryz.prog 42 #[t.val] w fun e w' => e = .returned (.bool t.ends) ∧ Kp w w' := by
  have HS : Hid (∀ c : Nat, ∀ w, Calls Tryz.prog 33 #[t.val, .int .u8 c] w fun e w' => e = .returned (.bool (decide (t.kd = 2 ∧ t.c = c))) ∧ Kp w w') := fun c w => isSign_any t c w
  unfold Tok.ends
  obtain ⟨kd, d, pl⟩ := t
  unfold Tok.val at *
  simp only at *
  have HB : Hid (∀ w1, Kp (w.alloc (.cells #[.int .u8 kd, .int .u8 d, .int .i64 pl] 78)) w1 → TokBox w.heap.size ⟨kd, d, pl⟩ w1) := fun w1 k => TokBox.kp (t := ⟨kd, d, pl⟩) (alloc_new w _) k
  by_cases h0 : kd = 0
  · have h2 : ((kd : Int) == 0) = true := by simp; omega
    rw [show decide (kd = 0) = true by simp [h0]]
    clear h0
    go_enter Tryz.func42, Tryz.ntmps42
    go_wp2
    go_ret
    exact ⟨rfl, kp_alloc w _⟩
  · have h2 : ((kd : Int) == 0) = false := by simp; omega
    rw [show decide (kd = 0) = false by simp [h0]]
    clear h0
    obtain ⟨x, hx⟩ : ∃ x, decide (kd = 2 ∧ d = 124) = x := ⟨_, rfl⟩
    obtain ⟨y, hy⟩ : ∃ y, decide (kd = 2 ∧ d = 41) = y := ⟨_, rfl⟩
    have A := HS.out 124
    have C := HS.out 41
    rw [hx] at A
    rw [hy] at C
    rw [hx, hy]
    have HA : Hid _ := A
    have HC : Hid _ := C
    clear hx hy A C HS
    go_enter Tryz.func42, Tryz.ntmps42
    go_wp2_with fail
    refine (HA.out _).mono ?_
    rintro e w1 ⟨rfl, k1⟩
    obtain ⟨⟨r0, r1, r2⟩, _⟩ := (HB.out w1 k1).cells
    have K1 : Hid (Kp w w1) := kp_trans (kp_alloc w _) k1
    clear k1
    cases x
    · go_wp2_with fail
      refine (HC.out _).mono ?_
      rintro e w2 ⟨rfl, k2⟩
      have K2 : Hid (Kp w w2) := kp_trans K1.out k2
      clear k2
      go_wp2_with fail
      go_ret
      exact ⟨by simp, K2.out⟩
    · go_wp2_with fail
      go_ret
      exact ⟨by simp, K1.out⟩
end
end Go.Proofs.YtmghdogoeehodaaGreatDoor
