/- Texts that the proof of the law stands on: Leaf, Ref, Cls, SetMath, PBase, Scan1, Scan2, Scan3, Scan4, Scan5, Nodes, Add. -/
import Derived.Test.YtpahpnajeliodaaGreatDoorRows
import Derived.WalkKit
import Derived.ProofKit
import Derived.OpenShut
import Derived.BigQuiet
import Derived.Laws.EntriesVeiled
import Derived.WalkSmall
import Derived.Below
import Derived.Deep.QuietTactic
import Derived.LoopTactic
import Derived.RegionTactic
import Derived.BigRegion
import Derived.Deep.RegionLaw
import Derived.Laws.AppendOwn
import Derived.Lib.Strings
import Derived.Lib.Slices
import Derived.Lib.Walk
import Derived.Lib.Bytealg
import Derived.WalkLawsBesides
import Derived.Deep.RegionWith
import Derived.Deep.Cut
import Derived.BigCall
import Derived.Deep.AppendLies
/- Each test of a byte in package kind, and each one of the document's answer, returns just what a plain function of the byte says, and leaves the world as it was; for every byte. -/
namespace Go.Proofs.YtpahpnajeliodaaGreatDoor
open Go.ChangeShapes Go.WideShapes Go.ChangeAt Go.RowKit

def bt (c a b : Int) : Bool := decide (a ≤ c ∧ c ≤ b)
def digB (c : Int) : Bool := bt c 48 57
def octB (c : Int) : Bool := bt c 48 55
def smlB (c : Int) : Bool := bt c 97 122
def grtB (c : Int) : Bool := bt c 65 90
def letB (c : Int) : Bool := smlB c || grtB c
def ladB (c : Int) : Bool := letB c || digB c
def hedB (c : Int) : Bool := letB c || c == 95
def wrdB (c : Int) : Bool := hedB c || digB c
def blkB (c : Int) : Bool := c == 32 || c == 9
def spcB (c : Int) : Bool := c == 32 || bt c 9 13
def hexB (c : Int) : Bool := digB c || bt c 97 102 || bt c 65 70
def ctlB (c : Int) : Bool := decide (c < 32) || c == 127
def pctB (c : Int) : Bool := bt c 33 47 || bt c 58 64 || bt c 91 96 || bt c 123 126

theorem bt_yes {c a b : Int} (h1 : a ≤ c) (h2 : c ≤ b) : bt c a b = true := by simp [bt, h1, h2]
theorem bt_no1 {c a b : Int} (h1 : ¬ a ≤ c) : bt c a b = false := by simp [bt, h1]
theorem bt_no2 {c a b : Int} (h2 : ¬ c ≤ b) : bt c a b = false := by simp [bt, h2]

theorem between_any (c a b : Int) (w : World) :
    Calls Tryz.prog 122 #[.int .u8 c, .int .u8 a, .int .u8 b] w fun e w' => e = .returned (.bool (bt c a b)) ∧ w' = w := by
  by_cases h1 : a ≤ c
  · by_cases h2 : c ≤ b
    · rw [bt_yes h1 h2]
      go_enter Tryz.func122, Tryz.ntmps122
      go_wp2
      go_ret
      exact ⟨rfl, rfl⟩
    · rw [bt_no2 h2]
      go_enter Tryz.func122, Tryz.ntmps122
      go_wp2
      go_ret
      exact ⟨rfl, rfl⟩
  · rw [bt_no1 h1]
    go_enter Tryz.func122, Tryz.ntmps122
    go_wp2
    go_ret
    exact ⟨rfl, rfl⟩

theorem isDigit_any (c : Int) (w : World) :
    Calls Tryz.prog 111 #[.int .u8 c] w fun e w' => e = .returned (.bool (digB c)) ∧ w' = w := by
  unfold digB
  go_enter Tryz.func111, Tryz.ntmps111
  go_wp2_with (go_at_call 122; refine (between_any _ _ _ _).mono ?_; rintro e w' ⟨rfl, rfl⟩)
  go_ret
  exact ⟨rfl, rfl⟩

theorem isOctal_any (c : Int) (w : World) :
    Calls Tryz.prog 113 #[.int .u8 c] w fun e w' => e = .returned (.bool (octB c)) ∧ w' = w := by
  unfold octB
  go_enter Tryz.func113, Tryz.ntmps113
  go_wp2_with (go_at_call 122; refine (between_any _ _ _ _).mono ?_; rintro e w' ⟨rfl, rfl⟩)
  go_ret
  exact ⟨rfl, rfl⟩

theorem isSmall_any (c : Int) (w : World) :
    Calls Tryz.prog 117 #[.int .u8 c] w fun e w' => e = .returned (.bool (smlB c)) ∧ w' = w := by
  unfold smlB
  go_enter Tryz.func117, Tryz.ntmps117
  go_wp2_with (go_at_call 122; refine (between_any _ _ _ _).mono ?_; rintro e w' ⟨rfl, rfl⟩)
  go_ret
  exact ⟨rfl, rfl⟩

theorem isGreat_any (c : Int) (w : World) :
    Calls Tryz.prog 110 #[.int .u8 c] w fun e w' => e = .returned (.bool (grtB c)) ∧ w' = w := by
  unfold grtB
  go_enter Tryz.func110, Tryz.ntmps110
  go_wp2_with (go_at_call 122; refine (between_any _ _ _ _).mono ?_; rintro e w' ⟨rfl, rfl⟩)
  go_ret
  exact ⟨rfl, rfl⟩

theorem isLetter_any (c : Int) (w : World) :
    Calls Tryz.prog 116 #[.int .u8 c] w fun e w' => e = .returned (.bool (letB c)) ∧ w' = w := by
  unfold letB
  cases h : smlB c
  all_goals
    go_enter Tryz.func116, Tryz.ntmps116
    go_wp2_with (first | (go_at_call 117; refine (isSmall_any _ _).mono ?_; rintro e w' ⟨rfl, rfl⟩) | (go_at_call 110; refine (isGreat_any _ _).mono ?_; rintro e w' ⟨rfl, rfl⟩))
    go_ret
    exact ⟨rfl, rfl⟩

theorem isLetterOrDigit_any (c : Int) (w : World) :
    Calls Tryz.prog 128 #[.int .u8 c] w fun e w' => e = .returned (.bool (ladB c)) ∧ w' = w := by
  unfold ladB
  cases h : letB c
  all_goals
    go_enter Tryz.func128, Tryz.ntmps128
    go_wp2_with (first | (go_at_call 116; refine (isLetter_any _ _).mono ?_; rintro e w' ⟨rfl, rfl⟩) | (go_at_call 111; refine (isDigit_any _ _).mono ?_; rintro e w' ⟨rfl, rfl⟩))
    go_ret
    exact ⟨rfl, rfl⟩

theorem isHead_any (c : Int) (w : World) :
    Calls Tryz.prog 115 #[.int .u8 c] w fun e w' => e = .returned (.bool (hedB c)) ∧ w' = w := by
  unfold hedB
  cases h : letB c
  all_goals
    go_enter Tryz.func115, Tryz.ntmps115
    go_wp2_with (go_at_call 116; refine (isLetter_any _ _).mono ?_; rintro e w' ⟨rfl, rfl⟩)
    go_ret
    exact ⟨rfl, rfl⟩

theorem isWord_any (c : Int) (w : World) :
    Calls Tryz.prog 114 #[.int .u8 c] w fun e w' => e = .returned (.bool (wrdB c)) ∧ w' = w := by
  unfold wrdB
  cases h : hedB c
  all_goals
    go_enter Tryz.func114, Tryz.ntmps114
    go_wp2_with (first | (go_at_call 115; refine (isHead_any _ _).mono ?_; rintro e w' ⟨rfl, rfl⟩) | (go_at_call 111; refine (isDigit_any _ _).mono ?_; rintro e w' ⟨rfl, rfl⟩))
    go_ret
    exact ⟨rfl, rfl⟩

theorem isBlank_any (c : Int) (w : World) :
    Calls Tryz.prog 118 #[.int .u8 c] w fun e w' => e = .returned (.bool (blkB c)) ∧ w' = w := by
  unfold blkB
  cases h : (c == 32)
  all_goals
    go_enter Tryz.func118, Tryz.ntmps118
    go_wp2
    go_ret
    exact ⟨rfl, rfl⟩

theorem isSpace_any (c : Int) (w : World) :
    Calls Tryz.prog 129 #[.int .u8 c] w fun e w' => e = .returned (.bool (spcB c)) ∧ w' = w := by
  unfold spcB
  cases h : (c == 32)
  all_goals
    go_enter Tryz.func129, Tryz.ntmps129
    go_wp2_with (go_at_call 122; refine (between_any _ _ _ _).mono ?_; rintro e w' ⟨rfl, rfl⟩)
    go_ret
    exact ⟨rfl, rfl⟩

theorem isControl_any (c : Int) (w : World) :
    Calls Tryz.prog 130 #[.int .u8 c] w fun e w' => e = .returned (.bool (ctlB c)) ∧ w' = w := by
  unfold ctlB
  cases h : decide (c < 32)
  all_goals
    go_enter Tryz.func130, Tryz.ntmps130
    go_wp2
    go_ret
    exact ⟨rfl, rfl⟩

theorem isPunct_any (c : Int) (w : World) :
    Calls Tryz.prog 131 #[.int .u8 c] w fun e w' => e = .returned (.bool (pctB c)) ∧ w' = w := by
  unfold pctB
  cases h1 : bt c 33 47 <;> cases h2 : bt c 58 64 <;> cases h3 : bt c 91 96
  all_goals
    go_enter Tryz.func131, Tryz.ntmps131
    go_wp2_with (go_at_call 122; refine (between_any _ _ _ _).mono ?_; rintro e w' ⟨rfl, rfl⟩)
    go_ret
    exact ⟨rfl, rfl⟩

theorem isHex_any (c : Int) (w : World) :
    Calls Tryz.prog 112 #[.int .u8 c] w fun e w' => e = .returned (.bool (hexB c)) ∧ w' = w := by
  unfold hexB
  cases h1 : digB c <;> cases h2 : bt c 97 102
  all_goals
    go_enter Tryz.func112, Tryz.ntmps112
    go_wp2_with (first | (go_at_call 111; refine (isDigit_any _ _).mono ?_; rintro e w' ⟨rfl, rfl⟩) | (go_at_call 122; refine (between_any _ _ _ _).mono ?_; rintro e w' ⟨rfl, rfl⟩))
    go_ret
    exact ⟨rfl, rfl⟩

end Go.Proofs.YtpahpnajeliodaaGreatDoor
/- The document's answer for one byte (its classes, its letters) returns just what plain functions of the byte say, and leaves the world as it was. -/
namespace Go.Proofs.YtpahpnajeliodaaGreatDoor
open Go.ChangeShapes Go.WideShapes Go.ChangeAt Go.RowKit

def smI (c : Int) : Int := if grtB c then c + 32 else c
def grI (c : Int) : Int := if smlB c then c - 32 else c
def knB (k : Int) : Bool := k == 100 || k == 120 || k == 111 || k == 119 || k == 104 || k == 97 || k == 108 || k == 117 || k == 115
def clsB (k c : Int) : Bool :=
  if k = 100 then digB c else if k = 120 then hexB c else if k = 111 then octB c else if k = 119 then wrdB c else if k = 104 then hedB c
  else if k = 97 then letB c else if k = 108 then smlB c else if k = 117 then grtB c else if k = 115 then blkB c else false
def isB (k c : Int) : Bool := knB (smI k) && (clsB (smI k) c != grtB k)

theorem ret_u8 {a b : Int} (h : a = b) : Ending.returned (.int .u8 a) = .returned (.int .u8 b) := by rw [h]
theorem grtB_iff {c : Int} : grtB c = true ↔ 65 ≤ c ∧ c ≤ 90 := by simp [grtB, bt]
theorem smlB_iff {c : Int} : smlB c = true ↔ 97 ≤ c ∧ c ≤ 122 := by simp [smlB, bt]
theorem knB_no {k : Int} (h : knB k = false) : (k == 100) = false ∧ (k == 120) = false ∧ (k == 111) = false ∧ (k == 119) = false ∧ (k == 104) = false ∧ (k == 97) = false ∧ (k == 108) = false ∧ (k == 117) = false ∧ (k == 115) = false := by
  simpa [knB, and_assoc] using h
theorem knB_yes {k : Int} (h : knB k = true) : k = 100 ∨ k = 120 ∨ k = 111 ∨ k = 119 ∨ k = 104 ∨ k = 97 ∨ k = 108 ∨ k = 117 ∨ k = 115 := by
  simpa [knB, or_assoc] using h
theorem clsB_no {k : Int} (c : Int) (h : knB k = false) : clsB k c = false := by
  obtain ⟨h1, h2, h3, h4, h5, h6, h7, h8, h9⟩ := knB_no h
  simp only [beq_eq_false_iff_ne, ne_eq] at h1 h2 h3 h4 h5 h6 h7 h8 h9
  simp [clsB, h1, h2, h3, h4, h5, h6, h7, h8, h9]

-- END
-- END
-- END
-- END
-- END
-- END
theorem wrd_other (c : Int) : wrdB c = (smlB c || grtB c || digB c || c == 95) := by
  unfold wrdB hedB letB
  cases smlB c <;> cases grtB c <;> cases digB c <;> cases (c == 95) <;> rfl
-- END
-- END
-- END
-- END

end Go.Proofs.YtpahpnajeliodaaGreatDoor
/- The calls of package kind that ask one byte (Small, Great, Same, Known, Is) return just what plain functions of the bytes say, and write nothing that was there. -/
namespace Go.Proofs.YtpahpnajeliodaaGreatDoor
open Go.ChangeShapes Go.WideShapes Go.ChangeAt Go.RowKit

theorem bw_alloc {a b : World} (h : Below a.heap.size a b) (o : Obj) : Below a.heap.size a (b.alloc o) := h.alloc h.size o
theorem bw_trans {a b c : World} (h : Below a.heap.size a b) (k : Below b.heap.size b c) : Below a.heap.size a c := h.trans (k.mono h.size)

theorem kSmall_any (c : Int) (w : World) :
    Calls Tryz.prog 102 #[.int .u8 c] w fun e w' => e = .returned (.int .u8 (smI c)) ∧ w' = w := by
  unfold smI
  cases h : grtB c
  · go_enter Tryz.func102, Tryz.ntmps102
    go_wp2_with (go_at_call 110; refine (isGreat_any _ _).mono ?_; rintro e w' ⟨rfl, rfl⟩)
    go_ret
    exact ⟨rfl, rfl⟩
  · obtain ⟨h1, h2⟩ := grtB_iff.1 h
    go_enter Tryz.func102, Tryz.ntmps102
    go_wp2_with (go_at_call 110; refine (isGreat_any _ _).mono ?_; rintro e w' ⟨rfl, rfl⟩)
    go_ret
    exact ⟨ret_u8 (by omega), rfl⟩
-- END
/-- the test of a class, by its small letter -/
def fnum (k : Int) : Option Nat :=
  if k = 100 then some 111 else if k = 120 then some 112 else if k = 111 then some 113 else if k = 119 then some 114 else if k = 104 then some 115
  else if k = 97 then some 116 else if k = 108 then some 117 else if k = 117 then some 110 else if k = 115 then some 118 else none
theorem fnum_some {k : Int} {n : Nat} (h : fnum k = some n) : (k = 100 ∧ n = 111) ∨ (k = 120 ∧ n = 112) ∨ (k = 111 ∧ n = 113) ∨ (k = 119 ∧ n = 114) ∨ (k = 104 ∧ n = 115) ∨ (k = 97 ∧ n = 116) ∨ (k = 108 ∧ n = 117) ∨ (k = 117 ∧ n = 110) ∨ (k = 115 ∧ n = 118) := by
  unfold fnum at h
  repeat' split at h
  all_goals simp at h
  all_goals omega
theorem fnum_none {k : Int} (h : fnum k = none) : knB k = false := by
  cases hk : knB k
  · rfl
  · rcases knB_yes hk with rfl | rfl | rfl | rfl | rfl | rfl | rfl | rfl | rfl <;> simp [fnum] at h
theorem fnum_is {k : Int} {n : Nat} (h : fnum k = some n) : knB k = true := by
  rcases fnum_some h with ⟨rfl, _⟩ | ⟨rfl, _⟩ | ⟨rfl, _⟩ | ⟨rfl, _⟩ | ⟨rfl, _⟩ | ⟨rfl, _⟩ | ⟨rfl, _⟩ | ⟨rfl, _⟩ | ⟨rfl, _⟩ <;> rfl

theorem test_yes {k : Int} {n : Nat} (h : fnum k = some n) (c : Int) (w : World) :
    Calls Tryz.prog n #[.int .u8 c] w fun e w' => e = .returned (.bool (clsB k c)) ∧ w' = w := by
  rcases fnum_some h with ⟨rfl, rfl⟩ | ⟨rfl, rfl⟩ | ⟨rfl, rfl⟩ | ⟨rfl, rfl⟩ | ⟨rfl, rfl⟩ | ⟨rfl, rfl⟩ | ⟨rfl, rfl⟩ | ⟨rfl, rfl⟩ | ⟨rfl, rfl⟩
  · exact isDigit_any c w
  · exact isHex_any c w
  · exact isOctal_any c w
  · exact isWord_any c w
  · exact isHead_any c w
  · exact isLetter_any c w
  · exact isSmall_any c w
  · exact isGreat_any c w
  · exact isBlank_any c w

theorem classTest_no {k : Int} (h : fnum k = none) (w : World) :
    Calls Tryz.prog 103 #[.int .u8 k] w fun e w' => e = .returned .nilFunc ∧ w' = w := by
  obtain ⟨h1, h2, h3, h4, h5, h6, h7, h8, h9⟩ := knB_no (fnum_none h)
  clear h
  go_enter Tryz.func103, Tryz.ntmps103
  go_wp2
  go_ret
  exact ⟨rfl, rfl⟩
theorem classTest_yes {k : Int} {n : Nat} (h : fnum k = some n) (w : World) :
    Calls Tryz.prog 103 #[.int .u8 k] w fun e w' => e = .returned (.func (Fn.func n) #[] #[]) ∧ w' = w := by
  rcases fnum_some h with ⟨rfl, rfl⟩ | ⟨rfl, rfl⟩ | ⟨rfl, rfl⟩ | ⟨rfl, rfl⟩ | ⟨rfl, rfl⟩ | ⟨rfl, rfl⟩ | ⟨rfl, rfl⟩ | ⟨rfl, rfl⟩ | ⟨rfl, rfl⟩
  all_goals
    clear h
    go_enter Tryz.func103, Tryz.ntmps103
    go_wp2
    go_ret
    exact ⟨rfl, rfl⟩

theorem eql_nil (w : World) : Sem.run Tryz.prog (binOp BinOp.eql 143 Value.nilFunc Value.nilFunc) w = .ok (.bool true) w := by kernel_rfl
theorem eql_fn (n : Nat) (w : World) : Sem.run Tryz.prog (binOp BinOp.eql 143 (Value.func (Fn.func n) #[] #[]) Value.nilFunc) w = .ok (.bool false) w := by kernel_rfl

theorem classOf_no {k : Int} (h : fnum (smI k) = none) (w : World) :
    Calls Tryz.prog 96 #[.int .u8 k] w fun e w' => e = .returned (.tuple #[.agg #[.nilFunc, .bool false], .bool false]) ∧ Below w.heap.size w w' := by
  have hq := eql_nil
  go_enter Tryz.func96, Tryz.ntmps96
  go_wp2_with (first | (go_at_call 102; refine (kSmall_any _ _).mono ?_; rintro e w' ⟨rfl, rfl⟩) | (go_at_call 103; refine (classTest_no h _).mono ?_; rintro e w' ⟨rfl, rfl⟩))
  exact bodyPost_ret (v := .tuple #[.agg #[.nilFunc, .bool false], .bool false]) (by simp [results, Tryz.results96, go_sem]) rfl ⟨rfl, bw_alloc (Below.refl _ _) _⟩
theorem classOf_yes {k : Int} {n : Nat} (h : fnum (smI k) = some n) (w : World) :
    Calls Tryz.prog 96 #[.int .u8 k] w fun e w' => e = .returned (.tuple #[.agg #[.func (Fn.func n) #[] #[], .bool (smI k != k)], .bool true]) ∧ Below w.heap.size w w' := by
  have hq := eql_fn n
  go_enter Tryz.func96, Tryz.ntmps96
  go_wp2_with (first | (go_at_call 102; refine (kSmall_any _ _).mono ?_; rintro e w' ⟨rfl, rfl⟩) | (go_at_call 103; refine (classTest_yes h _).mono ?_; rintro e w' ⟨rfl, rfl⟩))
  exact bodyPost_ret (v := .tuple #[.agg #[.func (Fn.func n) #[] #[], .bool (smI k != k)], .bool true]) (by simp [results, Tryz.results96, go_sem]) rfl ⟨rfl, bw_alloc (Below.refl _ _) _⟩

theorem ghas_isDigit (o : Bool) (c : Int) (w : World) :
    Calls Tryz.prog 98 #[.agg #[.func (Fn.func 111) #[] #[], .bool o], .int .u8 c] w fun e w' => e = .returned (.bool (digB c != o)) ∧ Below w.heap.size w w' := by
  go_enter Tryz.func98, Tryz.ntmps98
  go_wp2
  go_quiet ((go_at_call 111; exact Calls.quiet_of_same (isDigit_any _ _)))
  go_wp2
  go_ret
  exact ⟨rfl, below_drewN (bw_alloc (Below.refl _ _) _) _⟩
theorem ghas_isHex (o : Bool) (c : Int) (w : World) :
    Calls Tryz.prog 98 #[.agg #[.func (Fn.func 112) #[] #[], .bool o], .int .u8 c] w fun e w' => e = .returned (.bool (hexB c != o)) ∧ Below w.heap.size w w' := by
  go_enter Tryz.func98, Tryz.ntmps98
  go_wp2
  go_quiet ((go_at_call 112; exact Calls.quiet_of_same (isHex_any _ _)))
  go_wp2
  go_ret
  exact ⟨rfl, below_drewN (bw_alloc (Below.refl _ _) _) _⟩
theorem ghas_isOctal (o : Bool) (c : Int) (w : World) :
    Calls Tryz.prog 98 #[.agg #[.func (Fn.func 113) #[] #[], .bool o], .int .u8 c] w fun e w' => e = .returned (.bool (octB c != o)) ∧ Below w.heap.size w w' := by
  go_enter Tryz.func98, Tryz.ntmps98
  go_wp2
  go_quiet ((go_at_call 113; exact Calls.quiet_of_same (isOctal_any _ _)))
  go_wp2
  go_ret
  exact ⟨rfl, below_drewN (bw_alloc (Below.refl _ _) _) _⟩
theorem ghas_isWord (o : Bool) (c : Int) (w : World) :
    Calls Tryz.prog 98 #[.agg #[.func (Fn.func 114) #[] #[], .bool o], .int .u8 c] w fun e w' => e = .returned (.bool (wrdB c != o)) ∧ Below w.heap.size w w' := by
  go_enter Tryz.func98, Tryz.ntmps98
  go_wp2
  go_quiet ((go_at_call 114; exact Calls.quiet_of_same (isWord_any _ _)))
  go_wp2
  go_ret
  exact ⟨rfl, below_drewN (bw_alloc (Below.refl _ _) _) _⟩
theorem ghas_isHead (o : Bool) (c : Int) (w : World) :
    Calls Tryz.prog 98 #[.agg #[.func (Fn.func 115) #[] #[], .bool o], .int .u8 c] w fun e w' => e = .returned (.bool (hedB c != o)) ∧ Below w.heap.size w w' := by
  go_enter Tryz.func98, Tryz.ntmps98
  go_wp2
  go_quiet ((go_at_call 115; exact Calls.quiet_of_same (isHead_any _ _)))
  go_wp2
  go_ret
  exact ⟨rfl, below_drewN (bw_alloc (Below.refl _ _) _) _⟩
theorem ghas_isLetter (o : Bool) (c : Int) (w : World) :
    Calls Tryz.prog 98 #[.agg #[.func (Fn.func 116) #[] #[], .bool o], .int .u8 c] w fun e w' => e = .returned (.bool (letB c != o)) ∧ Below w.heap.size w w' := by
  go_enter Tryz.func98, Tryz.ntmps98
  go_wp2
  go_quiet ((go_at_call 116; exact Calls.quiet_of_same (isLetter_any _ _)))
  go_wp2
  go_ret
  exact ⟨rfl, below_drewN (bw_alloc (Below.refl _ _) _) _⟩
theorem ghas_isSmall (o : Bool) (c : Int) (w : World) :
    Calls Tryz.prog 98 #[.agg #[.func (Fn.func 117) #[] #[], .bool o], .int .u8 c] w fun e w' => e = .returned (.bool (smlB c != o)) ∧ Below w.heap.size w w' := by
  go_enter Tryz.func98, Tryz.ntmps98
  go_wp2
  go_quiet ((go_at_call 117; exact Calls.quiet_of_same (isSmall_any _ _)))
  go_wp2
  go_ret
  exact ⟨rfl, below_drewN (bw_alloc (Below.refl _ _) _) _⟩
theorem ghas_isGreat (o : Bool) (c : Int) (w : World) :
    Calls Tryz.prog 98 #[.agg #[.func (Fn.func 110) #[] #[], .bool o], .int .u8 c] w fun e w' => e = .returned (.bool (grtB c != o)) ∧ Below w.heap.size w w' := by
  go_enter Tryz.func98, Tryz.ntmps98
  go_wp2
  go_quiet ((go_at_call 110; exact Calls.quiet_of_same (isGreat_any _ _)))
  go_wp2
  go_ret
  exact ⟨rfl, below_drewN (bw_alloc (Below.refl _ _) _) _⟩
theorem ghas_isBlank (o : Bool) (c : Int) (w : World) :
    Calls Tryz.prog 98 #[.agg #[.func (Fn.func 118) #[] #[], .bool o], .int .u8 c] w fun e w' => e = .returned (.bool (blkB c != o)) ∧ Below w.heap.size w w' := by
  go_enter Tryz.func98, Tryz.ntmps98
  go_wp2
  go_quiet ((go_at_call 118; exact Calls.quiet_of_same (isBlank_any _ _)))
  go_wp2
  go_ret
  exact ⟨rfl, below_drewN (bw_alloc (Below.refl _ _) _) _⟩
theorem ghas_isLetterOrDigit (o : Bool) (c : Int) (w : World) :
    Calls Tryz.prog 98 #[.agg #[.func (Fn.func 128) #[] #[], .bool o], .int .u8 c] w fun e w' => e = .returned (.bool (ladB c != o)) ∧ Below w.heap.size w w' := by
  go_enter Tryz.func98, Tryz.ntmps98
  go_wp2
  go_quiet ((go_at_call 128; exact Calls.quiet_of_same (isLetterOrDigit_any _ _)))
  go_wp2
  go_ret
  exact ⟨rfl, below_drewN (bw_alloc (Below.refl _ _) _) _⟩
theorem ghas_isSpace (o : Bool) (c : Int) (w : World) :
    Calls Tryz.prog 98 #[.agg #[.func (Fn.func 129) #[] #[], .bool o], .int .u8 c] w fun e w' => e = .returned (.bool (spcB c != o)) ∧ Below w.heap.size w w' := by
  go_enter Tryz.func98, Tryz.ntmps98
  go_wp2
  go_quiet ((go_at_call 129; exact Calls.quiet_of_same (isSpace_any _ _)))
  go_wp2
  go_ret
  exact ⟨rfl, below_drewN (bw_alloc (Below.refl _ _) _) _⟩
theorem ghas_isControl (o : Bool) (c : Int) (w : World) :
    Calls Tryz.prog 98 #[.agg #[.func (Fn.func 130) #[] #[], .bool o], .int .u8 c] w fun e w' => e = .returned (.bool (ctlB c != o)) ∧ Below w.heap.size w w' := by
  go_enter Tryz.func98, Tryz.ntmps98
  go_wp2
  go_quiet ((go_at_call 130; exact Calls.quiet_of_same (isControl_any _ _)))
  go_wp2
  go_ret
  exact ⟨rfl, below_drewN (bw_alloc (Below.refl _ _) _) _⟩
theorem ghas_isPunct (o : Bool) (c : Int) (w : World) :
    Calls Tryz.prog 98 #[.agg #[.func (Fn.func 131) #[] #[], .bool o], .int .u8 c] w fun e w' => e = .returned (.bool (pctB c != o)) ∧ Below w.heap.size w w' := by
  go_enter Tryz.func98, Tryz.ntmps98
  go_wp2
  go_quiet ((go_at_call 131; exact Calls.quiet_of_same (isPunct_any _ _)))
  go_wp2
  go_ret
  exact ⟨rfl, below_drewN (bw_alloc (Below.refl _ _) _) _⟩
theorem ghas_any {k : Int} {n : Nat} (h : fnum k = some n) (o : Bool) (c : Int) (w : World) :
    Calls Tryz.prog 98 #[.agg #[.func (Fn.func n) #[] #[], .bool o], .int .u8 c] w fun e w' => e = .returned (.bool (clsB k c != o)) ∧ Below w.heap.size w w' := by
  rcases fnum_some h with ⟨rfl, rfl⟩ | ⟨rfl, rfl⟩ | ⟨rfl, rfl⟩ | ⟨rfl, rfl⟩ | ⟨rfl, rfl⟩ | ⟨rfl, rfl⟩ | ⟨rfl, rfl⟩ | ⟨rfl, rfl⟩ | ⟨rfl, rfl⟩
  · exact ghas_isDigit o c w
  · exact ghas_isHex o c w
  · exact ghas_isOctal o c w
  · exact ghas_isWord o c w
  · exact ghas_isHead o c w
  · exact ghas_isLetter o c w
  · exact ghas_isSmall o c w
  · exact ghas_isGreat o c w
  · exact ghas_isBlank o c w

theorem great_is (k : Int) : (smI k != k) = grtB k := by
  unfold smI
  cases h : grtB k
  · simp
  · simp
    omega

theorem kIs_any (k c : Int) (w : World) :
    Calls Tryz.prog 90 #[.int .u8 k, .int .u8 c] w fun e w' => e = .returned (.bool (isB k c)) ∧ Below w.heap.size w w' := by
  unfold isB
  cases h : fnum (smI k) with
  | none =>
    rw [fnum_none h]
    go_enter Tryz.func90, Tryz.ntmps90
    go_wp2_with (go_at_call 96; refine (classOf_no h _).mono ?_; rintro e w1 ⟨rfl, hb1⟩)
    go_ret
    exact ⟨rfl, bw_alloc hb1 _⟩
  | some n =>
    rw [fnum_is h, ← great_is k, Bool.true_and]
    go_enter Tryz.func90, Tryz.ntmps90
    go_wp2_with (first | (go_at_call 96; refine (classOf_yes h _).mono ?_; rintro e w1 ⟨rfl, hb1⟩) | (go_at_call 98; refine (ghas_any h _ _ _).mono ?_; rintro e w2 ⟨rfl, hb2⟩))
    go_ret
    exact ⟨rfl, bw_trans (bw_alloc hb1 _) hb2⟩

-- END

end Go.Proofs.YtpahpnajeliodaaGreatDoor
/- Sets of bytes as four words of 64 bits, as plain mathematics: what With, Not, Both and gather come to, and that two sets with the same bytes are one. -/
namespace Go.Proofs.YtpahpnajeliodaaGreatDoor

structure S4 where
  a : Nat
  b : Nat
  c : Nat
  d : Nat
def S4.ok (s : S4) : Prop := s.a < 18446744073709551616 ∧ s.b < 18446744073709551616 ∧ s.c < 18446744073709551616 ∧ s.d < 18446744073709551616
def zeroS : S4 := ⟨0, 0, 0, 0⟩
def withS (s : S4) (x : Nat) : S4 :=
  if x < 64 then ⟨s.a ||| 2 ^ x, s.b, s.c, s.d⟩ else if x < 128 then ⟨s.a, s.b ||| 2 ^ (x - 64), s.c, s.d⟩
  else if x < 192 then ⟨s.a, s.b, s.c ||| 2 ^ (x - 128), s.d⟩ else ⟨s.a, s.b, s.c, s.d ||| 2 ^ (x - 192)⟩
def hasS (s : S4) (x : Nat) : Bool :=
  if x < 64 then s.a.testBit x else if x < 128 then s.b.testBit (x - 64) else if x < 192 then s.c.testBit (x - 128) else s.d.testBit (x - 192)
def mask : Nat := 18446744073709551615
def notW (x : Nat) : Nat := mask ^^^ x
def notS (s : S4) : S4 := ⟨notW s.a, notW s.b, notW s.c, notW s.d⟩
def bothS (s t : S4) : S4 := ⟨s.a ||| t.a, s.b ||| t.b, s.c ||| t.c, s.d ||| t.d⟩
def foldS (f : Int → Bool) : Nat → S4
  | 0 => zeroS
  | n + 1 => if f n then withS (foldS f n) n else foldS f n

theorem p64 : (18446744073709551616 : Nat) = 2 ^ 64 := by decide
theorem ok_zero : zeroS.ok := by unfold S4.ok zeroS; decide
theorem or_lt {x j : Nat} (hx : x < 18446744073709551616) (hj : j < 64) : x ||| 2 ^ j < 18446744073709551616 := by
  rw [p64] at *
  exact Nat.or_lt_two_pow hx (Nat.pow_lt_pow_right (by decide) hj)
theorem ok_with {s : S4} (h : s.ok) {x : Nat} (hx : x < 256) : (withS s x).ok := by
  obtain ⟨h1, h2, h3, h4⟩ := h
  unfold withS
  split
  · exact ⟨or_lt h1 (by omega), h2, h3, h4⟩
  · split
    · exact ⟨h1, or_lt h2 (by omega), h3, h4⟩
    · split
      · exact ⟨h1, h2, or_lt h3 (by omega), h4⟩
      · exact ⟨h1, h2, h3, or_lt h4 (by omega)⟩
theorem ok_fold (f : Int → Bool) : ∀ n, n ≤ 256 → (foldS f n).ok
  | 0, _ => ok_zero
  | n + 1, h => by
    unfold foldS
    split
    · exact ok_with (ok_fold f n (by omega)) (by omega)
    · exact ok_fold f n (by omega)
theorem notW_lt {x : Nat} (h : x < 18446744073709551616) : notW x < 18446744073709551616 := by
  unfold notW
  rw [p64] at *
  exact Nat.xor_lt_two_pow (by unfold mask; decide) h
theorem ok_not {s : S4} (h : s.ok) : (notS s).ok := ⟨notW_lt h.1, notW_lt h.2.1, notW_lt h.2.2.1, notW_lt h.2.2.2⟩
theorem or_lt2 {x y : Nat} (hx : x < 18446744073709551616) (hy : y < 18446744073709551616) : x ||| y < 18446744073709551616 := by
  rw [p64] at *
  exact Nat.or_lt_two_pow hx hy
theorem ok_both {s t : S4} (h : s.ok) (k : t.ok) : (bothS s t).ok := by
  obtain ⟨h1, h2, h3, h4⟩ := h
  obtain ⟨k1, k2, k3, k4⟩ := k
  exact ⟨or_lt2 h1 k1, or_lt2 h2 k2, or_lt2 h3 k3, or_lt2 h4 k4⟩

theorem xor_twice (m x : Nat) : m ^^^ (m ^^^ x) = x := by rw [← Nat.xor_assoc, Nat.xor_self, Nat.zero_xor]
theorem notW_eq (x : Nat) : notW x = mask ^^^ x := rfl
theorem notW_notW (x : Nat) : notW (notW x) = x := by rw [notW_eq, notW_eq, xor_twice]
theorem not_not (s : S4) : notS (notS s) = s := by
  unfold notS
  simp only [notW_notW]
theorem m64 : mask = 2 ^ 64 - 1 := by decide
theorem bit_not {x j : Nat} (hj : j < 64) : (notW x).testBit j = !x.testBit j := by
  unfold notW
  rw [Nat.testBit_xor, m64, Nat.testBit_two_pow_sub_one, decide_eq_true hj, Bool.true_xor]
theorem bit_or (x j k : Nat) : (x ||| 2 ^ j).testBit k = (x.testBit k || decide (j = k)) := by
  rw [Nat.testBit_or, Nat.testBit_two_pow]
theorem has_not (s : S4) {x : Nat} (hx : x < 256) : hasS (notS s) x = !hasS s x := by
  unfold hasS notS
  split
  · exact bit_not (by omega)
  · split
    · exact bit_not (by omega)
    · split
      · exact bit_not (by omega)
      · exact bit_not (by omega)
theorem has_both (s t : S4) (x : Nat) : hasS (bothS s t) x = (hasS s x || hasS t x) := by
  unfold hasS bothS
  simp only [Nat.testBit_or]
  repeat' split
  all_goals rfl
theorem has_with (s : S4) {x y : Nat} (hx : x < 256) (hy : y < 256) : hasS (withS s x) y = (hasS s y || decide (x = y)) := by
  by_cases e : x = y
  · subst e
    unfold hasS withS
    by_cases h1 : x < 64
    · simp [h1]
    · by_cases h2 : x < 128
      · simp [h1, h2]
      · by_cases h3 : x < 192
        · simp [h1, h2, h3]
        · simp [h1, h2, h3]
  · rw [decide_eq_false e, Bool.or_false]
    unfold hasS withS
    by_cases h1 : x < 64
    · rw [if_pos h1]
      repeat' split
      · rw [bit_or, decide_eq_false e, Bool.or_false]
      all_goals rfl
    · rw [if_neg h1]
      by_cases h2 : x < 128
      · rw [if_pos h2]
        split
        · rfl
        · split
          · rw [bit_or, decide_eq_false (by omega), Bool.or_false]
          · rfl
      · rw [if_neg h2]
        by_cases h3 : x < 192
        · rw [if_pos h3]
          split
          · rfl
          · split
            · rfl
            · split
              · rw [bit_or, decide_eq_false (by omega), Bool.or_false]
              · rfl
        · rw [if_neg h3]
          split
          · rfl
          · split
            · rfl
            · split
              · rfl
              · rw [bit_or, decide_eq_false (by omega), Bool.or_false]
theorem has_zero (x : Nat) : hasS zeroS x = false := by
  unfold hasS zeroS
  repeat' split
  all_goals exact Nat.zero_testBit _
theorem has_fold (f : Int → Bool) (x : Nat) : ∀ n, n ≤ 256 → x < 256 → hasS (foldS f n) x = (decide (x < n) && f x)
  | 0, _, _ => by rw [show foldS f 0 = zeroS from rfl, has_zero]; simp
  | n + 1, h, hx => by
    have ih := has_fold f x n (by omega) hx
    unfold foldS
    by_cases e : n = x
    · subst e
      cases hf : f n
      · simp only [Bool.false_eq_true, if_false]
        rw [ih, hf, Bool.and_false, Bool.and_false]
      · simp only [if_true]
        rw [has_with _ (by omega) hx]
        simp
    · have e2 : decide (x < n + 1) = decide (x < n) := by by_cases q : x < n <;> simp [q] <;> omega
      split
      · rw [has_with _ (by omega) hx, decide_eq_false e, Bool.or_false, ih, e2]
      · rw [ih, e2]
theorem has_all (f : Int → Bool) {x : Nat} (hx : x < 256) : hasS (foldS f 256) x = f x := by
  rw [has_fold f x 256 (by omega) hx, decide_eq_true hx, Bool.true_and]
theorem word_ext {x y : Nat} (hx : x < 18446744073709551616) (hy : y < 18446744073709551616) (h : ∀ j, j < 64 → x.testBit j = y.testBit j) : x = y := by
  refine Nat.eq_of_testBit_eq fun j => ?_
  by_cases hj : j < 64
  · exact h j hj
  · rw [p64] at hx hy
    have hp : 2 ^ 64 ≤ 2 ^ j := Nat.pow_le_pow_right (by decide) (by omega)
    rw [Nat.testBit_lt_two_pow (Nat.lt_of_lt_of_le hx hp), Nat.testBit_lt_two_pow (Nat.lt_of_lt_of_le hy hp)]
theorem set_ext {s t : S4} (hs : s.ok) (ht : t.ok) (h : ∀ x, x < 256 → hasS s x = hasS t x) : s = t := by
  obtain ⟨s1, s2, s3, s4⟩ := hs
  obtain ⟨t1, t2, t3, t4⟩ := ht
  have a := word_ext s1 t1 fun j hj => by have := h j (by omega); simpa [hasS, hj] using this
  have b := word_ext s2 t2 fun j hj => by
    have := h (64 + j) (by omega)
    simpa [hasS, show ¬ 64 + j < 64 from by omega, show 64 + j < 128 from by omega] using this
  have c := word_ext s3 t3 fun j hj => by
    have := h (128 + j) (by omega)
    simpa [hasS, show ¬ 128 + j < 64 from by omega, show ¬ 128 + j < 128 from by omega, show 128 + j < 192 from by omega] using this
  have d := word_ext s4 t4 fun j hj => by
    have := h (192 + j) (by omega)
    simpa [hasS, show ¬ 192 + j < 64 from by omega, show ¬ 192 + j < 128 from by omega, show ¬ 192 + j < 192 from by omega] using this
  cases s
  cases t
  simp only at a b c d
  rw [a, b, c, d]
theorem fold_congr {f g : Int → Bool} (h : ∀ x : Nat, x < 256 → f x = g x) : foldS f 256 = foldS g 256 :=
  set_ext (ok_fold f 256 (by omega)) (ok_fold g 256 (by omega)) fun x hx => by rw [has_all f hx, has_all g hx, h x hx]
/- a set has a byte just if the set with it is the set -/
theorem with_same {s : S4} (hs : s.ok) {x : Nat} (hx : x < 256) : withS s x = s ↔ hasS s x = true := by
  constructor
  · intro h
    have := has_with s hx hx
    rw [h] at this
    simpa using this
  · intro h
    refine set_ext (ok_with hs hx) hs fun y hy => ?_
    rw [has_with s hx hy]
    by_cases e : x = y
    · subst e
      simp [h]
    · simp [e]
end Go.Proofs.YtpahpnajeliodaaGreatDoor
/- What memory holds while a pattern is read, and what a call of the reader leaves as it was. -/
namespace Go.Proofs.YtpahpnajeliodaaGreatDoor
open Go.ChangeShapes Go.WideShapes Go.ChangeAt Go.RowKit
set_option linter.unusedVariables false
set_option linter.unusedSimpArgs false

theorem drewN_heap (w : World) (n : Nat) : (w.drewN n).heap = w.heap := by induction n generalizing w <;> simp_all [World.drewN]
theorem drew2 (w : World) (a b : Nat) : (w.drewN a).drewN b = w.drewN (a + b) := by
  have e : ∀ (n : Nat) (w : World), w.drewN n = { w with drawn := w.drawn + n } := by
    intro n
    induction n with
    | zero => intro w; rfl
    | succ n ih => intro w; simp [World.drewN, World.drew, ih, Nat.add_assoc, Nat.add_comm 1 n]
  simp [e, Nat.add_assoc]
theorem heap_setCell {w : World} {b off : Nat} {v : Value} {cur : Array Value} {e : TypeId} {fr : Nat × Nat} (hg : w.heap[b]? = some (.cells cur e fr)) :
    (w.setCell ⟨b, off, none⟩ v).heap[b]? = some (.cells (cur.setIfInBounds off v) e fr) := by
  have hlt : b < w.heap.size := (Array.getElem?_eq_some_iff.1 hg).1
  simp [World.setCell, Array.getElem?_modify, hg]
theorem heap_setCell_other {w : World} {b off k : Nat} {v : Value} (hk : k ≠ b) : (w.setCell ⟨b, off, none⟩ v).heap[k]? = w.heap[k]? := by
  simp [World.setCell, Array.getElem?_modify, Ne.symm hk]
theorem size_setCell (w : World) (a : Addr) (v : Value) : (w.setCell a v).heap.size = w.heap.size := by simp [World.setCell]
theorem alloc_new (w : World) (ob : Obj) : (w.alloc ob).heap[w.heap.size]? = some ob := by show (w.heap.push ob)[w.heap.size]? = _; simp
theorem alloc_old (w : World) (ob : Obj) (k : Nat) (hk : k < w.heap.size) : (w.alloc ob).heap[k]? = w.heap[k]? := by
  show (w.heap.push ob)[k]? = _; rw [Array.getElem?_push_lt hk, Array.getElem?_eq_getElem hk]
theorem alloc_size (w : World) (ob : Obj) : (w.alloc ob).heap.size = w.heap.size + 1 := by show (w.heap.push ob).size = _; simp

/-- From w to w' no block that was there has turned but those of which 'S' speaks. -/
structure Fr (S : Nat → Prop) (w w' : World) : Prop where
  os : w'.os = w.os
  tape : w'.tape = w.tape
  output : w'.output = w.output
  size : w.heap.size ≤ w'.heap.size
  block : ∀ k, k < w.heap.size → ¬ S k → w'.heap[k]? = w.heap[k]?
section
variable {S S' : Nat → Prop} {w w1 w2 : World}
theorem Fr.refl (S : Nat → Prop) (w : World) : Fr S w w := ⟨rfl, rfl, rfl, Nat.le_refl _, fun _ _ _ => rfl⟩
theorem Fr.trans' (h : Fr S w w1) (h' : Fr S' w1 w2) (hs : ∀ k, k < w.heap.size → S' k → S k) : Fr S w w2 :=
  ⟨h'.os.trans h.os, h'.tape.trans h.tape, h'.output.trans h.output, Nat.le_trans h.size h'.size,
   fun k hk hn => (h'.block k (Nat.lt_of_lt_of_le hk h.size) (fun hq => hn (hs k hk hq))).trans (h.block k hk hn)⟩
theorem Fr.trans (h : Fr S w w1) (h' : Fr S w1 w2) : Fr S w w2 := h.trans' h' fun _ _ q => q
theorem Fr.mono (h : Fr S w w1) (hs : ∀ k, k < w.heap.size → S k → S' k) : Fr S' w w1 := ⟨h.os, h.tape, h.output, h.size, fun k hk hn => h.block k hk fun q => hn (hs k hk q)⟩
theorem Fr.drewN (S : Nat → Prop) (w : World) (n : Nat) : Fr S w (w.drewN n) := by
  refine ⟨?_, ?_, ?_, by rw [drewN_heap]; exact Nat.le_refl _, fun _ _ _ => by rw [drewN_heap]⟩
  all_goals (induction n generalizing w <;> simp_all [World.drewN])
theorem Fr.setCell {b off : Nat} {v : Value} (hS : S b) (w : World) : Fr S w (w.setCell ⟨b, off, none⟩ v) :=
  ⟨rfl, rfl, rfl, by rw [size_setCell]; exact Nat.le_refl _, fun k _ hn => heap_setCell_other fun e => hn (e ▸ hS)⟩
theorem Fr.alloc (S : Nat → Prop) (w : World) (ob : Obj) : Fr S w (w.alloc ob) := ⟨rfl, rfl, rfl, by rw [alloc_size]; omega, fun k hk _ => alloc_old w ob k hk⟩
theorem Fr.below {B : Nat} (h : Fr S w w1) (hB : B ≤ w.heap.size) (hS : ∀ k, k < B → ¬ S k) : Below B w w1 := ⟨h.os, h.tape, h.output, h.size, fun k hk => h.block k (by omega) (hS k hk)⟩
theorem Fr.of_below (h : Below w.heap.size w w1) : Fr S w w1 := ⟨h.os, h.tape, h.output, h.size, fun k hk _ => h.block k hk⟩
end
/-- This one block. -/
def On (b k : Nat) : Prop := k = b
theorem fr_set (b off : Nat) (v : Value) (w : World) : Fr (On b) w (w.setCell ⟨b, off, none⟩ v) := Fr.setCell (S := On b) rfl w
/-- Nothing that was there has turned. -/
abbrev Kp (w w' : World) : Prop := Below w.heap.size w w'
theorem kp_drewN (w : World) (q : Nat) : Kp w (w.drewN q) := (Fr.drewN (fun _ => False) w q).below (Nat.le_refl _) fun _ _ h => h
theorem kp_alloc (w : World) (ob : Obj) : Kp w (w.alloc ob) := (Below.refl _ w).alloc (Nat.le_refl _) ob
theorem kp_trans {a b c : World} (h : Kp a b) (k : Kp b c) : Kp a c := h.trans (k.mono h.size)

theorem Fr.new {S : Nat → Prop} {w w1 : World} {n off : Nat} {v : Value} (h : Fr S w w1) (hn : w.heap.size ≤ n) : Fr S w (w1.setCell ⟨n, off, none⟩ v) :=
  ⟨h.os, h.tape, h.output, by rw [size_setCell]; exact h.size, fun k hk hS => by rw [heap_setCell_other (by omega)]; exact h.block k hk hS⟩
theorem Fr.frAlloc {S : Nat → Prop} {w w1 : World} {ob : Obj} (h : Fr S (w.alloc ob) w1) : Fr S w w1 := (Fr.alloc S w ob).trans h
/-- A byte of a text, nought behind its end. -/
def byteAt (s : ByteArray) (k : Nat) : Nat := ((s.data.toList[k]?).map UInt8.toNat).getD 0
theorem byteAt_lt (s : ByteArray) (k : Nat) : byteAt s k < 256 := by
  unfold byteAt
  cases s.data.toList[k]? with
  | none => simp
  | some b => simpa using b.toNat_lt
theorem byteAt_eq (s : ByteArray) (k : Nat) (h : k < s.size) : byteAt s k = (s[k]).toNat := by
  have : s.data.toList[k]? = some (s[k]) := by
    rw [List.getElem?_eq_getElem (by simpa using h)]; rfl
  unfold byteAt; rw [this]; rfl

/-- At the head of block 'b' (of type 'T') stands a scanner; 'tl' is what stands behind it. -/
def Scn (T : TypeId) (tl : List Value) (s : ByteArray) (at_ : Nat) (md : ByteArray) (cs : Nat) (b : Nat) (w : World) : Prop :=
  w.heap[b]? = some (.cells (.string s :: .int .i64 at_ :: .string md :: .int .u8 cs :: tl).toArray T (0, 0))
section
variable {T : TypeId} {tl : List Value} {s md : ByteArray} {at_ cs b : Nat} {w w' : World}
theorem Scn.lt (h : Scn T tl s at_ md cs b w) : b < w.heap.size := (Array.getElem?_eq_some_iff.1 h).1
theorem Scn.c0 (h : Scn T tl s at_ md cs b w) : w.cell? ⟨b, 0, none⟩ = some (.string s) := by unfold Scn at h; simp [World.cell?, h]
theorem Scn.c1 (h : Scn T tl s at_ md cs b w) : w.cell? ⟨b, 1, none⟩ = some (.int .i64 at_) := by unfold Scn at h; simp [World.cell?, h]
theorem Scn.c2 (h : Scn T tl s at_ md cs b w) : w.cell? ⟨b, 2, none⟩ = some (.string md) := by unfold Scn at h; simp [World.cell?, h]
theorem Scn.c3 (h : Scn T tl s at_ md cs b w) : w.cell? ⟨b, 3, none⟩ = some (.int .u8 cs) := by unfold Scn at h; simp [World.cell?, h]
theorem Scn.fz (h : Scn T tl s at_ md cs b w) (j : Nat) : w.frozen? ⟨b, j, none⟩ = false := by unfold Scn at h; simp [World.frozen?, h]
theorem Scn.heap (h : Scn T tl s at_ md cs b w) (he : w'.heap[b]? = w.heap[b]?) : Scn T tl s at_ md cs b w' := by unfold Scn at h ⊢; rw [he]; exact h
theorem Scn.kp (h : Scn T tl s at_ md cs b w) (k : Kp w w') : Scn T tl s at_ md cs b w' := h.heap (k.block b h.lt)
theorem Scn.drewN (h : Scn T tl s at_ md cs b w) (q : Nat) : Scn T tl s at_ md cs b (w.drewN q) := h.heap (by rw [drewN_heap])
theorem Scn.other (h : Scn T tl s at_ md cs b w) {n off : Nat} {v : Value} (hn : n ≠ b) : Scn T tl s at_ md cs b (w.setCell ⟨n, off, none⟩ v) := h.heap (heap_setCell_other (Ne.symm hn))
theorem Scn.set1 (h : Scn T tl s at_ md cs b w) (a' : Nat) : Scn T tl s a' md cs b (w.setCell ⟨b, 1, none⟩ (.int .i64 a')) := by unfold Scn at h ⊢; rw [heap_setCell h]; simp
theorem Scn.set2 (h : Scn T tl s at_ md cs b w) (m' : ByteArray) : Scn T tl s at_ m' cs b (w.setCell ⟨b, 2, none⟩ (.string m')) := by unfold Scn at h ⊢; rw [heap_setCell h]; simp
theorem Scn.set3 (h : Scn T tl s at_ md cs b w) (c' : Nat) : Scn T tl s at_ md c' b (w.setCell ⟨b, 3, none⟩ (.int .u8 c')) := by unfold Scn at h ⊢; rw [heap_setCell h]; simp
end
end Go.Proofs.YtpahpnajeliodaaGreatDoor
/- The scanner's small calls: among, take, skip. -/
namespace Go.Proofs.YtpahpnajeliodaaGreatDoor
open Go.ChangeShapes Go.WideShapes Go.ChangeAt Go.RowKit
set_option linter.unusedVariables false
set_option linter.unusedSimpArgs false

set_option maxHeartbeats 1000000 in
set_option maxRecDepth 100000 in
theorem indexByteL_any (s : ByteArray) (c : Int) (w : World) :
    Calls Tryz.prog 73 #[.string s, .int .u8 c] w fun e w' => e = .returned (.int .i64 (Lib.indexByte s.data.toList c.toNat.toUInt8)) ∧ w' = w := by
  go_enter Tryz.func73, Tryz.ntmps73
  go_wp2
  rw [run_callFunc_extern Tryz.func91 (by kernel_rfl) (by kernel_rfl) (by kernel_rfl) (e := Extern.BytealgIndexByte.indexByte) (by kernel_rfl), Lib.run_indexByteString]
  simp only [Result.andThen]
  rw [Oper.upon_value]
  go_wp2
  go_ret
  exact ⟨rfl, rfl⟩
theorem indexByte_any (s : ByteArray) (c : Int) (w : World) :
    Calls Tryz.prog 56 #[.string s, .int .u8 c] w fun e w' => e = .returned (.int .i64 (Lib.indexByte s.data.toList c.toNat.toUInt8)) ∧ w' = w := by
  go_enter Tryz.func56, Tryz.ntmps56
  go_wp2_with (go_at_call 73; refine (indexByteL_any _ _ _).mono ?_; rintro e w' ⟨rfl, rfl⟩)
  go_ret
  exact ⟨rfl, rfl⟩
theorem hasPrefix_any (s p : ByteArray) (w : World) :
    Calls Tryz.prog 68 #[.string s, .string p] w fun e w' => e = .returned (.bool (Lib.hasPrefix s.data.toList p.data.toList)) ∧ w' = w := by
  rw [← Lib.hasPrefix_of_take, ← Lib.size_eq, ← Lib.size_eq]
  go_enter Tryz.func68, Tryz.ntmps68
  go_wp2
  · rename_i h
    go_ret
    refine ⟨?_, rfl⟩
    show Ending.returned (Value.bool ((s.extract 0 p.size).toList == p.toList)) = _
    rw [Lib.extract_toList, Lib.toList_data]
    simp [h]
  · rename_i h
    go_ret
    refine ⟨?_, rfl⟩
    show Ending.returned (Value.bool false) = _
    simp [h]
/-- Is a byte one of a text's? -/
def amo (c : Nat) (m : ByteArray) : Bool := decide (0 ≤ Lib.indexByte m.data.toList c.toUInt8)
theorem among_any (c : Nat) (m : ByteArray) (w : World) :
    Calls Tryz.prog 41 #[.int .u8 c, .string m] w fun e w' => e = .returned (.bool (amo c m)) ∧ w' = w := by
  unfold amo
  go_enter Tryz.func41, Tryz.ntmps41
  go_wp2_with (go_at_call 56; refine (indexByte_any _ _ _).mono ?_; rintro e w' ⟨rfl, rfl⟩)
  go_ret
  exact ⟨by simp, rfl⟩
section
variable {T : TypeId} {tl : List Value} {s md : ByteArray} {at_ cs b : Nat} {w : World}
theorem take_end (h : Scn T tl s s.size md cs b w) (hs : s.size ≤ 400) :
    Calls Tryz.prog 71 #[.pointer (some ⟨b, 0, none⟩)] w fun e w' => e = .returned (.tuple #[.int .u8 0, .bool false]) ∧ ∃ q, w' = w.drewN q := by
  have c0 := h.c0; have c1 := h.c1
  clear h
  go_enter Tryz.func71, Tryz.ntmps71
  go_wp2
  go_quiet (fail)
  go_wp2
  go_ret2
  exact ⟨rfl, _, rfl⟩
theorem Scn.step (h : Scn T tl s at_ md cs b w) : Scn T tl s (at_ + 1) md cs b (w.setCell ⟨b, 1, none⟩ (.int .i64 ((at_ : Int) + 1))) := h.set1 (at_ + 1)
theorem Scn.add (h : Scn T tl s at_ md cs b w) (n : Nat) : Scn T tl s (at_ + n) md cs b (w.setCell ⟨b, 1, none⟩ (.int .i64 ((at_ : Int) + (n : Int)))) := h.set1 (at_ + n)
theorem take_one (h : Scn T tl s at_ md cs b w) (hs : s.size ≤ 400) (ha : at_ < s.size) :
    Calls Tryz.prog 71 #[.pointer (some ⟨b, 0, none⟩)] w fun e w' => e = .returned (.tuple #[.int .u8 (byteAt s at_), .bool true]) ∧ Fr (On b) w w' ∧ Scn T tl s (at_ + 1) md cs b w' := by
  have HB : Hid (byteAt s at_ = (s[at_]).toNat) := byteAt_eq s at_ ha
  have HF : Hid (∀ q r, Fr (On b) w (((w.drewN q).setCell ⟨b, 1, none⟩ (.int .i64 ((at_ : Int) + 1))).drewN r) ∧ Scn T tl s (at_ + 1) md cs b (((w.drewN q).setCell ⟨b, 1, none⟩ (.int .i64 ((at_ : Int) + 1))).drewN r)) := fun q r =>
    ⟨((Fr.drewN _ w q).trans (fr_set _ _ _ _)).trans (Fr.drewN _ _ r), (h.drewN q).step.drewN r⟩
  have c0 := h.c0; have c1 := h.c1; have f1 := h.fz 1
  have hne : ((at_ : Int) == (s.size : Int)) = false := by simp; omega
  clear h
  go_enter Tryz.func71, Tryz.ntmps71
  go_wp2
  go_quiet (fail)
  go_wp2
  go_quiet (fail)
  go_wp2
  go_ret2
  exact ⟨by rw [HB.out]; rfl, HF.out _ _⟩
/-- Does the text 't' come at a place? -/
def pfx (s : ByteArray) (k : Nat) (t : ByteArray) : Bool := Lib.hasPrefix (s.data.toList.drop k) t.data.toList
theorem skip_any (h : Scn T tl s at_ md cs b w) (hs : s.size ≤ 400) (ha : at_ ≤ s.size) (t : ByteArray) (ht : t.size ≤ 400) (y : Bool) (hy : pfx s at_ t = y) :
    Calls Tryz.prog 92 #[.pointer (some ⟨b, 0, none⟩), .string t] w fun e w' => e = .returned (.bool y) ∧ Fr (On b) w w' ∧ Scn T tl s (if y then at_ + t.size else at_) md cs b w' := by
  have HF : Hid (∀ q, (Fr (On b) w ((w.drewN q).setCell ⟨b, 1, none⟩ (.int .i64 ((at_ : Int) + (t.size : Int)))) ∧ Scn T tl s (at_ + t.size) md cs b ((w.drewN q).setCell ⟨b, 1, none⟩ (.int .i64 ((at_ : Int) + (t.size : Int))))) ∧ (Fr (On b) w (w.drewN q) ∧ Scn T tl s at_ md cs b (w.drewN q))) := fun q =>
    ⟨⟨(Fr.drewN _ w q).trans (fr_set _ _ _ _), (h.drewN q).add t.size⟩, Fr.drewN _ w q, h.drewN q⟩
  have HY : Hid (Lib.hasPrefix (List.take (s.size - at_) (List.drop at_ s.data.toList)) t.data.toList = y) := by
    show Lib.hasPrefix (List.take (s.size - at_) (List.drop at_ s.data.toList)) t.data.toList = y
    rw [List.take_of_length_le (by rw [List.length_drop, ← Lib.size_eq]; omega)]
    exact hy
  have c0 := h.c0; have c1 := h.c1; have f1 := h.fz 1
  clear h hy
  go_enter Tryz.func92, Tryz.ntmps92
  go_wp2
  go_quiet ((go_at_call 68; exact Calls.quiet_of_same (hasPrefix_any _ _ _)))
  rw [HY.out]
  cases y
  · go_wp2
    go_ret
    exact ⟨rfl, (HF.out _).2⟩
  · go_wp2
    go_ret
    exact ⟨rfl, (HF.out _).1⟩
end
end Go.Proofs.YtpahpnajeliodaaGreatDoor
/- The scanner's calls escaped, token. -/
namespace Go.Proofs.YtpahpnajeliodaaGreatDoor
open Go.ChangeShapes Go.WideShapes Go.ChangeAt Go.RowKit
set_option linter.unusedVariables false
set_option linter.unusedSimpArgs false

structure Tok where
  kd : Nat
  c : Nat
  pl : Nat
deriving DecidableEq
def Tok.val (t : Tok) : Value := .agg #[.int .u8 t.kd, .int .u8 t.c, .int .i64 t.pl]
def mdV : ByteArray := ⟨#[94, 36, 46, 42, 91, 126, 43, 61, 63, 123, 40, 41, 124, 60, 62]⟩
/-- What is wrong, and where: the panic's value. -/
def Wrong (n a : Nat) : Ending := .panicked [{ v := .iface 52 (.agg #[.int .u16 n, .int .i64 a]), recovered := false }]
def escTok (s : ByteArray) (k : Nat) (md : ByteArray) (pl : Nat) : Tok :=
  ⟨if amo (byteAt s k) md then 1 else if amo (byteAt s k) mdV then 2 else if letB (byteAt s k) then 3 else if digB (byteAt s k) then 3 else 1, byteAt s k, pl⟩
/-- A token in a block of its own. -/
def TokBox (n : Nat) (t : Tok) (w : World) : Prop := w.heap[n]? = some (.cells #[.int .u8 t.kd, .int .u8 t.c, .int .i64 t.pl] 75 (0, 0))
theorem TokBox.cells {n : Nat} {t : Tok} {w : World} (h : TokBox n t w) : (w.cell? ⟨n, 0, none⟩ = some (.int .u8 t.kd) ∧ w.cell? ⟨n, 1, none⟩ = some (.int .u8 t.c) ∧ w.cell? ⟨n, 2, none⟩ = some (.int .i64 t.pl)) ∧ w.frozen? ⟨n, 0, none⟩ = false ∧ w.frozen? ⟨n, 1, none⟩ = false ∧ w.frozen? ⟨n, 2, none⟩ = false := by
  unfold TokBox at h
  exact ⟨⟨by simp [World.cell?, h], by simp [World.cell?, h], by simp [World.cell?, h]⟩, by simp [World.frozen?, h], by simp [World.frozen?, h], by simp [World.frozen?, h]⟩
theorem TokBox.put {n : Nat} {t : Tok} {w : World} (h : TokBox n t w) (a b c : Value) : (w.setCell ⟨n, 0, none⟩ a).cell? ⟨n, 0, none⟩ = some a ∧ ((w.setCell ⟨n, 0, none⟩ a).setCell ⟨n, 1, none⟩ b).cell? ⟨n, 1, none⟩ = some b ∧ (((w.setCell ⟨n, 0, none⟩ a).setCell ⟨n, 1, none⟩ b).setCell ⟨n, 2, none⟩ c).cell? ⟨n, 2, none⟩ = some c ∧
    (((w.setCell ⟨n, 0, none⟩ a).setCell ⟨n, 1, none⟩ b).setCell ⟨n, 2, none⟩ c).heap[n]? = some (.cells #[a, b, c] 75 (0, 0)) := by
  have h0 := heap_setCell (off := 0) (v := a) h
  have h1 := heap_setCell (off := 1) (v := b) h0
  have h2 := heap_setCell (off := 2) (v := c) h1
  exact ⟨by simp only [World.cell?, h0]; rfl, by simp only [World.cell?, h1]; rfl, by simp only [World.cell?, h2]; rfl, h2⟩
theorem TokBox.new (w : World) : TokBox w.heap.size ⟨0, 0, 0⟩ (w.alloc (.cells #[.int .u8 0, .int .u8 0, .int .i64 0] 75)) := alloc_new w _
theorem TokBox.fr {n b : Nat} {t : Tok} {w w' : World} (h : TokBox n t w) (k : Fr (On b) w w') (hn : n ≠ b) : TokBox n t w' := by
  unfold TokBox at *
  rw [k.block n (Array.getElem?_eq_some_iff.1 h).1 hn]; exact h
theorem TokBox.kp {n : Nat} {t : Tok} {w w' : World} (h : TokBox n t w) (k : Kp w w') : TokBox n t w' := by
  unfold TokBox at *
  rw [k.block n (Array.getElem?_eq_some_iff.1 h).1]; exact h
section
variable {T : TypeId} {tl : List Value} {s md : ByteArray} {at_ cs b : Nat} {w : World}
theorem escaped_no (h : Scn T tl s s.size md cs b w) (hs : s.size ≤ 400) (pl : Nat) :
    Calls Tryz.prog 72 #[.pointer (some ⟨b, 0, none⟩), .int .i64 pl] w fun e w' => e = Wrong 30 pl ∧ Fr (On b) w w' := by
  have HT : Hid (∀ ob, Calls Tryz.prog 71 #[.pointer (some ⟨b, 0, none⟩)] (w.alloc ob) fun e w' => e = .returned (.tuple #[.int .u8 0, .bool false]) ∧ ∃ q, w' = (w.alloc ob).drewN q) := fun ob => take_end (h.kp (kp_alloc w ob)) hs
  unfold Wrong
  clear h
  go_enter Tryz.func72, Tryz.ntmps72
  go_wp2_with fail
  refine (HT.out _).mono ?_
  rintro e w1 ⟨rfl, q, rfl⟩
  go_wp2_with fail
  exact ⟨rfl, rfl, (Fr.alloc _ w _).trans (Fr.drewN _ _ _)⟩
theorem isB_a (c : Int) : isB 97 c = letB c := by simp [isB, smI, grtB, bt, knB, clsB]
theorem isB_d (c : Int) : isB 100 c = digB c := by simp [isB, smI, grtB, bt, knB, clsB]
theorem is_a (c : Int) (w : World) : Calls Tryz.prog 90 #[.int .u8 97, .int .u8 c] w fun e w' => e = .returned (.bool (letB c)) ∧ Kp w w' := by rw [← isB_a]; exact kIs_any 97 c w
theorem is_d (c : Int) (w : World) : Calls Tryz.prog 90 #[.int .u8 100, .int .u8 c] w fun e w' => e = .returned (.bool (digB c)) ∧ Kp w w' := by rw [← isB_d]; exact kIs_any 100 c w
theorem escaped_ok (h : Scn T tl s at_ md cs b w) (hs : s.size ≤ 400) (ha : at_ < s.size) (pl : Nat) :
    Calls Tryz.prog 72 #[.pointer (some ⟨b, 0, none⟩), .int .i64 pl] w fun e w' => e = .returned (escTok s at_ md pl).val ∧ Fr (On b) w w' ∧ Scn T tl s (at_ + 1) md cs b w' := by
  have HT : Hid (∀ ob, Calls Tryz.prog 71 #[.pointer (some ⟨b, 0, none⟩)] (w.alloc ob) fun e w' => e = .returned (.tuple #[.int .u8 (byteAt s at_), .bool true]) ∧ Fr (On b) (w.alloc ob) w' ∧ Scn T tl s (at_ + 1) md cs b w') := fun ob => take_one (h.kp (kp_alloc w ob)) hs ha
  unfold escTok
  generalize byteAt s at_ = c at *
  have hne : w.heap.size ≠ b := Nat.ne_of_gt h.lt
  clear h
  have hm : mdV = ⟨#[94, 36, 46, 42, 91, 126, 43, 61, 63, 123, 40, 41, 124, 60, 62]⟩ := rfl
  rw [hm]
  clear hm
  cases h1 : amo c md with
  | true =>
    go_enter Tryz.func72, Tryz.ntmps72
    go_wp2_with fail
    refine (HT.out _).mono ?_
    rintro e w1 ⟨rfl, q1, q2⟩
    have c2 := q2.c2
    have HQ : Hid (∀ w2, Kp w1 w2 → Fr (On b) w w2 ∧ Scn T tl s (at_ + 1) md cs b w2) := fun w2 k => ⟨q1.frAlloc.trans (Fr.of_below k), q2.kp k⟩
    have HX : Hid (∀ w2, Kp w1 w2 → TokBox w.heap.size ⟨0, 0, 0⟩ w2) := fun w2 k => ((TokBox.new w).fr q1 hne).kp k
    obtain ⟨⟨r0, r1, r2⟩, z0, z1, z2⟩ := (HX.out w1 (Below.refl _ _)).cells
    clear q1 q2
    go_wp2_with (go_at_call 41; refine (among_any _ _ _).mono ?_; rintro e _ ⟨rfl, rfl⟩)
    have HE := HQ.out _ (Below.refl _ _)
    obtain ⟨e0, e1, e2, _⟩ := (HX.out _ (Below.refl _ _)).put (.int .u8 1) (.int .u8 c) (.int .i64 pl)
    exact bodyPost_ret (v := .agg #[.int .u8 1, .int .u8 c, .int .i64 pl]) (by simp [results, Tryz.results72, go_sem, e0, e1, e2]) rfl ⟨rfl, ((HE.1.new (Nat.le_refl _)).new (Nat.le_refl _)).new (Nat.le_refl _), ((HE.2.other hne).other hne).other hne⟩
  | false =>
    cases h2 : amo c ⟨#[94, 36, 46, 42, 91, 126, 43, 61, 63, 123, 40, 41, 124, 60, 62]⟩ with
    | true =>
      go_enter Tryz.func72, Tryz.ntmps72
      go_wp2_with fail
      refine (HT.out _).mono ?_
      rintro e w1 ⟨rfl, q1, q2⟩
      have c2 := q2.c2
      have HQ : Hid (∀ w2, Kp w1 w2 → Fr (On b) w w2 ∧ Scn T tl s (at_ + 1) md cs b w2) := fun w2 k => ⟨q1.frAlloc.trans (Fr.of_below k), q2.kp k⟩
      have HX : Hid (∀ w2, Kp w1 w2 → TokBox w.heap.size ⟨0, 0, 0⟩ w2) := fun w2 k => ((TokBox.new w).fr q1 hne).kp k
      obtain ⟨⟨r0, r1, r2⟩, z0, z1, z2⟩ := (HX.out w1 (Below.refl _ _)).cells
      clear q1 q2
      go_wp2_with (go_at_call 41; refine (among_any _ _ _).mono ?_; rintro e _ ⟨rfl, rfl⟩)
      have HE := HQ.out _ (Below.refl _ _)
      obtain ⟨e0, e1, e2, _⟩ := (HX.out _ (Below.refl _ _)).put (.int .u8 2) (.int .u8 c) (.int .i64 pl)
      exact bodyPost_ret (v := .agg #[.int .u8 2, .int .u8 c, .int .i64 pl]) (by simp [results, Tryz.results72, go_sem, e0, e1, e2]) rfl ⟨rfl, ((HE.1.new (Nat.le_refl _)).new (Nat.le_refl _)).new (Nat.le_refl _), ((HE.2.other hne).other hne).other hne⟩
    | false =>
      cases h3 : letB c with
      | true =>
        go_enter Tryz.func72, Tryz.ntmps72
        go_wp2_with fail
        refine (HT.out _).mono ?_
        rintro e w1 ⟨rfl, q1, q2⟩
        have c2 := q2.c2
        have HQ : Hid (∀ w2, Kp w1 w2 → Fr (On b) w w2 ∧ Scn T tl s (at_ + 1) md cs b w2) := fun w2 k => ⟨q1.frAlloc.trans (Fr.of_below k), q2.kp k⟩
        have HX : Hid (∀ w2, Kp w1 w2 → TokBox w.heap.size ⟨0, 0, 0⟩ w2) := fun w2 k => ((TokBox.new w).fr q1 hne).kp k
        obtain ⟨⟨r0, r1, r2⟩, z0, z1, z2⟩ := (HX.out w1 (Below.refl _ _)).cells
        clear q1 q2
        go_wp2_with (go_at_call 41; refine (among_any _ _ _).mono ?_; rintro e _ ⟨rfl, rfl⟩)
        refine (is_a _ _).mono ?_
        rintro e w2 ⟨rfl, k2⟩
        rw [h3]
        obtain ⟨⟨r0, r1, r2⟩, z0, z1, z2⟩ := (HX.out w2 k2).cells
        have K2 : Hid (Kp _ w2) := k2
        clear k2
        go_wp2_with fail
        have HE := HQ.out _ K2.out
        obtain ⟨e0, e1, e2, _⟩ := (HX.out _ K2.out).put (.int .u8 3) (.int .u8 c) (.int .i64 pl)
        exact bodyPost_ret (v := .agg #[.int .u8 3, .int .u8 c, .int .i64 pl]) (by simp [results, Tryz.results72, go_sem, e0, e1, e2]) rfl ⟨rfl, ((HE.1.new (Nat.le_refl _)).new (Nat.le_refl _)).new (Nat.le_refl _), ((HE.2.other hne).other hne).other hne⟩
      | false =>
        cases h4 : digB c with
        | true =>
          go_enter Tryz.func72, Tryz.ntmps72
          go_wp2_with fail
          refine (HT.out _).mono ?_
          rintro e w1 ⟨rfl, q1, q2⟩
          have c2 := q2.c2
          have HQ : Hid (∀ w2, Kp w1 w2 → Fr (On b) w w2 ∧ Scn T tl s (at_ + 1) md cs b w2) := fun w2 k => ⟨q1.frAlloc.trans (Fr.of_below k), q2.kp k⟩
          have HX : Hid (∀ w2, Kp w1 w2 → TokBox w.heap.size ⟨0, 0, 0⟩ w2) := fun w2 k => ((TokBox.new w).fr q1 hne).kp k
          obtain ⟨⟨r0, r1, r2⟩, z0, z1, z2⟩ := (HX.out w1 (Below.refl _ _)).cells
          clear q1 q2
          go_wp2_with (go_at_call 41; refine (among_any _ _ _).mono ?_; rintro e _ ⟨rfl, rfl⟩)
          refine (is_a _ _).mono ?_
          rintro e w2 ⟨rfl, k2⟩
          rw [h3]
          obtain ⟨⟨r0, r1, r2⟩, z0, z1, z2⟩ := (HX.out w2 k2).cells
          have K2 : Hid (Kp _ w2) := k2
          clear k2
          go_wp2_with fail
          refine (is_d _ _).mono ?_
          rintro e w3 ⟨rfl, k3⟩
          rw [h4]
          obtain ⟨⟨r0, r1, r2⟩, z0, z1, z2⟩ := (HX.out w3 (kp_trans K2.out k3)).cells
          have K3 : Hid (Kp _ w3) := kp_trans K2.out k3
          clear k3
          go_wp2_with fail
          have HE := HQ.out _ K3.out
          obtain ⟨e0, e1, e2, _⟩ := (HX.out _ K3.out).put (.int .u8 3) (.int .u8 c) (.int .i64 pl)
          exact bodyPost_ret (v := .agg #[.int .u8 3, .int .u8 c, .int .i64 pl]) (by simp [results, Tryz.results72, go_sem, e0, e1, e2]) rfl ⟨rfl, ((HE.1.new (Nat.le_refl _)).new (Nat.le_refl _)).new (Nat.le_refl _), ((HE.2.other hne).other hne).other hne⟩
        | false =>
          go_enter Tryz.func72, Tryz.ntmps72
          go_wp2_with fail
          refine (HT.out _).mono ?_
          rintro e w1 ⟨rfl, q1, q2⟩
          have c2 := q2.c2
          have HQ : Hid (∀ w2, Kp w1 w2 → Fr (On b) w w2 ∧ Scn T tl s (at_ + 1) md cs b w2) := fun w2 k => ⟨q1.frAlloc.trans (Fr.of_below k), q2.kp k⟩
          have HX : Hid (∀ w2, Kp w1 w2 → TokBox w.heap.size ⟨0, 0, 0⟩ w2) := fun w2 k => ((TokBox.new w).fr q1 hne).kp k
          obtain ⟨⟨r0, r1, r2⟩, z0, z1, z2⟩ := (HX.out w1 (Below.refl _ _)).cells
          clear q1 q2
          go_wp2_with (go_at_call 41; refine (among_any _ _ _).mono ?_; rintro e _ ⟨rfl, rfl⟩)
          refine (is_a _ _).mono ?_
          rintro e w2 ⟨rfl, k2⟩
          rw [h3]
          obtain ⟨⟨r0, r1, r2⟩, z0, z1, z2⟩ := (HX.out w2 k2).cells
          have K2 : Hid (Kp _ w2) := k2
          clear k2
          go_wp2_with fail
          refine (is_d _ _).mono ?_
          rintro e w3 ⟨rfl, k3⟩
          rw [h4]
          obtain ⟨⟨r0, r1, r2⟩, z0, z1, z2⟩ := (HX.out w3 (kp_trans K2.out k3)).cells
          have K3 : Hid (Kp _ w3) := kp_trans K2.out k3
          clear k3
          go_wp2_with fail
          have HE := HQ.out _ K3.out
          obtain ⟨e0, e1, e2, _⟩ := (HX.out _ K3.out).put (.int .u8 1) (.int .u8 c) (.int .i64 pl)
          exact bodyPost_ret (v := .agg #[.int .u8 1, .int .u8 c, .int .i64 pl]) (by simp [results, Tryz.results72, go_sem, e0, e1, e2]) rfl ⟨rfl, ((HE.1.new (Nat.le_refl _)).new (Nat.le_refl _)).new (Nat.le_refl _), ((HE.2.other hne).other hne).other hne⟩
end
end Go.Proofs.YtpahpnajeliodaaGreatDoor
/- The scanner's calls token, obey, next, peek; a token's isSign, endsBranch. -/
namespace Go.Proofs.YtpahpnajeliodaaGreatDoor
open Go.ChangeShapes Go.WideShapes Go.ChangeAt Go.RowKit
set_option linter.unusedVariables false
set_option linter.unusedSimpArgs false

def tokOf (s md : ByteArray) (k : Nat) : Option (Tok × Nat) :=
  if k < s.size then
    if byteAt s k = 92 then
      if k + 1 < s.size then some (escTok s (k + 1) md k, k + 2) else none
    else some (⟨if amo (byteAt s k) md then 2 else 1, byteAt s k, k⟩, k + 1)
  else some (⟨0, 0, k⟩, k)
section
variable {T : TypeId} {tl : List Value} {s md : ByteArray} {at_ cs b : Nat} {w : World}
theorem token_end (h : Scn T tl s at_ md cs b w) (hs : s.size ≤ 400) (he : at_ = s.size) :
    Calls Tryz.prog 54 #[.pointer (some ⟨b, 0, none⟩)] w fun e w' => e = .returned (Tok.val ⟨0, 0, at_⟩) ∧ Fr (On b) w w' ∧ Scn T tl s at_ md cs b w' := by
  have HT : Hid (∀ ob, Calls Tryz.prog 71 #[.pointer (some ⟨b, 0, none⟩)] (w.alloc ob) fun e w' => e = .returned (.tuple #[.int .u8 0, .bool false]) ∧ ∃ q, w' = (w.alloc ob).drewN q) := fun ob => by subst he; exact take_end (h.kp (kp_alloc w ob)) hs
  have HQ : Hid (∀ ob q, Fr (On b) w ((w.alloc ob).drewN q) ∧ Scn T tl s at_ md cs b ((w.alloc ob).drewN q)) := fun ob q => ⟨(Fr.alloc _ w ob).trans (Fr.drewN _ _ q), (h.kp (kp_alloc w ob)).drewN q⟩
  have HX : Hid (∀ q, TokBox w.heap.size ⟨0, 0, 0⟩ ((w.alloc (.cells #[.int .u8 0, .int .u8 0, .int .i64 0] 75)).drewN q)) := fun q => (TokBox.new w).kp (kp_drewN _ q)
  have c1 := h.c1
  have hne : w.heap.size ≠ b := Nat.ne_of_gt h.lt
  have c1' : ∀ ob, (w.alloc ob).cell? ⟨b, 1, none⟩ = some (.int .i64 at_) := fun ob => (h.kp (kp_alloc w ob)).c1
  clear h he
  go_enter Tryz.func54, Tryz.ntmps54
  go_wp2_with fail
  refine (HT.out _).mono ?_
  rintro e w1 ⟨rfl, q, rfl⟩
  obtain ⟨⟨r0, r1, r2⟩, z0, z1, z2⟩ := (HX.out q).cells
  go_wp2_with fail
  have HE := HQ.out (.cells #[.int .u8 0, .int .u8 0, .int .i64 0] 75) q
  obtain ⟨e0, e1, e2, _⟩ := (HX.out q).put (.int .u8 0) (.int .u8 0) (.int .i64 at_)
  exact bodyPost_ret (v := .agg #[.int .u8 0, .int .u8 0, .int .i64 at_]) (by simp [results, Tryz.results54, go_sem, e0, e1, e2]) rfl ⟨rfl, ((HE.1.new (Nat.le_refl _)).new (Nat.le_refl _)).new (Nat.le_refl _), ((HE.2.other hne).other hne).other hne⟩
theorem token_byte (h : Scn T tl s at_ md cs b w) (hs : s.size ≤ 400) (ha : at_ < s.size) (hc : byteAt s at_ ≠ 92) :
    Calls Tryz.prog 54 #[.pointer (some ⟨b, 0, none⟩)] w fun e w' => e = .returned (Tok.val ⟨if amo (byteAt s at_) md then 2 else 1, byteAt s at_, at_⟩) ∧ Fr (On b) w w' ∧ Scn T tl s (at_ + 1) md cs b w' := by
  have HT : Hid (∀ ob, Calls Tryz.prog 71 #[.pointer (some ⟨b, 0, none⟩)] (w.alloc ob) fun e w' => e = .returned (.tuple #[.int .u8 (byteAt s at_), .bool true]) ∧ Fr (On b) (w.alloc ob) w' ∧ Scn T tl s (at_ + 1) md cs b w') := fun ob => take_one (h.kp (kp_alloc w ob)) hs ha
  have c1 := h.c1
  have hne : w.heap.size ≠ b := Nat.ne_of_gt h.lt
  have c1' : ∀ ob, (w.alloc ob).cell? ⟨b, 1, none⟩ = some (.int .i64 at_) := fun ob => (h.kp (kp_alloc w ob)).c1
  generalize byteAt s at_ = c at *
  have hd : ((c : Int) == 92) = false := by simp; omega
  clear h hc
  cases h1 : amo c md with
  | true =>
    go_enter Tryz.func54, Tryz.ntmps54
    go_wp2_with fail
    refine (HT.out _).mono ?_
    rintro e w1 ⟨rfl, q1, q2⟩
    have c2 := q2.c2
    have HQ : Hid (Fr (On b) w w1 ∧ Scn T tl s (at_ + 1) md cs b w1 ∧ TokBox w.heap.size ⟨0, 0, 0⟩ w1) := ⟨q1.frAlloc, q2, (TokBox.new w).fr q1 hne⟩
    obtain ⟨⟨r0, r1, r2⟩, z0, z1, z2⟩ := HQ.out.2.2.cells
    clear q1 q2
    go_wp2_with (go_at_call 41; refine (among_any _ _ _).mono ?_; rintro e _ ⟨rfl, rfl⟩)
    obtain ⟨e0, e1, e2, _⟩ := HQ.out.2.2.put (.int .u8 2) (.int .u8 c) (.int .i64 at_)
    exact bodyPost_ret (v := .agg #[.int .u8 2, .int .u8 c, .int .i64 at_]) (by simp [results, Tryz.results54, go_sem, e0, e1, e2]) rfl ⟨rfl, ((HQ.out.1.new (Nat.le_refl _)).new (Nat.le_refl _)).new (Nat.le_refl _), ((HQ.out.2.1.other hne).other hne).other hne⟩
  | false =>
    go_enter Tryz.func54, Tryz.ntmps54
    go_wp2_with fail
    refine (HT.out _).mono ?_
    rintro e w1 ⟨rfl, q1, q2⟩
    have c2 := q2.c2
    have HQ : Hid (Fr (On b) w w1 ∧ Scn T tl s (at_ + 1) md cs b w1 ∧ TokBox w.heap.size ⟨0, 0, 0⟩ w1) := ⟨q1.frAlloc, q2, (TokBox.new w).fr q1 hne⟩
    obtain ⟨⟨r0, r1, r2⟩, z0, z1, z2⟩ := HQ.out.2.2.cells
    clear q1 q2
    go_wp2_with (go_at_call 41; refine (among_any _ _ _).mono ?_; rintro e _ ⟨rfl, rfl⟩)
    obtain ⟨e0, e1, e2, _⟩ := HQ.out.2.2.put (.int .u8 1) (.int .u8 c) (.int .i64 at_)
    exact bodyPost_ret (v := .agg #[.int .u8 1, .int .u8 c, .int .i64 at_]) (by simp [results, Tryz.results54, go_sem, e0, e1, e2]) rfl ⟨rfl, ((HQ.out.1.new (Nat.le_refl _)).new (Nat.le_refl _)).new (Nat.le_refl _), ((HQ.out.2.1.other hne).other hne).other hne⟩
theorem token_esc (h : Scn T tl s at_ md cs b w) (hs : s.size ≤ 400) (ha : at_ + 1 < s.size) (hc : byteAt s at_ = 92) :
    Calls Tryz.prog 54 #[.pointer (some ⟨b, 0, none⟩)] w fun e w' => e = .returned (escTok s (at_ + 1) md at_).val ∧ Fr (On b) w w' ∧ Scn T tl s (at_ + 2) md cs b w' := by
  have HT : Hid (∀ ob, Calls Tryz.prog 71 #[.pointer (some ⟨b, 0, none⟩)] (w.alloc ob) fun e w' => e = .returned (.tuple #[.int .u8 (byteAt s at_), .bool true]) ∧ Fr (On b) (w.alloc ob) w' ∧ Scn T tl s (at_ + 1) md cs b w') := fun ob => take_one (h.kp (kp_alloc w ob)) hs (by omega)
  have c1 := h.c1
  have hne : w.heap.size ≠ b := Nat.ne_of_gt h.lt
  have c1' : ∀ ob, (w.alloc ob).cell? ⟨b, 1, none⟩ = some (.int .i64 at_) := fun ob => (h.kp (kp_alloc w ob)).c1
  rw [hc] at HT
  have HE : Hid (∀ w1, Scn T tl s (at_ + 1) md cs b w1 → Calls Tryz.prog 72 #[.pointer (some ⟨b, 0, none⟩), .int .i64 at_] w1 fun e w' => e = .returned (escTok s (at_ + 1) md at_).val ∧ Fr (On b) w1 w' ∧ Scn T tl s (at_ + 2) md cs b w') := fun w1 q => escaped_ok q hs ha at_
  generalize escTok s (at_ + 1) md at_ = t at *
  obtain ⟨kd, c, pl⟩ := t
  unfold Tok.val at *
  simp only at *
  clear h hc
  go_enter Tryz.func54, Tryz.ntmps54
  go_wp2_with fail
  refine (HT.out _).mono ?_
  rintro e w1 ⟨rfl, q1, q2⟩
  have HQ : Hid (Fr (On b) w w1 ∧ Scn T tl s (at_ + 1) md cs b w1 ∧ TokBox w.heap.size ⟨0, 0, 0⟩ w1) := ⟨q1.frAlloc, q2, (TokBox.new w).fr q1 hne⟩
  clear q1 q2
  go_wp2_with fail
  refine (HE.out _ HQ.out.2.1).mono ?_
  rintro e w2 ⟨rfl, q1, q2⟩
  have HQ2 : Hid (Fr (On b) w w2 ∧ Scn T tl s (at_ + 2) md cs b w2 ∧ TokBox w.heap.size ⟨0, 0, 0⟩ w2) := ⟨HQ.out.1.trans q1, q2, HQ.out.2.2.fr q1 hne⟩
  obtain ⟨⟨r0, r1, r2⟩, z0, z1, z2⟩ := HQ2.out.2.2.cells
  clear q1 q2
  go_wp2_with fail
  obtain ⟨e0, e1, e2, _⟩ := HQ2.out.2.2.put (.int .u8 kd) (.int .u8 c) (.int .i64 pl)
  exact bodyPost_ret (v := .agg #[.int .u8 kd, .int .u8 c, .int .i64 pl]) (by simp [results, Tryz.results54, go_sem, e0, e1, e2]) rfl ⟨rfl, ((HQ2.out.1.new (Nat.le_refl _)).new (Nat.le_refl _)).new (Nat.le_refl _), ((HQ2.out.2.1.other hne).other hne).other hne⟩
theorem token_no (h : Scn T tl s at_ md cs b w) (hs : s.size ≤ 400) (ha : at_ + 1 = s.size) (hc : byteAt s at_ = 92) :
    Calls Tryz.prog 54 #[.pointer (some ⟨b, 0, none⟩)] w fun e w' => e = Wrong 30 at_ ∧ Fr (On b) w w' := by
  have HT : Hid (∀ ob, Calls Tryz.prog 71 #[.pointer (some ⟨b, 0, none⟩)] (w.alloc ob) fun e w' => e = .returned (.tuple #[.int .u8 (byteAt s at_), .bool true]) ∧ Fr (On b) (w.alloc ob) w' ∧ Scn T tl s (at_ + 1) md cs b w') := fun ob => take_one (h.kp (kp_alloc w ob)) hs (by omega)
  have c1 := h.c1
  have hne : w.heap.size ≠ b := Nat.ne_of_gt h.lt
  have c1' : ∀ ob, (w.alloc ob).cell? ⟨b, 1, none⟩ = some (.int .i64 at_) := fun ob => (h.kp (kp_alloc w ob)).c1
  rw [hc] at HT
  have HE : Hid (∀ w1, Scn T tl s (at_ + 1) md cs b w1 → Calls Tryz.prog 72 #[.pointer (some ⟨b, 0, none⟩), .int .i64 at_] w1 fun e w' => e = Wrong 30 at_ ∧ Fr (On b) w1 w') := fun w1 q => escaped_no (by rw [ha] at q; exact q) hs at_
  unfold Wrong at *
  clear h hc
  go_enter Tryz.func54, Tryz.ntmps54
  go_wp2_with fail
  refine (HT.out _).mono ?_
  rintro e w1 ⟨rfl, q1, q2⟩
  have HQ : Hid (Fr (On b) w w1 ∧ Scn T tl s (at_ + 1) md cs b w1) := ⟨q1.frAlloc, q2⟩
  clear q1 q2
  go_wp2_with fail
  refine (HE.out _ HQ.out.2).mono ?_
  rintro e w2 ⟨rfl, q1⟩
  go_wp2_with fail
  exact ⟨rfl, rfl, HQ.out.1.trans q1⟩
theorem token_ok {t : Tok} {k : Nat} (h : Scn T tl s at_ md cs b w) (hs : s.size ≤ 400) (ha : at_ ≤ s.size) (ht : tokOf s md at_ = some (t, k)) :
    Calls Tryz.prog 54 #[.pointer (some ⟨b, 0, none⟩)] w fun e w' => e = .returned t.val ∧ Fr (On b) w w' ∧ Scn T tl s k md cs b w' := by
  unfold tokOf at ht
  split at ht
  · rename_i h1
    split at ht
    · rename_i h2
      split at ht
      · rename_i h3
        cases ht
        exact token_esc h hs h3 h2
      · cases ht
    · rename_i h2
      cases ht
      exact token_byte h hs h1 h2
  · cases ht
    exact token_end h hs (by omega)
theorem token_bad (h : Scn T tl s at_ md cs b w) (hs : s.size ≤ 400) (ha : at_ ≤ s.size) (ht : tokOf s md at_ = none) :
    Calls Tryz.prog 54 #[.pointer (some ⟨b, 0, none⟩)] w fun e w' => e = Wrong 30 at_ ∧ Fr (On b) w w' := by
  unfold tokOf at ht
  split at ht
  · rename_i h1
    split at ht
    · rename_i h2
      split at ht
      · cases ht
      · rename_i h3
        exact token_no h hs (by omega) h2
    · cases ht
  · cases ht
end
end Go.Proofs.YtpahpnajeliodaaGreatDoor
/- The scanner's calls obey, next, peek; a token's isSign, endsBranch. -/
namespace Go.Proofs.YtpahpnajeliodaaGreatDoor
open Go.ChangeShapes Go.WideShapes Go.ChangeAt Go.RowKit
set_option linter.unusedVariables false
set_option linter.unusedSimpArgs false

def mdM : ByteArray := ⟨#[94, 36, 46, 42, 91, 126]⟩
def mdN : ByteArray := ⟨#[94, 36]⟩
def mdO : ByteArray := ⟨#[]⟩
/-- What a letter says of mode and case. -/
def obeyF (c : Nat) (md : ByteArray) (cs : Nat) : Option (ByteArray × Nat) :=
  if c = 118 then some (mdV, cs) else if c = 109 then some (mdM, cs) else if c = 77 then some (mdN, cs) else if c = 86 then some (mdO, cs) else if c = 99 then some (md, 1) else if c = 67 then some (md, 2) else none
section
variable {T : TypeId} {tl : List Value} {s md : ByteArray} {at_ cs b : Nat} {w : World}
theorem obey_no {c : Nat} (ho : obeyF c md cs = none) (w : World) :
    Calls Tryz.prog 55 #[.pointer (some ⟨b, 0, none⟩), .int .u8 c] w fun e w' => e = .returned (.bool false) ∧ w' = w := by
  unfold obeyF at ho
  have h1 : ((c : Int) == 118) = false := by by_cases e : c = 118 <;> simp_all; omega
  have h2 : ((c : Int) == 109) = false := by by_cases e : c = 109 <;> simp_all; omega
  have h3 : ((c : Int) == 77) = false := by by_cases e : c = 77 <;> simp_all; omega
  have h4 : ((c : Int) == 86) = false := by by_cases e : c = 86 <;> simp_all; omega
  have h5 : ((c : Int) == 99) = false := by by_cases e : c = 99 <;> simp_all; omega
  have h6 : ((c : Int) == 67) = false := by by_cases e : c = 67 <;> simp_all; omega
  clear ho
  go_enter Tryz.func55, Tryz.ntmps55
  go_wp2
  go_ret
  exact ⟨rfl, rfl⟩
theorem obey_yes {c : Nat} {m' : ByteArray} {c' : Nat} (h : Scn T tl s at_ md cs b w) (ho : obeyF c md cs = some (m', c')) :
    Calls Tryz.prog 55 #[.pointer (some ⟨b, 0, none⟩), .int .u8 c] w fun e w' => e = .returned (.bool true) ∧ Fr (On b) w w' ∧ Scn T tl s at_ m' c' b w' := by
  have c2 := h.c2; have c3 := h.c3; have f2 := h.fz 2; have f3 := h.fz 3
  have H2 : Hid (∀ m', Fr (On b) w (w.setCell ⟨b, 2, none⟩ (.string m')) ∧ Scn T tl s at_ m' cs b (w.setCell ⟨b, 2, none⟩ (.string m'))) := fun m' => ⟨fr_set _ _ _ _, h.set2 m'⟩
  have H3 : Hid (∀ c' : Nat, Fr (On b) w (w.setCell ⟨b, 3, none⟩ (.int .u8 c')) ∧ Scn T tl s at_ md c' b (w.setCell ⟨b, 3, none⟩ (.int .u8 c'))) := fun c' => ⟨fr_set _ _ _ _, h.set3 c'⟩
  clear h
  unfold obeyF at ho
  by_cases hc : c = 118
  · rw [if_pos hc] at ho
    cases ho
    subst hc
    go_enter Tryz.func55, Tryz.ntmps55
    go_wp2
    go_ret
    exact ⟨rfl, H2.out _⟩
  rw [if_neg hc] at ho
  clear hc
  by_cases hc : c = 109
  · rw [if_pos hc] at ho
    cases ho
    subst hc
    go_enter Tryz.func55, Tryz.ntmps55
    go_wp2
    go_ret
    exact ⟨rfl, H2.out _⟩
  rw [if_neg hc] at ho
  clear hc
  by_cases hc : c = 77
  · rw [if_pos hc] at ho
    cases ho
    subst hc
    go_enter Tryz.func55, Tryz.ntmps55
    go_wp2
    go_ret
    exact ⟨rfl, H2.out _⟩
  rw [if_neg hc] at ho
  clear hc
  by_cases hc : c = 86
  · rw [if_pos hc] at ho
    cases ho
    subst hc
    go_enter Tryz.func55, Tryz.ntmps55
    go_wp2
    go_ret
    exact ⟨rfl, H2.out _⟩
  rw [if_neg hc] at ho
  clear hc
  by_cases hc : c = 99
  · rw [if_pos hc] at ho
    cases ho
    subst hc
    go_enter Tryz.func55, Tryz.ntmps55
    go_wp2
    go_ret
    exact ⟨rfl, H3.out 1⟩
  rw [if_neg hc] at ho
  clear hc
  by_cases hc : c = 67
  · rw [if_pos hc] at ho
    cases ho
    subst hc
    go_enter Tryz.func55, Tryz.ntmps55
    go_wp2
    go_ret
    exact ⟨rfl, H3.out 2⟩
  rw [if_neg hc] at ho
  clear hc
  cases ho
theorem isSign_any (t : Tok) (c : Nat) (w : World) : Calls Tryz.prog 30 #[t.val, .int .u8 c] w fun e w' => e = .returned (.bool (decide (t.kd = 2 ∧ t.c = c))) ∧ Kp w w' := by
  obtain ⟨kd, d, pl⟩ := t
  unfold Tok.val
  by_cases h1 : kd = 2
  · have h2 : ((kd : Int) == 2) = true := by simp; omega
    rw [show decide (kd = 2 ∧ d = c) = ((d : Int) == (c : Int)) by by_cases e : d = c <;> simp [h1, e]; omega]
    clear h1
    go_enter Tryz.func30, Tryz.ntmps30
    go_wp2
    go_ret
    exact ⟨rfl, kp_alloc w _⟩
  · have h2 : ((kd : Int) == 2) = false := by simp; omega
    rw [show decide (kd = 2 ∧ d = c) = false by simp [h1]]
    clear h1
    go_enter Tryz.func30, Tryz.ntmps30
    go_wp2
    go_ret
    exact ⟨rfl, kp_alloc w _⟩
/-- No piece of the branch comes any more. -/
def Tok.ends (t : Tok) : Bool := decide (t.kd = 0) || (decide (t.kd = 2 ∧ t.c = 124) || decide (t.kd = 2 ∧ t.c = 41))
theorem ends_any (t : Tok) (w : World) : Calls Tryz.prog 40 #[t.val] w fun e w' => e = .returned (.bool t.ends) ∧ Kp w w' := by
  have HS : Hid (∀ c : Nat, ∀ w, Calls Tryz.prog 30 #[t.val, .int .u8 c] w fun e w' => e = .returned (.bool (decide (t.kd = 2 ∧ t.c = c))) ∧ Kp w w') := fun c w => isSign_any t c w
  unfold Tok.ends
  obtain ⟨kd, d, pl⟩ := t
  unfold Tok.val at *
  simp only at *
  have HB : Hid (∀ w1, Kp (w.alloc (.cells #[.int .u8 kd, .int .u8 d, .int .i64 pl] 75)) w1 → TokBox w.heap.size ⟨kd, d, pl⟩ w1) := fun w1 k => TokBox.kp (t := ⟨kd, d, pl⟩) (alloc_new w _) k
  by_cases h0 : kd = 0
  · have h2 : ((kd : Int) == 0) = true := by simp; omega
    rw [show decide (kd = 0) = true by simp [h0]]
    clear h0
    go_enter Tryz.func40, Tryz.ntmps40
    go_wp2
    go_ret
    exact ⟨rfl, kp_alloc w _⟩
  · have h2 : ((kd : Int) == 0) = false := by simp; omega
    rw [show decide (kd = 0) = false by simp [h0]]
    clear h0
    obtain ⟨x, hx⟩ : ∃ x, decide (kd = 2 ∧ d = 124) = x := ⟨_, rfl⟩
    obtain ⟨y, hy⟩ : ∃ y, decide (kd = 2 ∧ d = 41) = y := ⟨_, rfl⟩
    have A := HS.out 124
    have C := HS.out 41
    rw [hx] at A
    rw [hy] at C
    rw [hx, hy]
    have HA : Hid _ := A
    have HC : Hid _ := C
    clear hx hy A C HS
    go_enter Tryz.func40, Tryz.ntmps40
    go_wp2_with fail
    refine (HA.out _).mono ?_
    rintro e w1 ⟨rfl, k1⟩
    obtain ⟨⟨r0, r1, r2⟩, _⟩ := (HB.out w1 k1).cells
    have K1 : Hid (Kp w w1) := kp_trans (kp_alloc w _) k1
    clear k1
    cases x
    · go_wp2_with fail
      refine (HC.out _).mono ?_
      rintro e w2 ⟨rfl, k2⟩
      have K2 : Hid (Kp w w2) := kp_trans K1.out k2
      clear k2
      go_wp2_with fail
      go_ret
      exact ⟨by simp, K2.out⟩
    · go_wp2_with fail
      go_ret
      exact ⟨by simp, K1.out⟩
end
end Go.Proofs.YtpahpnajeliodaaGreatDoor
/- The scanner's calls next and peek. -/
namespace Go.Proofs.YtpahpnajeliodaaGreatDoor
open Go.ChangeShapes Go.WideShapes Go.ChangeAt Go.RowKit
set_option linter.unusedVariables false
set_option linter.unusedSimpArgs false
/-- What comes next, what is no piece passed over: a token and what the scanner is then; or what is wrong. -/
def nextF (s : ByteArray) : Nat → Nat → ByteArray → Nat → Except (Nat × Nat) (Tok × Nat × ByteArray × Nat)
  | 0, k, _, _ => .error (30, k)
  | f + 1, k, md, cs =>
    match tokOf s md k with
    | none => .error (30, k)
    | some (t, k') =>
      if t.kd = 3 then
        match obeyF t.c md cs with
        | some (md', cs') => nextF s f k' md' cs'
        | none => .ok (t, k', md, cs)
      else .ok (t, k', md, cs)
theorem tokOf_le {s md : ByteArray} {k k' : Nat} {t : Tok} (h : tokOf s md k = some (t, k')) (hk : k ≤ s.size) : k ≤ k' ∧ k' ≤ s.size ∧ (t.kd ≠ 0 → k < k') := by
  unfold tokOf at h
  split at h
  · split at h
    · split at h
      · cases h; exact ⟨by omega, by omega, fun _ => by omega⟩
      · cases h
    · cases h; exact ⟨by omega, by omega, fun _ => by omega⟩
  · cases h; exact ⟨by omega, by omega, fun e => absurd rfl e⟩
/-- What a call of next, or of peek, comes to. -/
def NxtP (T : TypeId) (tl : List Value) (s : ByteArray) (b : Nat) (w : World) (R : Except (Nat × Nat) (Tok × Nat × ByteArray × Nat)) (e : Ending) (w' : World) : Prop :=
  match R with
  | .ok (t, k, md, cs) => e = .returned t.val ∧ Fr (On b) w w' ∧ Scn T tl s k md cs b w'
  | .error (n, a) => e = Wrong n a ∧ Fr (On b) w w'
def PkP (w : World) (R : Except (Nat × Nat) (Tok × Nat × ByteArray × Nat)) (e : Ending) (w' : World) : Prop :=
  match R with
  | .ok (t, _) => e = .returned t.val ∧ Kp w w'
  | .error (n, a) => e = Wrong n a ∧ Kp w w'
def atOf (b : Nat) (w : World) : Nat := match w.cell? ⟨b, 1, none⟩ with | some (.int _ n) => n.toNat | _ => 0
section
variable {T : TypeId} {tl : List Value} {s md : ByteArray} {at_ cs b : Nat} {w : World}
theorem Scn.atOf (h : Scn T tl s at_ md cs b w) : atOf b w = at_ := by simp [Go.Proofs.YtpahpnajeliodaaGreatDoor.atOf, h.c1]
set_option maxHeartbeats 1000000 in
theorem next_any (h : Scn T tl s at_ md cs b w) (hs : s.size ≤ 400) (ha : at_ ≤ s.size) {f : Nat} (hf : s.size - at_ < f) :
    Calls Tryz.prog 39 #[.pointer (some ⟨b, 0, none⟩)] w (NxtP T tl s b w (nextF s f at_ md cs)) := by
  obtain ⟨R, hR⟩ : ∃ R, nextF s f at_ md cs = R := ⟨_, rfl⟩
  rw [hR]
  have hne : w.heap.size ≠ b := Nat.ne_of_gt h.lt
  have H0 : Hid (Scn T tl s at_ md cs b (w.alloc (.cells #[.int .u8 0, .int .u8 0, .int .i64 0] 75)) ∧ nextF s f at_ md cs = R ∧ s.size - at_ < f) := ⟨h.kp (kp_alloc w _), hR, hf⟩
  clear h hR
  go_enter Tryz.func39, Tryz.ntmps39
  go_wp2_with fail
  go_loopw [3] (fun v wr => Fr (On b) w wr ∧ TokBox w.heap.size ⟨0, 0, 0⟩ wr ∧ ∃ k m c f, k ≤ s.size ∧ s.size - k < f ∧ Scn T tl s k m c b wr ∧ nextF s f k m c = R) (fun _ wr => s.size + 1 - atOf b wr)
  case atStart => exact ⟨Fr.alloc _ w _, TokBox.new w, at_, md, cs, f, ha, H0.out.2.2, H0.out.1, H0.out.2.1⟩
  case round =>
    obtain ⟨hFr, hBox, k, m, c, f, hk, hkf, hScn, hR⟩ := hrel
    have HAt : Hid (atOf b wr = k) := hScn.atOf
    obtain ⟨f, rfl⟩ : ∃ f', f = f' + 1 := ⟨f - 1, by omega⟩
    have HKF : Hid (s.size - k < f + 1) := hkf
    rw [nextF] at hR
    cases ht : tokOf s m k with
    | none =>
      rw [ht] at hR
      simp only at hR
      subst hR
      have HT : Hid (Calls Tryz.prog 54 #[.pointer (some ⟨b, 0, none⟩)] wr fun e w' => e = Wrong 30 k ∧ Fr (On b) wr w') := token_bad hScn hs hk ht
      have HFr : Hid (Fr (On b) w wr) := hFr
      clear ht hScn hFr hBox
      unfold Wrong at HT
      go_wp2_with fail
      refine HT.out.mono ?_
      rintro e w1 ⟨rfl, q1⟩
      go_wp2_with fail
      exact ⟨rfl, rfl, HFr.out.trans q1⟩
    | some tk =>
      obtain ⟨⟨kd, d, pl⟩, k'⟩ := tk
      have HT : Hid (Calls Tryz.prog 54 #[.pointer (some ⟨b, 0, none⟩)] wr fun e w' => e = .returned (Tok.val ⟨kd, d, pl⟩) ∧ Fr (On b) wr w' ∧ Scn T tl s k' m c b w') := token_ok hScn hs hk ht
      unfold Tok.val at HT
      simp only at HT
      rw [ht] at hR
      simp only at hR
      obtain ⟨l1, l2, l3⟩ := tokOf_le ht hk
      have HL : Hid (k ≤ k' ∧ k' ≤ s.size ∧ (kd ≠ 0 → k < k')) := ⟨l1, l2, l3⟩
      have HF0 : Hid (Fr (On b) w wr ∧ TokBox w.heap.size ⟨0, 0, 0⟩ wr) := ⟨hFr, hBox⟩
      have HR : Hid ((if kd = 3 then (match obeyF d m c with | some (md', cs') => nextF s f k' md' cs' | none => .ok (⟨kd, d, pl⟩, k', m, c)) else .ok (⟨kd, d, pl⟩, k', m, c)) = R) := hR
      clear ht hScn hFr hBox hR l1 l2 l3
      go_wp2_with fail
      refine HT.out.mono ?_
      rintro e w1 ⟨rfl, q1, q2⟩
      have H1 : Hid (Fr (On b) w w1 ∧ TokBox w.heap.size ⟨0, 0, 0⟩ w1 ∧ Scn T tl s k' m c b w1) := ⟨HF0.out.1.trans q1, HF0.out.2.fr q1 hne, q2⟩
      clear q1 q2 HF0 HT
      have H2 : Hid (∀ ob, Fr (On b) w (w1.alloc ob) ∧ TokBox w.heap.size ⟨0, 0, 0⟩ (w1.alloc ob) ∧ Scn T tl s k' m c b (w1.alloc ob) ∧ w1.heap.size ≠ b) := fun ob => ⟨H1.out.1.trans (Fr.alloc _ _ _), H1.out.2.1.kp (kp_alloc _ _), H1.out.2.2.kp (kp_alloc _ _), Nat.ne_of_gt H1.out.2.2.lt⟩
      have H3 : Hid (TokBox w1.heap.size ⟨kd, d, pl⟩ (w1.alloc (.cells #[.int .u8 kd, .int .u8 d, .int .i64 pl] 75))) := alloc_new w1 _
      go_upto_region 2 with fail
      obtain ⟨w2, hw2⟩ : ∃ w2, w1.alloc (.cells #[.int .u8 kd, .int .u8 d, .int .i64 pl] 75) = w2 := ⟨_, rfl⟩
      have H2' := H2.out (.cells #[.int .u8 kd, .int .u8 d, .int .i64 pl] 75)
      rw [hw2] at H2' H3 ⊢
      have HS2 : Hid _ := H2'
      generalize w1.heap.size = n1 at *
      obtain ⟨⟨t0, t1, t2⟩, _⟩ := H3.out.cells
      obtain ⟨⟨r0, r1, r2⟩, z0, z1, z2⟩ := HS2.out.2.1.cells
      obtain ⟨e0, e1, e2, _⟩ := HS2.out.2.1.put (.int .u8 kd) (.int .u8 d) (.int .i64 pl)
      have HE : Hid (_ ∧ _ ∧ _) := ⟨e0, e1, e2⟩
      clear H1 H2 H2' hw2 e0 e1 e2
      simp only at t0 t1 t2
      by_cases h3 : kd = 3
      · have hd : ((kd : Int) != 3) = false := by simp; omega
        cases ho : obeyF d m c with
        | none =>
          have hR := HR.out
          rw [if_pos h3, ho] at hR
          simp only at hR
          subst hR
          have HO : Hid (∀ w, Calls Tryz.prog 55 #[.pointer (some ⟨b, 0, none⟩), .int .u8 d] w fun e w' => e = .returned (.bool false) ∧ w' = w) := fun w => obey_no ho w
          clear ho HR h3
          go_wp2_with fail
          refine (HO.out _).mono ?_
          rintro e _ ⟨rfl, rfl⟩
          go_wp2_with fail
          obtain ⟨e0, e1, e2⟩ := HE.out
          exact bodyPost_ret (v := .agg #[.int .u8 kd, .int .u8 d, .int .i64 pl]) (by simp [results, Tryz.results39, go_sem, e0, e1, e2]) rfl ⟨rfl, ((HS2.out.1.new (Nat.le_refl _)).new (Nat.le_refl _)).new (Nat.le_refl _), ((HS2.out.2.2.1.other hne).other hne).other hne⟩
        | some mc =>
          obtain ⟨m', c'⟩ := mc
          have hR := HR.out
          rw [if_pos h3, ho] at hR
          simp only at hR
          have HO : Hid (Calls Tryz.prog 55 #[.pointer (some ⟨b, 0, none⟩), .int .u8 d] w2 fun e w' => e = .returned (.bool true) ∧ Fr (On b) w2 w' ∧ Scn T tl s k' m' c' b w') := obey_yes HS2.out.2.2.1 ho
          have HR2 : Hid (nextF s f k' m' c' = R ∧ kd = 3) := ⟨hR, h3⟩
          clear ho HR h3 hR
          go_wp2_with fail
          refine HO.out.mono ?_
          rintro e w3 ⟨rfl, q1, q2⟩
          have H4 : Hid (Fr (On b) w w3 ∧ TokBox w.heap.size ⟨0, 0, 0⟩ w3 ∧ Scn T tl s k' m' c' b w3) := ⟨HS2.out.1.trans q1, HS2.out.2.1.fr q1 hne, q2⟩
          clear q1 q2
          go_wp2_with fail
          go_roundw
          case rel => exact ⟨H4.out.1, H4.out.2.1, k', m', c', f, HL.out.2.1, by have := HL.out.2.2 (by rw [HR2.out.2]; omega); have := HKF.out; have := HL.out.2.1; omega, H4.out.2.2, HR2.out.1⟩
          case measure =>
            rw [H4.out.2.2.atOf, HAt.out]
            have := HL.out.2.2 (by rw [HR2.out.2]; omega)
            have := HL.out.2.1
            omega
      · have hd : ((kd : Int) != 3) = true := by simp; omega
        have hR := HR.out
        rw [if_neg h3] at hR
        subst hR
        clear HR h3
        go_wp2_with fail
        obtain ⟨e0, e1, e2⟩ := HE.out
        exact bodyPost_ret (v := .agg #[.int .u8 kd, .int .u8 d, .int .i64 pl]) (by simp [results, Tryz.results39, go_sem, e0, e1, e2]) rfl ⟨rfl, ((HS2.out.1.new (Nat.le_refl _)).new (Nat.le_refl _)).new (Nat.le_refl _), ((HS2.out.2.2.1.other hne).other hne).other hne⟩
theorem nextF_le {s : ByteArray} {f : Nat} : ∀ {k : Nat} {md : ByteArray} {cs : Nat} {t : Tok} {k' : Nat} {md' : ByteArray} {cs' : Nat}, nextF s f k md cs = .ok (t, k', md', cs') → k ≤ s.size → k ≤ k' ∧ k' ≤ s.size ∧ (t.kd ≠ 0 → k < k') := by
  induction f with
  | zero => intro k md cs t k' md' cs' h; simp [nextF] at h
  | succ f ih =>
    intro k md cs t k' md' cs' h hk
    rw [nextF] at h
    cases ht : tokOf s md k with
    | none => rw [ht] at h; cases h
    | some tk =>
      obtain ⟨t1, k1⟩ := tk
      obtain ⟨l1, l2, l3⟩ := tokOf_le ht hk
      rw [ht] at h
      simp only at h
      split at h
      · split at h
        · obtain ⟨m1, m2, m3⟩ := ih h l2
          exact ⟨by omega, m2, fun e => by have := m3 e; omega⟩
        · cases h; exact ⟨l1, l2, l3⟩
      · cases h; exact ⟨l1, l2, l3⟩
/-- peek: the scanner that is looked into stays. -/
theorem peek_any (s md : ByteArray) (at_ cs : Nat) (w : World) (hs : s.size ≤ 400) (ha : at_ ≤ s.size) {f : Nat} (hf : s.size - at_ < f) {R : Except (Nat × Nat) (Tok × Nat × ByteArray × Nat)} (hR : nextF s f at_ md cs = R) :
    Calls Tryz.prog 75 #[.agg #[.string s, .int .i64 at_, .string md, .int .u8 cs]] w (PkP w R) := by
  obtain ⟨w1, hw1⟩ : ∃ w1, (w.alloc (.cells #[.string s, .int .i64 at_, .string md, .int .u8 cs] 45)).alloc (.cells #[.int .u8 0, .int .u8 0, .int .i64 0] 75) = w1 := ⟨_, rfl⟩
  have HS : Scn 45 [] s at_ md cs w.heap.size w1 := by
    rw [← hw1]
    exact Scn.kp (show Scn 45 [] s at_ md cs w.heap.size (w.alloc (.cells #[.string s, .int .i64 at_, .string md, .int .u8 cs] 45)) from alloc_new w _) (kp_alloc _ _)
  have hB : TokBox (w.heap.size + 1) ⟨0, 0, 0⟩ w1 := by
    rw [← hw1, show w.heap.size + 1 = (w.alloc (.cells #[.string s, .int .i64 at_, .string md, .int .u8 cs] 45)).heap.size from (alloc_size w _).symm]
    exact TokBox.new _
  have hK : Kp w w1 := by rw [← hw1]; exact kp_trans (kp_alloc w _) (kp_alloc _ _)
  have HN := next_any HS hs ha hf
  rw [hR] at HN
  have HW : Hid ((w.alloc (.cells #[.string s, .int .i64 at_, .string md, .int .u8 cs] 45)).alloc (.cells #[.int .u8 0, .int .u8 0, .int .i64 0] 75) = w1) := hw1
  have H1 : Hid (TokBox (w.heap.size + 1) ⟨0, 0, 0⟩ w1 ∧ Kp w w1 ∧ Calls Tryz.prog 39 #[.pointer (some ⟨w.heap.size, 0, none⟩)] w1 (NxtP 45 [] s w.heap.size w1 R)) := ⟨hB, hK, HN⟩
  clear HS hB hK HN hw1 hR
  have HK : Hid (∀ w2, Fr (On w.heap.size) w1 w2 → Kp w w2) := fun w2 h2 => by
    have k := H1.out.2.1
    exact k.trans (h2.below k.size fun j hj => by unfold On; omega)
  go_enter Tryz.func75, Tryz.ntmps75
  go_upto_region 1 with fail
  rw [HW.out]
  clear HW
  cases R with
  | error na =>
    obtain ⟨n, a⟩ := na
    go_wp2_with fail
    refine H1.out.2.2.mono ?_
    rintro e w2 ⟨rfl, q⟩
    unfold Wrong
    go_wp2_with fail
    exact ⟨rfl, rfl, HK.out _ q⟩
  | ok r =>
    obtain ⟨⟨kd, d, pl⟩, k, m, c⟩ := r
    go_wp2_with fail
    refine H1.out.2.2.mono ?_
    rintro e w2 ⟨rfl, q, _⟩
    have HB : Hid (TokBox (w.heap.size + 1) ⟨0, 0, 0⟩ w2 ∧ Kp w w2) := ⟨H1.out.1.fr q (by omega), HK.out _ q⟩
    obtain ⟨⟨r0, r1, r2⟩, z0, z1, z2⟩ := HB.out.1.cells
    unfold Tok.val
    clear q
    go_wp2_with fail
    obtain ⟨e0, e1, e2, _⟩ := HB.out.1.put (.int .u8 kd) (.int .u8 d) (.int .i64 pl)
    refine bodyPost_ret (v := .agg #[.int .u8 kd, .int .u8 d, .int .i64 pl]) (by simp [results, Tryz.results75, go_sem, e0, e1, e2]) rfl ⟨rfl, ?_⟩
    have k := (((Fr.of_below (S := fun _ => False) HB.out.2).new (n := w.heap.size + 1) (off := 0) (v := .int .u8 kd) (by omega)).new (n := w.heap.size + 1) (off := 1) (v := .int .u8 d) (by omega)).new (n := w.heap.size + 1) (off := 2) (v := .int .i64 pl) (by omega)
    exact k.below (Nat.le_refl _) fun _ _ h => h
end
end Go.Proofs.YtpahpnajeliodaaGreatDoor
/- A reader in memory: its struct, its list of nodes, each node's kids. -/
namespace Go.Proofs.YtpahpnajeliodaaGreatDoor
open Go.ChangeShapes Go.WideShapes Go.ChangeAt Go.RowKit
set_option linter.unusedVariables false
set_option linter.unusedSimpArgs false

/-- A node, without its place in memory. -/
structure Nd where
  op : Nat
  c : Nat := 0
  set : S4 := zeroS
  mn : Int := 0
  mx : Int := 0
  lz : Bool := false
  n : Nat := 0
  kids : List Nat := []
def Nd.cells (d : Nd) (kv : Value) : List Value :=
  [.int .u8 d.op, .int .u8 d.c, .int .u64 d.set.a, .int .u64 d.set.b, .int .u64 d.set.c, .int .u64 d.set.d, .int .i64 d.mn, .int .i64 d.mx, .bool d.lz, .int .i64 d.n, kv]
def Nd.val (d : Nd) (kv : Value) : Value :=
  .agg #[.int .u8 d.op, .int .u8 d.c, .int .u64 d.set.a, .int .u64 d.set.b, .int .u64 d.set.c, .int .u64 d.set.d, .int .i64 d.mn, .int .i64 d.mx, .bool d.lz, .int .i64 d.n, kv]
def nums (l : List Nat) : List Value := l.map fun (n : Nat) => Value.int .i64 n
def flat (ns : List (Nd × Value)) : List Value := ns.flatMap fun x => x.1.cells x.2
theorem flat_snoc (ns : List (Nd × Value)) (d : Nd) (kv : Value) : flat (ns ++ [(d, kv)]) = flat ns ++ d.cells kv := by simp [flat]
theorem flat_get {ns : List (Nd × Value)} {i : Nat} {d : Nd} {kv : Value} (h : ns[i]? = some (d, kv)) (j : Nat) (hj : j < 11) : (flat ns)[i * 11 + j]? = (d.cells kv)[j]? := by
  induction ns generalizing i with
  | nil => simp at h
  | cons m ms ih =>
    have hl : (m.1.cells m.2).length = 11 := rfl
    unfold flat
    rw [List.flatMap_cons]
    cases i with
    | zero =>
      simp only [List.getElem?_cons_zero, Option.some.injEq] at h; subst h
      rw [List.getElem?_append_left (by rw [hl]; omega)]
      simp
    | succ i =>
      simp only [List.getElem?_cons_succ] at h
      rw [List.getElem?_append_right (by rw [hl]; omega)]
      have : (i + 1) * 11 + j - (m.1.cells m.2).length = i * 11 + j := by rw [hl]; omega
      rw [this]; exact ih h
def KRow (B : Nat) (w : World) (v : Value) (ks : List Nat) : Prop := w.ownsRow B 3 1 v ks.length (nums ks)
/-- What is told of a reader: where it is, mode, case, groups, those that are closed, nodes. -/
structure RS where
  k : Nat
  md : ByteArray
  cs : Nat
  g : Nat
  cl : List Bool
  nds : List Nd
/-- The list of nodes, and the blocks in which kids may lie. -/
structure Qv where
  v : Value
  kb : Nat → Prop
def Qv.ownBlock (q : Qv) : Option Nat := q.v.ownBlock
/-- Memory that is neither the reader's struct nor its list of nodes. -/
def OffK (rb : Nat) (vn : Qv) (v : Value) : Prop := ∀ j, v.ownBlock = some j → j ≠ rb ∧ vn.ownBlock ≠ some j
/-- .. nor any node's kids. -/
def Off (rb : Nat) (vn : Qv) (v : Value) : Prop := ∀ j, v.ownBlock = some j → (j ≠ rb ∧ vn.ownBlock ≠ some j) ∧ ¬ vn.kb j
structure Rd (B rb : Nat) (s last : ByteArray) (r : RS) (vn : Qv) (ns : List (Nd × Value)) (w : World) : Prop where
  ge : B ≤ rb
  scn : Scn 50 (vn.v :: .string last :: .int .i64 r.g :: r.cl.map Value.bool) s r.k r.md r.cs rb w
  row : w.ownsRow B 73 11 vn.v ns.length (flat ns)
  apart : vn.ownBlock ≠ some rb
  nds : ns.map (·.1) = r.nds
  kids : ∀ x ∈ ns, KRow B w x.2 x.1.kids ∧ OffK rb vn x.2 ∧ ∀ j, x.2.ownBlock = some j → vn.kb j
  kbl : ∀ j, vn.kb j → j < w.heap.size
/-- The reader's struct, and its list of nodes. -/
def Rb (rb : Nat) (v : Qv) (k : Nat) : Prop := k = rb ∨ v.ownBlock = some k
/-- From w to w' nothing has turned but the reader's struct and its list of nodes. -/
structure AdvX (x : Option Nat) (rb : Nat) (vn : Qv) (w : World) (vn' : Qv) (w' : World) : Prop where
  fr : Fr (Rb rb vn) w w'
  own : vn'.ownBlock = vn.ownBlock ∨ ∀ j, vn'.ownBlock = some j → w.heap.size ≤ j
  kbs : ∀ j, j < w.heap.size → vn'.kb j → vn.kb j ∨ x = some j
/-- .. and no old memory has become a node's kids. -/
abbrev Adv (rb : Nat) (vn : Qv) (w : World) (vn' : Qv) (w' : World) : Prop := AdvX none rb vn w vn' w'
section
variable {B rb : Nat} {s last : ByteArray} {r : RS} {vn vn1 vn2 : Qv} {v : Value} {ns : List (Nd × Value)} {w w1 w2 : World} {x : Option Nat}
theorem Adv.refl (rb : Nat) (vn : Qv) (w : World) : Adv rb vn w vn w := ⟨Fr.refl _ w, .inl rfl, fun _ _ h => .inl h⟩
theorem AdvX.trans (h : Adv rb vn w vn1 w1) (h' : AdvX x rb vn1 w1 vn2 w2) : AdvX x rb vn w vn2 w2 := by
  refine ⟨h.fr.trans' h'.fr fun k hk hq => ?_, ?_, fun j hj hq => ?_⟩
  · rcases hq with hq | hq
    · exact .inl hq
    · rcases h.own with e | e
      · exact .inr (by rw [← e]; exact hq)
      · exact absurd (e k hq) (by omega)
  · rcases h'.own with e | e
    · rw [e]; exact h.own
    · exact .inr fun j hj => Nat.le_trans h.fr.size (e j hj)
  · rcases h'.kbs j (Nat.lt_of_lt_of_le hj h.fr.size) hq with q | q
    · rcases h.kbs j hj q with q | q
      · exact .inl q
      · cases q
    · exact .inr q
/-- What was new ahead of the call is new. -/
theorem AdvX.drop (h : AdvX x rb vn w1 vn1 w2) (a : Adv rb vn w vn w1) (hx : ∀ j, x = some j → w.heap.size ≤ j) : Adv rb vn w vn1 w2 := by
  have q := AdvX.trans a h
  refine ⟨q.fr, q.own, fun j hj hq => ?_⟩
  rcases q.kbs j hj hq with z | z
  · exact .inl z
  · exact absurd (hx j z) (by omega)
theorem Adv.kp (vn : Qv) (rb : Nat) (k : Kp w w1) : Adv rb vn w vn w1 := ⟨Fr.of_below k, .inl rfl, fun _ _ h => .inl h⟩
theorem Adv.on (vn : Qv) (h : Fr (On rb) w w1) : Adv rb vn w vn w1 := ⟨h.mono fun _ _ q => .inl q, .inl rfl, fun _ _ h => .inl h⟩
theorem AdvX.below (h : AdvX x rb vn w vn1 w1) (hB : B ≤ w.heap.size) (hr : B ≤ rb) (hv : ∀ j, vn.ownBlock = some j → B ≤ j) : Below B w w1 :=
  h.fr.below hB fun k hk q => by
    rcases q with q | q
    · omega
    · have := hv k q; omega
theorem OffK.adv (ho : OffK rb vn v) (h : AdvX x rb vn w vn1 w1) (hlt : ∀ j, v.ownBlock = some j → j < w.heap.size) : OffK rb vn1 v := fun j hj => by
  refine ⟨(ho j hj).1, fun e => ?_⟩
  rcases h.own with q | q
  · rw [q] at e; exact (ho j hj).2 e
  · have := q j e; have := hlt j hj; omega
theorem row_advK {e : TypeId} {size n : Nat} {xs : List Value} (hr : w.ownsRow B e size v n xs) (ho : OffK rb vn v) (h : AdvX x rb vn w vn1 w1) : w1.ownsRow B e size v n xs ∧ OffK rb vn1 v := by
  have hlt : ∀ j, v.ownBlock = some j → j < w.heap.size := fun j hj => (hr.lt j hj).2
  refine ⟨⟨hr.1, ?_⟩, ho.adv h hlt⟩
  rcases hr.2 with q | ⟨b, cap, cur, rfl, hb, hg, rest⟩
  · exact .inl q
  · refine .inr ⟨b, cap, cur, rfl, hb, ?_, rest⟩
    rw [h.fr.block b (hlt b rfl) fun q => ?_]; exact hg
    rcases q with q | q
    · exact (ho b rfl).1 q
    · exact (ho b rfl).2 q
theorem Off.k (h : Off rb vn v) : OffK rb vn v := fun j hj => (h j hj).1
theorem row_adv {e : TypeId} {size n : Nat} {xs : List Value} (hr : w.ownsRow B e size v n xs) (ho : Off rb vn v) (h : Adv rb vn w vn1 w1) : w1.ownsRow B e size v n xs ∧ Off rb vn1 v := by
  obtain ⟨h1, h2⟩ := row_advK hr ho.k h
  refine ⟨h1, fun j hj => ⟨h2 j hj, fun q => ?_⟩⟩
  rcases h.kbs j (hr.lt j hj).2 q with q | q
  · exact (ho j hj).2 q
  · cases q
theorem row_kp {e : TypeId} {size n : Nat} {xs : List Value} (hr : w.ownsRow B e size v n xs) (h : Kp w w1) : w1.ownsRow B e size v n xs := by
  refine ⟨hr.1, ?_⟩
  rcases hr.2 with q | ⟨b, cap, cur, rfl, hb, hg, rest⟩
  · exact .inl q
  · exact .inr ⟨b, cap, cur, rfl, hb, by rw [h.block b (hr.lt b rfl).2]; exact hg, rest⟩
theorem Rd.own (h : Rd B rb s last r vn ns w) : ∀ j, vn.ownBlock = some j → B ≤ j ∧ j < w.heap.size := h.row.lt
theorem Rd.kp (h : Rd B rb s last r vn ns w) (k : Kp w w1) : Rd B rb s last r vn ns w1 :=
  ⟨h.ge, h.scn.kp k, row_kp h.row k, h.apart, h.nds, fun x hx => ⟨row_kp (h.kids x hx).1 k, (h.kids x hx).2⟩, fun j hj => Nat.lt_of_lt_of_le (h.kbl j hj) k.size⟩
theorem Rd.scan (h : Rd B rb s last r vn ns w) (k : Fr (On rb) w w1) {k' : Nat} {md' : ByteArray} {cs' : Nat} (hs : Scn 50 (vn.v :: .string last :: .int .i64 r.g :: r.cl.map Value.bool) s k' md' cs' rb w1) : Rd B rb s last { r with k := k', md := md', cs := cs' } vn ns w1 := by
  have a : Adv rb vn w vn w1 := Adv.on vn k
  have hrow : w1.ownsRow B 73 11 vn.v ns.length (flat ns) := by
    refine ⟨h.row.1, ?_⟩
    rcases h.row.2 with q | ⟨b, cap, cur, e, hb, hg, rest⟩
    · exact .inl q
    · refine .inr ⟨b, cap, cur, e, hb, ?_, rest⟩
      rw [k.block b (Array.getElem?_eq_some_iff.1 hg).1 fun q => h.apart (by unfold Qv.ownBlock; rw [e]; simp only [Value.ownBlock, Option.some.injEq]; exact q)]; exact hg
  exact ⟨h.ge, hs, hrow, h.apart, h.nds, fun x hx => by
    obtain ⟨q1, q2⟩ := row_advK (h.kids x hx).1 (h.kids x hx).2.1 a
    exact ⟨q1, q2, (h.kids x hx).2.2⟩, fun j hj => Nat.lt_of_lt_of_le (h.kbl j hj) k.size⟩
theorem Rd.lt (h : Rd B rb s last r vn ns w) : rb < w.heap.size := h.scn.lt
theorem Rd.len (h : Rd B rb s last r vn ns w) : ns.length = r.nds.length := by rw [← h.nds]; simp
theorem Rd.c4 (h : Rd B rb s last r vn ns w) : w.cell? ⟨rb, 4, none⟩ = some vn.v := by have := h.scn; unfold Scn at this; simp [World.cell?, this]
theorem Rd.c5 (h : Rd B rb s last r vn ns w) : w.cell? ⟨rb, 5, none⟩ = some (.string last) := by have := h.scn; unfold Scn at this; simp [World.cell?, this]
theorem Rd.c6 (h : Rd B rb s last r vn ns w) : w.cell? ⟨rb, 6, none⟩ = some (.int .i64 r.g) := by have := h.scn; unfold Scn at this; simp [World.cell?, this]
theorem Rd.fz (h : Rd B rb s last r vn ns w) (j : Nat) : w.frozen? ⟨rb, j, none⟩ = false := h.scn.fz j
end
theorem owns_form {w : World} {base size n : Nat} {e : TypeId} {v : Value} {xs : List Value} (h : w.ownsRow base e size v n xs) : ∃ a cap, v = .slice a n cap ∧ n ≤ cap ∧ cap ≤ maxLen := by
  rcases h.2 with ⟨rfl, rfl⟩ | ⟨b, cap, cur, rfl, _, _, h1, h2, _⟩
  · exact ⟨none, 0, rfl, Nat.le_refl _, by simp [maxLen]⟩
  · exact ⟨_, cap, rfl, h1, h2⟩
theorem infoInt : (Tryz.prog.info? 3).map (fun i => (i.zero, i.size, i.bytes)) = some (some (.int .i64 0), 1, 8) := by kernel_rfl
theorem infoNode : (Tryz.prog.info? 73).map (fun i => (i.zero, i.size, i.bytes)) = some (some (.agg #[.int .u8 0, .int .u8 0, .int .u64 0, .int .u64 0, .int .u64 0, .int .u64 0, .int .i64 0, .int .i64 0, .bool false, .int .i64 0, .slice none 0 0]), 11, 96) := by kernel_rfl
theorem info_parts {t : TypeId} {z : Option Value} {a b : Nat} (h : (Tryz.prog.info? t).map (fun i => (i.zero, i.size, i.bytes)) = some (z, a, b)) : ∃ i, Tryz.prog.info? t = some i ∧ i.zero = z ∧ i.size = a ∧ i.bytes = b := by
  obtain ⟨i, h1, h2⟩ := Option.map_eq_some_iff.1 h
  simp only [Prod.mk.injEq] at h2
  exact ⟨i, h1, h2.1, h2.2.1, h2.2.2⟩
end Go.Proofs.YtpahpnajeliodaaGreatDoor
/- The builder's calls add, plain, bare, set, join. -/
namespace Go.Proofs.YtpahpnajeliodaaGreatDoor
open Go.ChangeShapes Go.WideShapes Go.ChangeAt Go.RowKit
set_option linter.unusedVariables false
set_option linter.unusedSimpArgs false
section
variable {B rb : Nat} {s last : ByteArray} {r : RS} {vn : Qv} {ns : List (Nd × Value)} {w : World}
theorem cell_at {w : World} {b : Nat} {e : TypeId} {cur : Array Value} (hg : w.heap[b]? = some (.cells cur e (0, 0))) (j : Nat) : w.cell? ⟨b, j, none⟩ = cur[j]? := by simp [World.cell?, hg]
def nodeObj (d : Nd) (kv : Value) : Obj := .cells #[.int .u8 d.op, .int .u8 d.c, .int .u64 d.set.a, .int .u64 d.set.b, .int .u64 d.set.c, .int .u64 d.set.d, .int .i64 d.mn, .int .i64 d.mx, .bool d.lz, .int .i64 d.n, kv] 73
theorem drew_heap (w : World) : w.drew.heap = w.heap := rfl
theorem kp_drew (w : World) : Kp w w.drew := kp_drewN w 1
/-- The nodes' list behind one more. -/
def grown (vn : Qv) (g n cap : Nat) (kv : Value) : Qv := ⟨.slice (some ⟨g, 0, none⟩) n cap, fun j => vn.kb j ∨ kv.ownBlock = some j⟩
/-- A node more: what is to be shown behind the append. -/
theorem Rd.grow (h : Rd B rb s last r vn ns w) {d : Nd} {kv : Value} (hk : KRow B w kv d.kids) (ho : OffK rb vn kv) {w1 w2 : World} (k : Kp w w1) {g cap : Nat}
    (hown : w2.ownsRow B 73 11 (.slice (some ⟨g, 0, none⟩) (ns.length + 1) cap) (ns.length + 1) (flat ns ++ d.cells kv)) (hg : w1.grownBy w2 vn.v.ownBlock) (hat : vn.v.ownBlock = some g ∨ g = w1.heap.size) (hlt : g < w2.heap.size) :
    (w2.cell? ⟨rb, 4, none⟩ = some vn.v ∧ w2.frozen? ⟨rb, 4, none⟩ = false) ∧ Rd B rb s last { r with nds := r.nds ++ [d] } (grown vn g (ns.length + 1) cap kv) (ns ++ [(d, kv)]) (w2.setCell ⟨rb, 4, none⟩ (.slice (some ⟨g, 0, none⟩) (ns.length + 1) cap)) ∧
      AdvX kv.ownBlock rb vn w (grown vn g (ns.length + 1) cap kv) (w2.setCell ⟨rb, 4, none⟩ (.slice (some ⟨g, 0, none⟩) (ns.length + 1) cap)) := by
  have hrb : rb < w1.heap.size := Nat.lt_of_lt_of_le h.lt k.size
  have hgr : g ≠ rb := by
    rcases hat with e | e
    · exact fun q => h.apart (by unfold Qv.ownBlock; rw [e, q])
    · omega
  have e0 : w2.heap[rb]? = w.heap[rb]? := by
    rw [hg.block rb hrb (fun e => h.apart e.symm)]; exact k.block rb h.lt
  have hsc : Scn 50 (vn.v :: .string last :: .int .i64 r.g :: r.cl.map Value.bool) s r.k r.md r.cs rb w2 := h.scn.heap e0
  have ha : AdvX kv.ownBlock rb vn w (grown vn g (ns.length + 1) cap kv) (w2.setCell ⟨rb, 4, none⟩ (.slice (some ⟨g, 0, none⟩) (ns.length + 1) cap)) := by
    refine ⟨?_, ?_, fun j _ hq => hq⟩
    · have f1 : Fr (Rb rb vn) w w2 := ⟨hg.os.trans k.os, hg.tape.trans k.tape, hg.output.trans k.output, Nat.le_trans k.size hg.size, fun j hj hn => by
        rw [hg.block j (Nat.lt_of_lt_of_le hj k.size) (fun e => hn (.inr e.symm))]; exact k.block j hj⟩
      exact f1.trans (Fr.setCell (S := Rb rb vn) (.inl rfl) w2)
    · rcases hat with e | e
      · exact .inl (by unfold Qv.ownBlock; rw [e]; rfl)
      · exact .inr fun j hj => by
          simp only [grown, Qv.ownBlock, Value.ownBlock, Option.some.injEq] at hj
          rw [← hj, e]; exact k.size
  refine ⟨⟨by unfold Scn at hsc; simp [World.cell?, hsc], hsc.fz 4⟩, ⟨h.ge, ?_, ?_, ?_, ?_, ?_, ?_⟩, ha⟩
  · unfold Scn at hsc ⊢
    rw [heap_setCell hsc]
    simp [grown]
  · have hr := hown
    rw [show (ns ++ [(d, kv)]).length = ns.length + 1 by simp, flat_snoc]
    refine ⟨hr.1, ?_⟩
    rcases hr.2 with ⟨q, _⟩ | ⟨b, c, cur, e, hb, hq, rest⟩
    · cases q
    · refine .inr ⟨b, c, cur, e, hb, ?_, rest⟩
      injection e with e _ _
      injection e with e
      injection e with e _ _
      rw [heap_setCell_other (by rw [← e]; exact hgr)]; exact hq
  · simp only [grown, Qv.ownBlock, Value.ownBlock, ne_eq, Option.some.injEq]; exact hgr
  · simp [h.nds]
  · intro x hx
    rcases List.mem_append.1 hx with hx | hx
    · obtain ⟨q1, q2⟩ := row_advK (h.kids x hx).1 (h.kids x hx).2.1 ha
      exact ⟨q1, q2, fun j hj => .inl ((h.kids x hx).2.2 j hj)⟩
    · simp only [List.mem_singleton] at hx
      subst hx
      obtain ⟨q1, q2⟩ := row_advK hk ho ha
      exact ⟨q1, q2, fun j hj => .inr hj⟩
  · intro j hj
    rw [size_setCell]
    have hsz := Nat.le_trans k.size hg.size
    rcases hj with hj | hj
    · exact Nat.lt_of_lt_of_le (h.kbl j hj) hsz
    · exact Nat.lt_of_lt_of_le (hk.lt j hj).2 hsz
set_option maxHeartbeats 1000000 in
set_option maxRecDepth 100000 in
theorem add_any (h : Rd B rb s last r vn ns w) (d : Nd) {kv : Value} (hk : KRow B w kv d.kids) (ho : OffK rb vn kv) (hl : r.nds.length < 100000) (hB : B ≤ w.heap.size) :
    Calls Tryz.prog 45 #[.pointer (some ⟨rb, 4, none⟩), d.val kv] w fun e w' => e = .returned (.int .i64 r.nds.length) ∧ ∃ vn', Rd B rb s last { r with nds := r.nds ++ [d] } vn' (ns ++ [(d, kv)]) w' ∧ AdvX kv.ownBlock rb vn w vn' w' := by
  obtain ⟨ka, kc, rfl, _, _⟩ := owns_form hk
  obtain ⟨vv, vkb⟩ := vn
  obtain ⟨va, vc, e, v1, v2⟩ := owns_form h.row
  simp only at e
  subst e
  obtain ⟨N, hN⟩ : ∃ N, ns.length = N := ⟨_, rfl⟩
  have hN2 : r.nds.length = N := by rw [← h.len]; exact hN
  rw [hN2] at hl ⊢
  rw [hN]
  obtain ⟨i9, hi9, z0, z1, z2⟩ := info_parts infoNode
  have c4 := h.c4; have f4 := h.fz 4
  rw [hN] at c4
  have HO : Hid (w.ownsRow B 73 11 (.slice va N vc) N (flat ns)) := by have := h.row; rw [hN] at this; exact this
  have HG : Hid (∀ w1, Kp w w1 → ∀ g cap w2, w2.ownsRow B 73 11 (.slice (some ⟨g, 0, none⟩) (N + 1) cap) (N + 1) (flat ns ++ d.cells (.slice ka d.kids.length kc)) → w1.grownBy w2 (Value.slice va N vc).ownBlock → ((Value.slice va N vc).ownBlock = some g ∨ g = w1.heap.size) → g < w2.heap.size →
      (w2.cell? ⟨rb, 4, none⟩ = some (.slice va N vc) ∧ w2.frozen? ⟨rb, 4, none⟩ = false) ∧ Hid (Rd B rb s last { r with nds := r.nds ++ [d] } (grown ⟨.slice va N vc, vkb⟩ g (N + 1) cap (.slice ka d.kids.length kc)) (ns ++ [(d, .slice ka d.kids.length kc)]) (w2.setCell ⟨rb, 4, none⟩ (.slice (some ⟨g, 0, none⟩) (N + 1) cap)) ∧
      AdvX (Value.slice ka d.kids.length kc).ownBlock rb ⟨.slice va N vc, vkb⟩ w (grown ⟨.slice va N vc, vkb⟩ g (N + 1) cap (.slice ka d.kids.length kc)) (w2.setCell ⟨rb, 4, none⟩ (.slice (some ⟨g, 0, none⟩) (N + 1) cap)))) := by
    intro w1 k g cap w2 q1 q2 q3 q4
    rw [← hN] at q1 q2 q3 ⊢
    exact h.grow hk ho k q1 q2 q3 q4
  unfold maxLen at v2
  unfold Nd.val
  have HK : Hid (Kp w (((w.alloc (nodeObj d (.slice ka d.kids.length kc))).alloc (nodeObj d (.slice ka d.kids.length kc))).drew)) := kp_trans (kp_trans (kp_alloc w _) (kp_alloc _ _)) (kp_drew _)
  have HSZ : Hid ((((w.alloc (nodeObj d (.slice ka d.kids.length kc))).alloc (nodeObj d (.slice ka d.kids.length kc))).drew).heap.size = w.heap.size + 2) := by show (((w.alloc (nodeObj d (.slice ka d.kids.length kc))).alloc (nodeObj d (.slice ka d.kids.length kc))).drew).heap.size = w.heap.size + 2; rw [drew_heap, alloc_size, alloc_size]
  have HOW : Hid ((((w.alloc (nodeObj d (.slice ka d.kids.length kc))).alloc (nodeObj d (.slice ka d.kids.length kc))).drew).ownsRow B 73 11 (.slice va N vc) N (flat ns)) := row_kp HO.out HK.out
  have HNEW : Hid (∀ j u, (d.cells (.slice ka d.kids.length kc))[j]? = some u → (((w.alloc (nodeObj d (.slice ka d.kids.length kc))).alloc (nodeObj d (.slice ka d.kids.length kc))).drew).cell? ((⟨w.heap.size + 1, 0, none⟩ : Addr).add j) = some u) := by
    intro j u hj
    have e : w.heap.size + 1 = (w.alloc (nodeObj d (.slice ka d.kids.length kc))).heap.size := by rw [alloc_size]
    rw [Addr.add_lit, e]
    have := alloc_new (w.alloc (nodeObj d (.slice ka d.kids.length kc))) (nodeObj d (.slice ka d.kids.length kc))
    rw [← drew_heap] at this
    unfold nodeObj at this ⊢
    rw [cell_at this, Nat.zero_add]
    rw [← hj]; exact List.getElem?_toArray
  have HONE : Hid (∀ u ∈ d.cells (.slice ka d.kids.length kc), u.oneCell' = true) := by
    intro u hu
    simp only [Nd.cells, List.mem_cons, List.not_mem_nil, or_false] at hu
    rcases hu with rfl | rfl | rfl | rfl | rfl | rfl | rfl | rfl | rfl | rfl | rfl <;> rfl
  have HBW : Hid (B ≤ (((w.alloc (nodeObj d (.slice ka d.kids.length kc))).alloc (nodeObj d (.slice ka d.kids.length kc))).drew).heap.size) := by have := HSZ.out; show B ≤ _; omega
  have hrb : rb < w.heap.size := h.lt
  clear h hk ho hN hN2
  go_enter Tryz.func45, Tryz.ntmps45
  go_upto_region 1 with fail
  go_region_law ((refine step_append_lies _ (by rfl) (.tmp 9) (.tmp 11) 24 rfl B 73 i9 _ 11 96 Tryz.underlying24 hi9 z0 z1 z2 rfl (by decide) (.slice va N vc) N (flat ns) (by rfl) HOW.out ⟨w.heap.size + 1, 0, none⟩ 1 1 (d.cells (.slice ka d.kids.length kc)) (by rfl) rfl HNEW.out HONE.out (by omega) (by unfold maxLen; omega) (by omega) HBW.out (w.heap.size + 2) HSZ.out ?_; intro g cp w2 hown hgrow hat hlt; obtain ⟨⟨q0, qf⟩, HF⟩ := HG.out _ HK.out g cp w2 hown hgrow (by rw [HSZ.out]; exact hat) hlt; clear hown hgrow hat))
  all_goals
    obtain ⟨w3, hw3⟩ : ∃ w3, w2.setCell ⟨rb, 4, none⟩ (.slice (some ⟨g, 0, none⟩) (N + 1) cp) = w3 := ⟨_, rfl⟩
    rw [hw3] at HF ⊢
    have d4 : w3.cell? ⟨rb, 4, none⟩ = some (.slice (some ⟨g, 0, none⟩) (N + 1) cp) := HF.out.1.c4
    clear hw3
    go_wp2_with fail
    go_ret
    exact ⟨by simp, _, HF.out.1, HF.out.2⟩
theorem leaf_row (B : Nat) (w : World) : KRow B w (.slice none 0 0) [] := World.ownsRow_nil _ _ _ _
theorem off_nil (rb : Nat) (vn : Qv) : OffK rb vn (.slice none 0 0) := fun j hj => by cases hj
/-- What a call that adds a node comes to. -/
def Added (B rb : Nat) (s last : ByteArray) (r : RS) (vn : Qv) (ns : List (Nd × Value)) (w : World) (d : Nd) (kv : Value) (e : Ending) (w' : World) : Prop :=
  e = .returned (.int .i64 r.nds.length) ∧ ∃ vn', Rd B rb s last { r with nds := r.nds ++ [d] } vn' (ns ++ [(d, kv)]) w' ∧ AdvX kv.ownBlock rb vn w vn' w'
theorem bplain_any (h : Rd B rb s last r vn ns w) (c : Nat) (hl : r.nds.length < 100000) (hB : B ≤ w.heap.size) :
    Calls Tryz.prog 57 #[.pointer (some ⟨rb, 4, none⟩), .int .u8 c] w (Added B rb s last r vn ns w { op := 2, c := c } (.slice none 0 0)) := by
  have HA : Hid (Calls Tryz.prog 45 #[.pointer (some ⟨rb, 4, none⟩), .agg #[.int .u8 2, .int .u8 c, .int .u64 0, .int .u64 0, .int .u64 0, .int .u64 0, .int .i64 0, .int .i64 0, .bool false, .int .i64 0, .slice none 0 0]] w (Added B rb s last r vn ns w { op := 2, c := c } (.slice none 0 0))) := add_any h { op := 2, c := c } (leaf_row B w) (off_nil _ _) hl hB
  clear h
  go_enter Tryz.func57, Tryz.ntmps57
  go_wp2_with fail
  refine HA.out.mono ?_
  rintro e w1 ⟨rfl, q⟩
  have HQ : Hid _ := q
  clear q
  go_wp2_with fail
  go_ret
  exact ⟨rfl, HQ.out⟩
theorem bare_any (h : Rd B rb s last r vn ns w) (op : Nat) (hl : r.nds.length < 100000) (hB : B ≤ w.heap.size) :
    Calls Tryz.prog 44 #[.pointer (some ⟨rb, 4, none⟩), .int .u8 op] w (Added B rb s last r vn ns w { op := op } (.slice none 0 0)) := by
  have HA : Hid (Calls Tryz.prog 45 #[.pointer (some ⟨rb, 4, none⟩), .agg #[.int .u8 op, .int .u8 0, .int .u64 0, .int .u64 0, .int .u64 0, .int .u64 0, .int .i64 0, .int .i64 0, .bool false, .int .i64 0, .slice none 0 0]] w (Added B rb s last r vn ns w { op := op } (.slice none 0 0))) := add_any h { op := op } (leaf_row B w) (off_nil _ _) hl hB
  clear h
  go_enter Tryz.func44, Tryz.ntmps44
  go_wp2_with fail
  refine HA.out.mono ?_
  rintro e w1 ⟨rfl, q⟩
  have HQ : Hid _ := q
  clear q
  go_wp2_with fail
  go_ret
  exact ⟨rfl, HQ.out⟩
theorem Added.kp {d : Nd} {kv : Value} {w0 w' : World} {e : Ending} (k : Kp w0 w) (h : Added B rb s last r vn ns w d kv e w') : Added B rb s last r vn ns w0 d kv e w' := by
  obtain ⟨h1, vn', h2, h3⟩ := h
  exact ⟨h1, vn', h2, AdvX.trans (Adv.kp vn rb k) h3⟩
theorem set_any (h : Rd B rb s last r vn ns w) (q : S4) (hl : r.nds.length < 100000) (hB : B ≤ w.heap.size) :
    Calls Tryz.prog 78 #[.pointer (some ⟨rb, 4, none⟩), .agg #[.int .u64 q.a, .int .u64 q.b, .int .u64 q.c, .int .u64 q.d]] w (Added B rb s last r vn ns w { op := 4, set := q } (.slice none 0 0)) := by
  have HA : Hid (∀ ob, Calls Tryz.prog 45 #[.pointer (some ⟨rb, 4, none⟩), .agg #[.int .u8 4, .int .u8 0, .int .u64 q.a, .int .u64 q.b, .int .u64 q.c, .int .u64 q.d, .int .i64 0, .int .i64 0, .bool false, .int .i64 0, .slice none 0 0]] (w.alloc ob) (Added B rb s last r vn ns (w.alloc ob) { op := 4, set := q } (.slice none 0 0))) := fun ob => add_any (h.kp (kp_alloc w ob)) { op := 4, set := q } (leaf_row B _) (off_nil _ _) hl (by rw [alloc_size]; omega)
  clear h
  go_enter Tryz.func78, Tryz.ntmps78
  go_wp2_with fail
  refine (HA.out _).mono ?_
  intro e w1 z
  have z' := Added.kp (kp_alloc w _) z
  clear z
  obtain ⟨rfl, z⟩ := z'
  have HQ : Hid _ := z
  clear z
  go_wp2_with fail
  go_ret
  exact ⟨rfl, HQ.out⟩
theorem join_none (h : Rd B rb s last r vn ns w) (op : Nat) (hl : r.nds.length < 100000) (hB : B ≤ w.heap.size) {v : Value} (hk : KRow B w v []) :
    Calls Tryz.prog 31 #[.pointer (some ⟨rb, 4, none⟩), .int .u8 op, v] w (Added B rb s last r vn ns w { op := 1 } (.slice none 0 0)) := by
  obtain ⟨a, c, rfl, _, _⟩ := owns_form hk
  have HA : Hid (Calls Tryz.prog 44 #[.pointer (some ⟨rb, 4, none⟩), .int .u8 1] w (Added B rb s last r vn ns w { op := 1 } (.slice none 0 0))) := bare_any h 1 hl hB
  clear h hk
  go_enter Tryz.func31, Tryz.ntmps31
  go_wp2_with fail
  refine HA.out.mono ?_
  rintro e w1 ⟨rfl, q⟩
  have HQ : Hid _ := q
  clear q
  go_wp2_with fail
  go_ret
  exact ⟨rfl, HQ.out⟩
theorem krow_cell {v : Value} {ks : List Nat} {a : Option Addr} {n c : Nat} (hk : KRow B w (.slice a n c) ks) {j x : Nat} (hj : ks[j]? = some x) : ∃ kb, a = some ⟨kb, 0, none⟩ ∧ w.cell? ⟨kb, j, none⟩ = some (.int .i64 x) ∧ w.frozen? ⟨kb, j, none⟩ = false := by
  have hlt := (List.getElem?_eq_some_iff.1 hj).1
  rcases hk.2 with ⟨_, q⟩ | ⟨b, cap, cur, e, hb, hg, h1, h2, h3, h4⟩
  · omega
  · injection e with e _ _
    refine ⟨b, e, ?_, by simp [World.frozen?, hg]⟩
    rw [cell_at hg]
    have : (nums ks)[j]? = some (.int .i64 x) := by simp [nums, hj]
    rw [← h4, List.getElem?_take] at this
    split at this
    · simpa using this
    · cases this
theorem join_one {v : Value} {x : Nat} (op : Nat) (hk : KRow B w v [x]) :
    Calls Tryz.prog 31 #[.pointer (some ⟨rb, 4, none⟩), .int .u8 op, v] w fun e w' => e = .returned (.int .i64 x) ∧ w' = w := by
  obtain ⟨a, c, rfl, h1, h2⟩ := owns_form hk
  obtain ⟨kb, rfl, c0, _⟩ := krow_cell (v := .slice a 1 c) hk (j := 0) (x := x) rfl
  unfold maxLen at h2
  simp only [List.length_cons, List.length_nil, Nat.zero_add] at h1
  clear hk
  go_enter Tryz.func31, Tryz.ntmps31
  go_wp2_with fail
  go_ret
  exact ⟨rfl, rfl⟩
theorem join_more (h : Rd B rb s last r vn ns w) (op : Nat) (hl : r.nds.length < 100000) (hB : B ≤ w.heap.size) {v : Value} {ks : List Nat} (hk : KRow B w v ks) (ho : OffK rb vn v) (h2 : 2 ≤ ks.length) (h3 : ks.length < 100000) :
    Calls Tryz.prog 31 #[.pointer (some ⟨rb, 4, none⟩), .int .u8 op, v] w (Added B rb s last r vn ns w { op := op, kids := ks } v) := by
  have HA : Calls Tryz.prog 45 #[.pointer (some ⟨rb, 4, none⟩), .agg #[.int .u8 op, .int .u8 0, .int .u64 0, .int .u64 0, .int .u64 0, .int .u64 0, .int .i64 0, .int .i64 0, .bool false, .int .i64 0, v]] w (Added B rb s last r vn ns w { op := op, kids := ks } v) := add_any h { op := op, kids := ks } hk ho hl hB
  obtain ⟨a, c, rfl, k1, k2⟩ := owns_form hk
  have HA' : Hid _ := HA
  obtain ⟨K, hK⟩ : ∃ K, ks.length = K := ⟨_, rfl⟩
  rw [hK] at HA' h2 h3 ⊢
  have d0 : ((K : Int) == 0) = false := by simp; omega
  have d1 : ((K : Int) == 1) = false := by simp; omega
  clear h hk ho hK HA
  go_enter Tryz.func31, Tryz.ntmps31
  go_wp2_with fail
  refine Calls.mono HA'.out ?_
  rintro e w1 ⟨rfl, q⟩
  have HQ : Hid _ := q
  clear q
  go_wp2_with fail
  go_ret
  exact ⟨rfl, HQ.out⟩
end
end Go.Proofs.YtpahpnajeliodaaGreatDoor
