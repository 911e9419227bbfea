/-
  No cell of these rows narrows 'for every input' (looked for: loops, veiled, ifaces, maps, wideKeys, modest, calm, conditions, laid).
  DERIVED. THE GIVEN ROWS OF THIS SEAT. 8 by the template 'for every input the law returns true; each argument reads behind the call as it read before'; 0 by the template 'total and deterministic' (their statements: YtbkhhgaihhbhjaaTotals.lean).
  GIVEN WITH THE SEED: the statements are not yours to turn. If you find one false, say at which input.
  Laid BY PROGRAM, IN A SANDBOX (cutbox-rows.mjs): the forced cells as the released guide's own fill.sh prints them over the translation bfcd489f3b2cc341… (all of the seat's roots in one cut). By AI agents, Wed Nov 11 2026. No macro, syntax, notation, axiom, sorry.
-/
import Derived.Test.YtbkhhgaihhbhjaaChecked
import GoSem.Claim
import GoSem.ClaimJoined
import GoSem.ClaimMapViews
import Derived.JoinedTies
import Derived.KernelRfl
namespace Go.Proofs.Ytbkhhgaihhbhjaa
/- THE CELL 'sum', in the pinned program and in every row, IS THE sha256 OF THE DUMP (.gsa) THAT YtbkhhgaihhbhjaaProg.lean LOADS. Nothing in Lean hashes anything: it is a label: what it is worth is what the hold of that sum in a sandbox is worth. -/
noncomputable def Try.pinned : Pinned := { name := "ytbkhhgaihhbhjaa", sum := "bfcd489f3b2cc341041b6e1e04b2d88adba1e21397f703b69ce718e67f0e1a67", checked := Try.checked }
namespace Rows
def none {H : Type} : Left H := { results := [], args := [] }

/-- 'emendatorlaw12.UndoSteps': WHATEVER THE INPUT: true; the input reads as it did. -/
def undoStepsSpec : ChangeSpec := { name := "undoSteps", fn := fun _ => fun
  | [d1, d2, d3] => { results := [.lit (.bool true)], args := [d1, d2, d3] }
  | _ => none }
def undoStepsRow : OpenClaim := { program := "ytbkhhgaihhbhjaa", sum := "bfcd489f3b2cc341041b6e1e04b2d88adba1e21397f703b69ce718e67f0e1a67", func := "emendator/emendatorlaw12.UndoSteps", spec := "undoSteps", unfollowed := true, recurses := true, apart := false }
def UndoStepsSaid : Prop := undoStepsRow.holds Try.pinned (OpenSpec.ofChange undoStepsSpec)

/-- ITS FALSE NEIGHBOUR: 'it returns false'. Refute it at one input. -/
def undoStepsWrong : ChangeSpec := { name := "undoSteps", fn := fun _ => fun
  | [d1, d2, d3] => { results := [.lit (.bool false)], args := [d1, d2, d3] }
  | _ => none }
def UndoStepsWrongFalsely : Prop := undoStepsRow.holds Try.pinned (OpenSpec.ofChange undoStepsWrong)

/-- 'emendatorlaw12.UndoOn': WHATEVER THE INPUT: true; the input reads as it did. -/
def undoOnSpec : ChangeSpec := { name := "undoOn", fn := fun _ => fun
  | [d1, d2] => { results := [.lit (.bool true)], args := [d1, d2] }
  | _ => none }
def undoOnRow : OpenClaim := { program := "ytbkhhgaihhbhjaa", sum := "bfcd489f3b2cc341041b6e1e04b2d88adba1e21397f703b69ce718e67f0e1a67", func := "emendator/emendatorlaw12.UndoOn", spec := "undoOn", unfollowed := true, recurses := true, apart := false }
def UndoOnSaid : Prop := undoOnRow.holds Try.pinned (OpenSpec.ofChange undoOnSpec)

/-- ITS FALSE NEIGHBOUR: 'it returns false'. Refute it at one input. -/
def undoOnWrong : ChangeSpec := { name := "undoOn", fn := fun _ => fun
  | [d1, d2] => { results := [.lit (.bool false)], args := [d1, d2] }
  | _ => none }
def UndoOnWrongFalsely : Prop := undoOnRow.holds Try.pinned (OpenSpec.ofChange undoOnWrong)

/-- 'emendatorlaw12.UndoNone': WHATEVER THE INPUT: true; the input reads as it did. -/
def undoNoneSpec : ChangeSpec := { name := "undoNone", fn := fun _ => fun
  | [d1, d2] => { results := [.lit (.bool true)], args := [d1, d2] }
  | _ => none }
def undoNoneRow : OpenClaim := { program := "ytbkhhgaihhbhjaa", sum := "bfcd489f3b2cc341041b6e1e04b2d88adba1e21397f703b69ce718e67f0e1a67", func := "emendator/emendatorlaw12.UndoNone", spec := "undoNone", unfollowed := true, recurses := true, apart := false }
def UndoNoneSaid : Prop := undoNoneRow.holds Try.pinned (OpenSpec.ofChange undoNoneSpec)

/-- ITS FALSE NEIGHBOUR: 'it returns false'. Refute it at one input. -/
def undoNoneWrong : ChangeSpec := { name := "undoNone", fn := fun _ => fun
  | [d1, d2] => { results := [.lit (.bool false)], args := [d1, d2] }
  | _ => none }
def UndoNoneWrongFalsely : Prop := undoNoneRow.holds Try.pinned (OpenSpec.ofChange undoNoneWrong)

/-- 'emendatorlaw12.UndoDoes': WHATEVER THE INPUT: true; the input reads as it did. -/
def undoDoesSpec : ChangeSpec := { name := "undoDoes", fn := fun _ => fun
  | [d1, d2] => { results := [.lit (.bool true)], args := [d1, d2] }
  | _ => none }
def undoDoesRow : OpenClaim := { program := "ytbkhhgaihhbhjaa", sum := "bfcd489f3b2cc341041b6e1e04b2d88adba1e21397f703b69ce718e67f0e1a67", func := "emendator/emendatorlaw12.UndoDoes", spec := "undoDoes", unfollowed := true, recurses := true, apart := false }
def UndoDoesSaid : Prop := undoDoesRow.holds Try.pinned (OpenSpec.ofChange undoDoesSpec)

/-- ITS FALSE NEIGHBOUR: 'it returns false'. Refute it at one input. -/
def undoDoesWrong : ChangeSpec := { name := "undoDoes", fn := fun _ => fun
  | [d1, d2] => { results := [.lit (.bool false)], args := [d1, d2] }
  | _ => none }
def UndoDoesWrongFalsely : Prop := undoDoesRow.holds Try.pinned (OpenSpec.ofChange undoDoesWrong)

/-- 'emendatorlaw12.UndoTurns': WHATEVER THE INPUT: true; the input reads as it did. -/
def undoTurnsSpec : ChangeSpec := { name := "undoTurns", fn := fun _ => fun
  | [d] => { results := [.lit (.bool true)], args := [d] }
  | _ => none }
def undoTurnsRow : OpenClaim := { program := "ytbkhhgaihhbhjaa", sum := "bfcd489f3b2cc341041b6e1e04b2d88adba1e21397f703b69ce718e67f0e1a67", func := "emendator/emendatorlaw12.UndoTurns", spec := "undoTurns", unfollowed := true, recurses := true, apart := false }
def UndoTurnsSaid : Prop := undoTurnsRow.holds Try.pinned (OpenSpec.ofChange undoTurnsSpec)

/-- ITS FALSE NEIGHBOUR: 'it returns false'. Refute it at one input. -/
def undoTurnsWrong : ChangeSpec := { name := "undoTurns", fn := fun _ => fun
  | [d] => { results := [.lit (.bool false)], args := [d] }
  | _ => none }
def UndoTurnsWrongFalsely : Prop := undoTurnsRow.holds Try.pinned (OpenSpec.ofChange undoTurnsWrong)

/-- 'emendatorlaw12.UndoTexts': WHATEVER THE INPUT: true; the input reads as it did. -/
def undoTextsSpec : ChangeSpec := { name := "undoTexts", fn := fun _ => fun
  | [d1, d2, d3] => { results := [.lit (.bool true)], args := [d1, d2, d3] }
  | _ => none }
def undoTextsRow : OpenClaim := { program := "ytbkhhgaihhbhjaa", sum := "bfcd489f3b2cc341041b6e1e04b2d88adba1e21397f703b69ce718e67f0e1a67", func := "emendator/emendatorlaw12.UndoTexts", spec := "undoTexts", unfollowed := true, recurses := true, apart := false }
def UndoTextsSaid : Prop := undoTextsRow.holds Try.pinned (OpenSpec.ofChange undoTextsSpec)

/-- ITS FALSE NEIGHBOUR: 'it returns false'. Refute it at one input. -/
def undoTextsWrong : ChangeSpec := { name := "undoTexts", fn := fun _ => fun
  | [d1, d2, d3] => { results := [.lit (.bool false)], args := [d1, d2, d3] }
  | _ => none }
def UndoTextsWrongFalsely : Prop := undoTextsRow.holds Try.pinned (OpenSpec.ofChange undoTextsWrong)

/-- 'emendatorlaw12.UndoBounds': WHATEVER THE INPUT: true; the input reads as it did. -/
def undoBoundsSpec : ChangeSpec := { name := "undoBounds", fn := fun _ => fun
  | [d1, d2] => { results := [.lit (.bool true)], args := [d1, d2] }
  | _ => none }
def undoBoundsRow : OpenClaim := { program := "ytbkhhgaihhbhjaa", sum := "bfcd489f3b2cc341041b6e1e04b2d88adba1e21397f703b69ce718e67f0e1a67", func := "emendator/emendatorlaw12.UndoBounds", spec := "undoBounds", unfollowed := true, recurses := true, apart := false }
def UndoBoundsSaid : Prop := undoBoundsRow.holds Try.pinned (OpenSpec.ofChange undoBoundsSpec)

/-- ITS FALSE NEIGHBOUR: 'it returns false'. Refute it at one input. -/
def undoBoundsWrong : ChangeSpec := { name := "undoBounds", fn := fun _ => fun
  | [d1, d2] => { results := [.lit (.bool false)], args := [d1, d2] }
  | _ => none }
def UndoBoundsWrongFalsely : Prop := undoBoundsRow.holds Try.pinned (OpenSpec.ofChange undoBoundsWrong)

/-- 'emendatorlaw12.UndoBack': WHATEVER THE INPUT: true; the input reads as it did. -/
def undoBackSpec : ChangeSpec := { name := "undoBack", fn := fun _ => fun
  | [d1, d2] => { results := [.lit (.bool true)], args := [d1, d2] }
  | _ => none }
def undoBackRow : OpenClaim := { program := "ytbkhhgaihhbhjaa", sum := "bfcd489f3b2cc341041b6e1e04b2d88adba1e21397f703b69ce718e67f0e1a67", func := "emendator/emendatorlaw12.UndoBack", spec := "undoBack", unfollowed := true, recurses := true, apart := false }
def UndoBackSaid : Prop := undoBackRow.holds Try.pinned (OpenSpec.ofChange undoBackSpec)

/-- ITS FALSE NEIGHBOUR: 'it returns false'. Refute it at one input. -/
def undoBackWrong : ChangeSpec := { name := "undoBack", fn := fun _ => fun
  | [d1, d2] => { results := [.lit (.bool false)], args := [d1, d2] }
  | _ => none }
def UndoBackWrongFalsely : Prop := undoBackRow.holds Try.pinned (OpenSpec.ofChange undoBackWrong)

/- THE SECOND FORM. 'bulk': how many values and letters a reading holds, each counted each time it is reached (what is shared counts as often as it is met; a slice's spare places count too). A statement '..UptoSaid' is the law's where the arguments, and the package variables that the reading takes, are together of bulk at most 1048576: NARROWER than '..Said'. Prove '..Said' where nothing that the law and all that it calls make is longer than what came in: it says more and counts as full. Else prove '..UptoSaid'. A law counts once. -/
mutual
def uptoBulk {H : Type} : DataW H → Nat
  | .lit (.string bytes) => bytes.length + 1
  | .lit _ => 1
  | .nil => 1
  | .ptr d => uptoBulk d + 1
  | .slice elems spare => uptoBulkAll elems + uptoBulkAll spare + 1
  | .agg parts => uptoBulkAll parts + 1
  | .iface _ d => uptoBulk d + 1
  | .map entries => uptoBulkEntries entries + 1
  | .held _ => 1
def uptoBulkAll {H : Type} : List (DataW H) → Nat
  | [] => 0
  | d :: r => uptoBulk d + uptoBulkAll r
def uptoBulkEntries {H : Type} : List (Lit × DataW H) → Nat
  | [] => 0
  | x :: r => uptoBulkEntry x + uptoBulkEntries r
def uptoBulkEntry {H : Type} : Lit × DataW H → Nat
  | (.string bytes, d) => bytes.length + uptoBulk d + 1
  | (_, d) => uptoBulk d + 1
 end
def uptoSmall : (H : Type) → List (DataW H) → Bool := fun _ ds => decide (uptoBulkAll ds ≤ 1048576)
def OpenSpec.upto (s : _root_.Go.ChangeSpec) : _root_.Go.OpenSpec := { _root_.Go.OpenSpec.ofChange s with cond := some uptoSmall }

/-- 'emendatorlaw12.UndoSteps', WHERE WHAT IT READS IS OF BULK AT MOST 1048576: true; the input reads as it did. -/
def undoStepsUptoRow : OpenClaim := { program := "ytbkhhgaihhbhjaa", sum := "bfcd489f3b2cc341041b6e1e04b2d88adba1e21397f703b69ce718e67f0e1a67", func := "emendator/emendatorlaw12.UndoSteps", spec := "undoSteps", unfollowed := true, recurses := true, apart := false, narrowed := true }
def UndoStepsUptoSaid : Prop := undoStepsUptoRow.holds Try.pinned (OpenSpec.upto undoStepsSpec)

/-- 'emendatorlaw12.UndoOn', WHERE WHAT IT READS IS OF BULK AT MOST 1048576: true; the input reads as it did. -/
def undoOnUptoRow : OpenClaim := { program := "ytbkhhgaihhbhjaa", sum := "bfcd489f3b2cc341041b6e1e04b2d88adba1e21397f703b69ce718e67f0e1a67", func := "emendator/emendatorlaw12.UndoOn", spec := "undoOn", unfollowed := true, recurses := true, apart := false, narrowed := true }
def UndoOnUptoSaid : Prop := undoOnUptoRow.holds Try.pinned (OpenSpec.upto undoOnSpec)

/-- 'emendatorlaw12.UndoNone', WHERE WHAT IT READS IS OF BULK AT MOST 1048576: true; the input reads as it did. -/
def undoNoneUptoRow : OpenClaim := { program := "ytbkhhgaihhbhjaa", sum := "bfcd489f3b2cc341041b6e1e04b2d88adba1e21397f703b69ce718e67f0e1a67", func := "emendator/emendatorlaw12.UndoNone", spec := "undoNone", unfollowed := true, recurses := true, apart := false, narrowed := true }
def UndoNoneUptoSaid : Prop := undoNoneUptoRow.holds Try.pinned (OpenSpec.upto undoNoneSpec)

/-- 'emendatorlaw12.UndoDoes', WHERE WHAT IT READS IS OF BULK AT MOST 1048576: true; the input reads as it did. -/
def undoDoesUptoRow : OpenClaim := { program := "ytbkhhgaihhbhjaa", sum := "bfcd489f3b2cc341041b6e1e04b2d88adba1e21397f703b69ce718e67f0e1a67", func := "emendator/emendatorlaw12.UndoDoes", spec := "undoDoes", unfollowed := true, recurses := true, apart := false, narrowed := true }
def UndoDoesUptoSaid : Prop := undoDoesUptoRow.holds Try.pinned (OpenSpec.upto undoDoesSpec)

/-- 'emendatorlaw12.UndoTurns', WHERE WHAT IT READS IS OF BULK AT MOST 1048576: true; the input reads as it did. -/
def undoTurnsUptoRow : OpenClaim := { program := "ytbkhhgaihhbhjaa", sum := "bfcd489f3b2cc341041b6e1e04b2d88adba1e21397f703b69ce718e67f0e1a67", func := "emendator/emendatorlaw12.UndoTurns", spec := "undoTurns", unfollowed := true, recurses := true, apart := false, narrowed := true }
def UndoTurnsUptoSaid : Prop := undoTurnsUptoRow.holds Try.pinned (OpenSpec.upto undoTurnsSpec)

/-- 'emendatorlaw12.UndoTexts', WHERE WHAT IT READS IS OF BULK AT MOST 1048576: true; the input reads as it did. -/
def undoTextsUptoRow : OpenClaim := { program := "ytbkhhgaihhbhjaa", sum := "bfcd489f3b2cc341041b6e1e04b2d88adba1e21397f703b69ce718e67f0e1a67", func := "emendator/emendatorlaw12.UndoTexts", spec := "undoTexts", unfollowed := true, recurses := true, apart := false, narrowed := true }
def UndoTextsUptoSaid : Prop := undoTextsUptoRow.holds Try.pinned (OpenSpec.upto undoTextsSpec)

/-- 'emendatorlaw12.UndoBounds', WHERE WHAT IT READS IS OF BULK AT MOST 1048576: true; the input reads as it did. -/
def undoBoundsUptoRow : OpenClaim := { program := "ytbkhhgaihhbhjaa", sum := "bfcd489f3b2cc341041b6e1e04b2d88adba1e21397f703b69ce718e67f0e1a67", func := "emendator/emendatorlaw12.UndoBounds", spec := "undoBounds", unfollowed := true, recurses := true, apart := false, narrowed := true }
def UndoBoundsUptoSaid : Prop := undoBoundsUptoRow.holds Try.pinned (OpenSpec.upto undoBoundsSpec)

/-- 'emendatorlaw12.UndoBack', WHERE WHAT IT READS IS OF BULK AT MOST 1048576: true; the input reads as it did. -/
def undoBackUptoRow : OpenClaim := { program := "ytbkhhgaihhbhjaa", sum := "bfcd489f3b2cc341041b6e1e04b2d88adba1e21397f703b69ce718e67f0e1a67", func := "emendator/emendatorlaw12.UndoBack", spec := "undoBack", unfollowed := true, recurses := true, apart := false, narrowed := true }
def UndoBackUptoSaid : Prop := undoBackUptoRow.holds Try.pinned (OpenSpec.upto undoBackSpec)

end Rows
end Go.Proofs.Ytbkhhgaihhbhjaa
