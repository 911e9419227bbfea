/-
  No cell of these rows narrows 'for every input' (looked for: loops, veiled, ifaces, maps, wideKeys, modest, calm, conditions, laid).
  DERIVED. THE GIVEN ROWS OF THIS SEAT. 6 by the template 'for every input the law returns true; each argument reads behind the call as it read before'; 0 by the template 'total and deterministic' (their statements: YtaefeakmlgjonaaGreatTotals.lean).
  GIVEN WITH THE SEED: the statements are not yours to turn. If you find one false, say at which input.
  Laid BY PROGRAM, IN A SANDBOX (cutbox-rows.mjs): the forced cells as the released guide's own fill.sh prints them over the translation b3a56dd55d1e3fda… (all of the seat's roots in one cut). By AI agents, Wed Nov 11 2026. No macro, syntax, notation, axiom, sorry.
-/
import Derived.Test.YtaefeakmlgjonaaGreatChecked
import GoSem.Claim
import GoSem.ClaimJoined
import GoSem.ClaimMapViews
import Derived.JoinedTies
import Derived.KernelRfl
namespace Go.Proofs.YtaefeakmlgjonaaGreat
/- THE CELL 'sum', in the pinned program and in every row, IS THE sha256 OF THE DUMP (.gsa) THAT YtaefeakmlgjonaaGreatProg.lean LOADS. Nothing in Lean hashes anything: it is a label: what it is worth is what the hold of that sum in a sandbox is worth. -/
noncomputable def Tryz.pinned : Pinned := { name := "ytaefeakmlgjonaagreat", sum := "b3a56dd55d1e3fdad1f6b8f365f4b940be8485ed3c17bb492dc0d67c9665b52e", checked := Tryz.checked }
namespace Rows
def none {H : Type} : Left H := { results := [], args := [] }

/-- 'emendatorlaw13.BufMoves': WHATEVER THE INPUT: true; the input reads as it did. -/
def bufMovesSpec : ChangeSpec := { name := "bufMoves", fn := fun _ => fun
  | [d1, d2, d3, d4] => { results := [.lit (.bool true)], args := [d1, d2, d3, d4] }
  | _ => none }
def bufMovesRow : OpenClaim := { program := "ytaefeakmlgjonaagreat", sum := "b3a56dd55d1e3fdad1f6b8f365f4b940be8485ed3c17bb492dc0d67c9665b52e", func := "emendator/emendatorlaw13.BufMoves", spec := "bufMoves", inPlace := ["slices.overlaps[int]", "slices.overlaps[string]", "maps.clone"], unfollowed := true, recurses := true, apart := false }
def BufMovesSaid : Prop := bufMovesRow.holds Tryz.pinned (OpenSpec.ofChange bufMovesSpec)

/-- ITS FALSE NEIGHBOUR: 'it returns false'. Refute it at one input. -/
def bufMovesWrong : ChangeSpec := { name := "bufMoves", fn := fun _ => fun
  | [d1, d2, d3, d4] => { results := [.lit (.bool false)], args := [d1, d2, d3, d4] }
  | _ => none }
def BufMovesWrongFalsely : Prop := bufMovesRow.holds Tryz.pinned (OpenSpec.ofChange bufMovesWrong)

/-- 'emendatorlaw13.BufMarks': WHATEVER THE INPUT: true; the input reads as it did. -/
def bufMarksSpec : ChangeSpec := { name := "bufMarks", fn := fun _ => fun
  | [d1, d2, d3] => { results := [.lit (.bool true)], args := [d1, d2, d3] }
  | _ => none }
def bufMarksRow : OpenClaim := { program := "ytaefeakmlgjonaagreat", sum := "b3a56dd55d1e3fdad1f6b8f365f4b940be8485ed3c17bb492dc0d67c9665b52e", func := "emendator/emendatorlaw13.BufMarks", spec := "bufMarks", inPlace := ["slices.overlaps[int]", "slices.overlaps[string]", "maps.clone"], unfollowed := true, recurses := true, apart := false }
def BufMarksSaid : Prop := bufMarksRow.holds Tryz.pinned (OpenSpec.ofChange bufMarksSpec)

/-- ITS FALSE NEIGHBOUR: 'it returns false'. Refute it at one input. -/
def bufMarksWrong : ChangeSpec := { name := "bufMarks", fn := fun _ => fun
  | [d1, d2, d3] => { results := [.lit (.bool false)], args := [d1, d2, d3] }
  | _ => none }
def BufMarksWrongFalsely : Prop := bufMarksRow.holds Tryz.pinned (OpenSpec.ofChange bufMarksWrong)

/-- 'emendatorlaw13.BufEmpty': WHATEVER THE INPUT: true; the input reads as it did. -/
def bufEmptySpec : ChangeSpec := { name := "bufEmpty", fn := fun _ => fun
  | [d] => { results := [.lit (.bool true)], args := [d] }
  | _ => none }
def bufEmptyRow : OpenClaim := { program := "ytaefeakmlgjonaagreat", sum := "b3a56dd55d1e3fdad1f6b8f365f4b940be8485ed3c17bb492dc0d67c9665b52e", func := "emendator/emendatorlaw13.BufEmpty", spec := "bufEmpty", inPlace := ["slices.overlaps[int]", "slices.overlaps[string]", "maps.clone"], unfollowed := true, recurses := true, apart := false }
def BufEmptySaid : Prop := bufEmptyRow.holds Tryz.pinned (OpenSpec.ofChange bufEmptySpec)

/-- ITS FALSE NEIGHBOUR: 'it returns false'. Refute it at one input. -/
def bufEmptyWrong : ChangeSpec := { name := "bufEmpty", fn := fun _ => fun
  | [d] => { results := [.lit (.bool false)], args := [d] }
  | _ => none }
def BufEmptyWrongFalsely : Prop := bufEmptyRow.holds Tryz.pinned (OpenSpec.ofChange bufEmptyWrong)

/-- 'emendatorlaw13.BufBack': WHATEVER THE INPUT: true; the input reads as it did. -/
def bufBackSpec : ChangeSpec := { name := "bufBack", fn := fun _ => fun
  | [d1, d2, d3] => { results := [.lit (.bool true)], args := [d1, d2, d3] }
  | _ => none }
def bufBackRow : OpenClaim := { program := "ytaefeakmlgjonaagreat", sum := "b3a56dd55d1e3fdad1f6b8f365f4b940be8485ed3c17bb492dc0d67c9665b52e", func := "emendator/emendatorlaw13.BufBack", spec := "bufBack", inPlace := ["slices.overlaps[int]", "slices.overlaps[string]", "maps.clone"], unfollowed := true, recurses := true, apart := false }
def BufBackSaid : Prop := bufBackRow.holds Tryz.pinned (OpenSpec.ofChange bufBackSpec)

/-- ITS FALSE NEIGHBOUR: 'it returns false'. Refute it at one input. -/
def bufBackWrong : ChangeSpec := { name := "bufBack", fn := fun _ => fun
  | [d1, d2, d3] => { results := [.lit (.bool false)], args := [d1, d2, d3] }
  | _ => none }
def BufBackWrongFalsely : Prop := bufBackRow.holds Tryz.pinned (OpenSpec.ofChange bufBackWrong)

/-- 'emendatorlaw13.BufStates': WHATEVER THE INPUT: true; the input reads as it did. -/
def bufStatesSpec : ChangeSpec := { name := "bufStates", fn := fun _ => fun
  | [d1, d2] => { results := [.lit (.bool true)], args := [d1, d2] }
  | _ => none }
def bufStatesRow : OpenClaim := { program := "ytaefeakmlgjonaagreat", sum := "b3a56dd55d1e3fdad1f6b8f365f4b940be8485ed3c17bb492dc0d67c9665b52e", func := "emendator/emendatorlaw13.BufStates", spec := "bufStates", inPlace := ["slices.overlaps[int]", "slices.overlaps[string]", "maps.clone"], unfollowed := true, recurses := true, apart := false }
def BufStatesSaid : Prop := bufStatesRow.holds Tryz.pinned (OpenSpec.ofChange bufStatesSpec)

/-- ITS FALSE NEIGHBOUR: 'it returns false'. Refute it at one input. -/
def bufStatesWrong : ChangeSpec := { name := "bufStates", fn := fun _ => fun
  | [d1, d2] => { results := [.lit (.bool false)], args := [d1, d2] }
  | _ => none }
def BufStatesWrongFalsely : Prop := bufStatesRow.holds Tryz.pinned (OpenSpec.ofChange bufStatesWrong)

/-- 'emendatorlaw13.BufRefuses': WHATEVER THE INPUT: true; the input reads as it did. -/
def bufRefusesSpec : ChangeSpec := { name := "bufRefuses", fn := fun _ => fun
  | [d1, d2, d3] => { results := [.lit (.bool true)], args := [d1, d2, d3] }
  | _ => none }
def bufRefusesRow : OpenClaim := { program := "ytaefeakmlgjonaagreat", sum := "b3a56dd55d1e3fdad1f6b8f365f4b940be8485ed3c17bb492dc0d67c9665b52e", func := "emendator/emendatorlaw13.BufRefuses", spec := "bufRefuses", inPlace := ["slices.overlaps[int]", "slices.overlaps[string]", "maps.clone"], unfollowed := true, recurses := true, apart := false }
def BufRefusesSaid : Prop := bufRefusesRow.holds Tryz.pinned (OpenSpec.ofChange bufRefusesSpec)

/-- ITS FALSE NEIGHBOUR: 'it returns false'. Refute it at one input. -/
def bufRefusesWrong : ChangeSpec := { name := "bufRefuses", fn := fun _ => fun
  | [d1, d2, d3] => { results := [.lit (.bool false)], args := [d1, d2, d3] }
  | _ => none }
def BufRefusesWrongFalsely : Prop := bufRefusesRow.holds Tryz.pinned (OpenSpec.ofChange bufRefusesWrong)

/- THE SECOND FORM. 'bulk': how many values and letters a reading holds, each counted each time it is reached (what is shared counts as often as it is met; a slice's spare places count too). A statement '..UptoSaid' is the law's where the arguments, and the package variables that the reading takes, are together of bulk at most 1048576: NARROWER than '..Said'. Prove '..Said' where nothing that the law and all that it calls make is longer than what came in: it says more and counts as full. Else prove '..UptoSaid'. A law counts once. -/
mutual
def uptoBulk {H : Type} : DataW H → Nat
  | .lit (.string bytes) => bytes.length + 1
  | .lit _ => 1
  | .nil => 1
  | .ptr d => uptoBulk d + 1
  | .slice elems spare => uptoBulkAll elems + uptoBulkAll spare + 1
  | .agg parts => uptoBulkAll parts + 1
  | .iface _ d => uptoBulk d + 1
  | .map entries => uptoBulkEntries entries + 1
  | .held _ => 1
def uptoBulkAll {H : Type} : List (DataW H) → Nat
  | [] => 0
  | d :: r => uptoBulk d + uptoBulkAll r
def uptoBulkEntries {H : Type} : List (Lit × DataW H) → Nat
  | [] => 0
  | x :: r => uptoBulkEntry x + uptoBulkEntries r
def uptoBulkEntry {H : Type} : Lit × DataW H → Nat
  | (.string bytes, d) => bytes.length + uptoBulk d + 1
  | (_, d) => uptoBulk d + 1
 end
def uptoSmall : (H : Type) → List (DataW H) → Bool := fun _ ds => decide (uptoBulkAll ds ≤ 1048576)
def OpenSpec.upto (s : _root_.Go.ChangeSpec) : _root_.Go.OpenSpec := { _root_.Go.OpenSpec.ofChange s with cond := some uptoSmall }

/-- 'emendatorlaw13.BufMoves', WHERE WHAT IT READS IS OF BULK AT MOST 1048576: true; the input reads as it did. -/
def bufMovesUptoRow : OpenClaim := { program := "ytaefeakmlgjonaagreat", sum := "b3a56dd55d1e3fdad1f6b8f365f4b940be8485ed3c17bb492dc0d67c9665b52e", func := "emendator/emendatorlaw13.BufMoves", spec := "bufMoves", inPlace := ["slices.overlaps[int]", "slices.overlaps[string]", "maps.clone"], unfollowed := true, recurses := true, apart := false, narrowed := true }
def BufMovesUptoSaid : Prop := bufMovesUptoRow.holds Tryz.pinned (OpenSpec.upto bufMovesSpec)

/-- 'emendatorlaw13.BufMarks', WHERE WHAT IT READS IS OF BULK AT MOST 1048576: true; the input reads as it did. -/
def bufMarksUptoRow : OpenClaim := { program := "ytaefeakmlgjonaagreat", sum := "b3a56dd55d1e3fdad1f6b8f365f4b940be8485ed3c17bb492dc0d67c9665b52e", func := "emendator/emendatorlaw13.BufMarks", spec := "bufMarks", inPlace := ["slices.overlaps[int]", "slices.overlaps[string]", "maps.clone"], unfollowed := true, recurses := true, apart := false, narrowed := true }
def BufMarksUptoSaid : Prop := bufMarksUptoRow.holds Tryz.pinned (OpenSpec.upto bufMarksSpec)

/-- 'emendatorlaw13.BufEmpty', WHERE WHAT IT READS IS OF BULK AT MOST 1048576: true; the input reads as it did. -/
def bufEmptyUptoRow : OpenClaim := { program := "ytaefeakmlgjonaagreat", sum := "b3a56dd55d1e3fdad1f6b8f365f4b940be8485ed3c17bb492dc0d67c9665b52e", func := "emendator/emendatorlaw13.BufEmpty", spec := "bufEmpty", inPlace := ["slices.overlaps[int]", "slices.overlaps[string]", "maps.clone"], unfollowed := true, recurses := true, apart := false, narrowed := true }
def BufEmptyUptoSaid : Prop := bufEmptyUptoRow.holds Tryz.pinned (OpenSpec.upto bufEmptySpec)

/-- 'emendatorlaw13.BufBack', WHERE WHAT IT READS IS OF BULK AT MOST 1048576: true; the input reads as it did. -/
def bufBackUptoRow : OpenClaim := { program := "ytaefeakmlgjonaagreat", sum := "b3a56dd55d1e3fdad1f6b8f365f4b940be8485ed3c17bb492dc0d67c9665b52e", func := "emendator/emendatorlaw13.BufBack", spec := "bufBack", inPlace := ["slices.overlaps[int]", "slices.overlaps[string]", "maps.clone"], unfollowed := true, recurses := true, apart := false, narrowed := true }
def BufBackUptoSaid : Prop := bufBackUptoRow.holds Tryz.pinned (OpenSpec.upto bufBackSpec)

/-- 'emendatorlaw13.BufStates', WHERE WHAT IT READS IS OF BULK AT MOST 1048576: true; the input reads as it did. -/
def bufStatesUptoRow : OpenClaim := { program := "ytaefeakmlgjonaagreat", sum := "b3a56dd55d1e3fdad1f6b8f365f4b940be8485ed3c17bb492dc0d67c9665b52e", func := "emendator/emendatorlaw13.BufStates", spec := "bufStates", inPlace := ["slices.overlaps[int]", "slices.overlaps[string]", "maps.clone"], unfollowed := true, recurses := true, apart := false, narrowed := true }
def BufStatesUptoSaid : Prop := bufStatesUptoRow.holds Tryz.pinned (OpenSpec.upto bufStatesSpec)

/-- 'emendatorlaw13.BufRefuses', WHERE WHAT IT READS IS OF BULK AT MOST 1048576: true; the input reads as it did. -/
def bufRefusesUptoRow : OpenClaim := { program := "ytaefeakmlgjonaagreat", sum := "b3a56dd55d1e3fdad1f6b8f365f4b940be8485ed3c17bb492dc0d67c9665b52e", func := "emendator/emendatorlaw13.BufRefuses", spec := "bufRefuses", inPlace := ["slices.overlaps[int]", "slices.overlaps[string]", "maps.clone"], unfollowed := true, recurses := true, apart := false, narrowed := true }
def BufRefusesUptoSaid : Prop := bufRefusesUptoRow.holds Tryz.pinned (OpenSpec.upto bufRefusesSpec)

end Rows
end Go.Proofs.YtaefeakmlgjonaaGreat
