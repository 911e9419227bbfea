/-
  No cell of these rows narrows 'for every input' (looked for: loops, veiled, ifaces, maps, wideKeys, modest, calm, conditions, laid).
  DERIVED. THE GIVEN ROWS OF THIS SEAT. 4 by the template 'for every input the law returns true; each argument reads behind the call as it read before'; 0 by the template 'total and deterministic' (their statements: YtfbcmabpaecbjabTotals.lean).
  GIVEN WITH THE SEED: the statements are not yours to turn. If you find one false, say at which input.
  Laid BY PROGRAM, IN A SANDBOX (cutbox-rows.mjs): the forced cells as the released guide's own fill.sh prints them over the translation 612f4261dcdf079e… (all of the seat's roots in one cut). By AI agents, Wed Nov 11 2026. No macro, syntax, notation, axiom, sorry.
-/
import Derived.Test.YtfbcmabpaecbjabChecked
import GoSem.Claim
import GoSem.ClaimJoined
import GoSem.ClaimMapViews
import Derived.JoinedTies
import Derived.KernelRfl
namespace Go.Proofs.Ytfbcmabpaecbjab
/- THE CELL 'sum', in the pinned program and in every row, IS THE sha256 OF THE DUMP (.gsa) THAT YtfbcmabpaecbjabProg.lean LOADS. Nothing in Lean hashes anything: it is a label: what it is worth is what the hold of that sum in a sandbox is worth. -/
noncomputable def Try.pinned : Pinned := { name := "ytfbcmabpaecbjab", sum := "612f4261dcdf079ed41f3cba40876b0f462701f058a225020dc7baeef6e3ecd9", checked := Try.checked }
namespace Rows
def none {H : Type} : Left H := { results := [], args := [] }

/-- 'emendatorlaw01.KindLetters': WHATEVER THE INPUT: true; the input reads as it did. -/
def kindLettersSpec : ChangeSpec := { name := "kindLetters", fn := fun _ => fun
  | [d1, d2, d3] => { results := [.lit (.bool true)], args := [d1, d2, d3] }
  | _ => none }
def kindLettersRow : OpenClaim := { program := "ytfbcmabpaecbjab", sum := "612f4261dcdf079ed41f3cba40876b0f462701f058a225020dc7baeef6e3ecd9", func := "emendator/emendatorlaw01.KindLetters", spec := "kindLetters", unfollowed := true, recurses := true, apart := false }
def KindLettersSaid : Prop := kindLettersRow.holds Try.pinned (OpenSpec.ofChange kindLettersSpec)

/-- ITS FALSE NEIGHBOUR: 'it returns false'. Refute it at one input. -/
def kindLettersWrong : ChangeSpec := { name := "kindLetters", fn := fun _ => fun
  | [d1, d2, d3] => { results := [.lit (.bool false)], args := [d1, d2, d3] }
  | _ => none }
def KindLettersWrongFalsely : Prop := kindLettersRow.holds Try.pinned (OpenSpec.ofChange kindLettersWrong)

/-- 'emendatorlaw01.KindOther': WHATEVER THE INPUT: true; the input reads as it did. -/
def kindOtherSpec : ChangeSpec := { name := "kindOther", fn := fun _ => fun
  | [d1, d2] => { results := [.lit (.bool true)], args := [d1, d2] }
  | _ => none }
def kindOtherRow : OpenClaim := { program := "ytfbcmabpaecbjab", sum := "612f4261dcdf079ed41f3cba40876b0f462701f058a225020dc7baeef6e3ecd9", func := "emendator/emendatorlaw01.KindOther", spec := "kindOther", unfollowed := true, recurses := true, apart := false }
def KindOtherSaid : Prop := kindOtherRow.holds Try.pinned (OpenSpec.ofChange kindOtherSpec)

/-- ITS FALSE NEIGHBOUR: 'it returns false'. Refute it at one input. -/
def kindOtherWrong : ChangeSpec := { name := "kindOther", fn := fun _ => fun
  | [d1, d2] => { results := [.lit (.bool false)], args := [d1, d2] }
  | _ => none }
def KindOtherWrongFalsely : Prop := kindOtherRow.holds Try.pinned (OpenSpec.ofChange kindOtherWrong)

/-- 'emendatorlaw01.KindWith': WHATEVER THE INPUT: true; the input reads as it did. -/
def kindWithSpec : ChangeSpec := { name := "kindWith", fn := fun _ => fun
  | [d1, d2, d3, d4] => { results := [.lit (.bool true)], args := [d1, d2, d3, d4] }
  | _ => none }
def kindWithRow : OpenClaim := { program := "ytfbcmabpaecbjab", sum := "612f4261dcdf079ed41f3cba40876b0f462701f058a225020dc7baeef6e3ecd9", func := "emendator/emendatorlaw01.KindWith", spec := "kindWith", unfollowed := true, recurses := true, apart := false }
def KindWithSaid : Prop := kindWithRow.holds Try.pinned (OpenSpec.ofChange kindWithSpec)

/-- ITS FALSE NEIGHBOUR: 'it returns false'. Refute it at one input. -/
def kindWithWrong : ChangeSpec := { name := "kindWith", fn := fun _ => fun
  | [d1, d2, d3, d4] => { results := [.lit (.bool false)], args := [d1, d2, d3, d4] }
  | _ => none }
def KindWithWrongFalsely : Prop := kindWithRow.holds Try.pinned (OpenSpec.ofChange kindWithWrong)

/-- 'emendatorlaw01.KindFolds': WHATEVER THE INPUT: true; the input reads as it did. -/
def kindFoldsSpec : ChangeSpec := { name := "kindFolds", fn := fun _ => fun
  | [d1, d2] => { results := [.lit (.bool true)], args := [d1, d2] }
  | _ => none }
def kindFoldsRow : OpenClaim := { program := "ytfbcmabpaecbjab", sum := "612f4261dcdf079ed41f3cba40876b0f462701f058a225020dc7baeef6e3ecd9", func := "emendator/emendatorlaw01.KindFolds", spec := "kindFolds", unfollowed := true, recurses := true, apart := false }
def KindFoldsSaid : Prop := kindFoldsRow.holds Try.pinned (OpenSpec.ofChange kindFoldsSpec)

/-- ITS FALSE NEIGHBOUR: 'it returns false'. Refute it at one input. -/
def kindFoldsWrong : ChangeSpec := { name := "kindFolds", fn := fun _ => fun
  | [d1, d2] => { results := [.lit (.bool false)], args := [d1, d2] }
  | _ => none }
def KindFoldsWrongFalsely : Prop := kindFoldsRow.holds Try.pinned (OpenSpec.ofChange kindFoldsWrong)

/- THE SECOND FORM. 'bulk': how many values and letters a reading holds, each counted each time it is reached (what is shared counts as often as it is met; a slice's spare places count too). A statement '..UptoSaid' is the law's where the arguments, and the package variables that the reading takes, are together of bulk at most 1048576: NARROWER than '..Said'. Prove '..Said' where nothing that the law and all that it calls make is longer than what came in: it says more and counts as full. Else prove '..UptoSaid'. A law counts once. -/
mutual
def uptoBulk {H : Type} : DataW H → Nat
  | .lit (.string bytes) => bytes.length + 1
  | .lit _ => 1
  | .nil => 1
  | .ptr d => uptoBulk d + 1
  | .slice elems spare => uptoBulkAll elems + uptoBulkAll spare + 1
  | .agg parts => uptoBulkAll parts + 1
  | .iface _ d => uptoBulk d + 1
  | .map entries => uptoBulkEntries entries + 1
  | .held _ => 1
def uptoBulkAll {H : Type} : List (DataW H) → Nat
  | [] => 0
  | d :: r => uptoBulk d + uptoBulkAll r
def uptoBulkEntries {H : Type} : List (Lit × DataW H) → Nat
  | [] => 0
  | x :: r => uptoBulkEntry x + uptoBulkEntries r
def uptoBulkEntry {H : Type} : Lit × DataW H → Nat
  | (.string bytes, d) => bytes.length + uptoBulk d + 1
  | (_, d) => uptoBulk d + 1
 end
def uptoSmall : (H : Type) → List (DataW H) → Bool := fun _ ds => decide (uptoBulkAll ds ≤ 1048576)
def OpenSpec.upto (s : _root_.Go.ChangeSpec) : _root_.Go.OpenSpec := { _root_.Go.OpenSpec.ofChange s with cond := some uptoSmall }

/-- 'emendatorlaw01.KindLetters', WHERE WHAT IT READS IS OF BULK AT MOST 1048576: true; the input reads as it did. -/
def kindLettersUptoRow : OpenClaim := { program := "ytfbcmabpaecbjab", sum := "612f4261dcdf079ed41f3cba40876b0f462701f058a225020dc7baeef6e3ecd9", func := "emendator/emendatorlaw01.KindLetters", spec := "kindLetters", unfollowed := true, recurses := true, apart := false, narrowed := true }
def KindLettersUptoSaid : Prop := kindLettersUptoRow.holds Try.pinned (OpenSpec.upto kindLettersSpec)

/-- 'emendatorlaw01.KindOther', WHERE WHAT IT READS IS OF BULK AT MOST 1048576: true; the input reads as it did. -/
def kindOtherUptoRow : OpenClaim := { program := "ytfbcmabpaecbjab", sum := "612f4261dcdf079ed41f3cba40876b0f462701f058a225020dc7baeef6e3ecd9", func := "emendator/emendatorlaw01.KindOther", spec := "kindOther", unfollowed := true, recurses := true, apart := false, narrowed := true }
def KindOtherUptoSaid : Prop := kindOtherUptoRow.holds Try.pinned (OpenSpec.upto kindOtherSpec)

/-- 'emendatorlaw01.KindWith', WHERE WHAT IT READS IS OF BULK AT MOST 1048576: true; the input reads as it did. -/
def kindWithUptoRow : OpenClaim := { program := "ytfbcmabpaecbjab", sum := "612f4261dcdf079ed41f3cba40876b0f462701f058a225020dc7baeef6e3ecd9", func := "emendator/emendatorlaw01.KindWith", spec := "kindWith", unfollowed := true, recurses := true, apart := false, narrowed := true }
def KindWithUptoSaid : Prop := kindWithUptoRow.holds Try.pinned (OpenSpec.upto kindWithSpec)

/-- 'emendatorlaw01.KindFolds', WHERE WHAT IT READS IS OF BULK AT MOST 1048576: true; the input reads as it did. -/
def kindFoldsUptoRow : OpenClaim := { program := "ytfbcmabpaecbjab", sum := "612f4261dcdf079ed41f3cba40876b0f462701f058a225020dc7baeef6e3ecd9", func := "emendator/emendatorlaw01.KindFolds", spec := "kindFolds", unfollowed := true, recurses := true, apart := false, narrowed := true }
def KindFoldsUptoSaid : Prop := kindFoldsUptoRow.holds Try.pinned (OpenSpec.upto kindFoldsSpec)

end Rows
end Go.Proofs.Ytfbcmabpaecbjab
