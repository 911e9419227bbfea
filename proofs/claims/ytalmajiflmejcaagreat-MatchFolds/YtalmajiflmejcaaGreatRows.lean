/-
  No cell of these rows narrows 'for every input' (looked for: loops, veiled, ifaces, maps, wideKeys, modest, calm, conditions, laid).
  DERIVED. THE GIVEN ROWS OF THIS SEAT. 16 by the template 'for every input the law returns true; each argument reads behind the call as it read before'; 0 by the template 'total and deterministic' (their statements: YtalmajiflmejcaaGreatTotals.lean).
  GIVEN WITH THE SEED: the statements are not yours to turn. If you find one false, say at which input.
  Laid BY PROGRAM, IN A SANDBOX (cutbox-rows.mjs): the forced cells as the released guide's own fill.sh prints them over the translation d8344c6ab239b7d6… (all of the seat's roots in one cut). By AI agents, Wed Nov 11 2026. No macro, syntax, notation, axiom, sorry.
-/
import Derived.Test.YtalmajiflmejcaaGreatChecked
import GoSem.Claim
import GoSem.ClaimJoined
import GoSem.ClaimMapViews
import Derived.JoinedTies
import Derived.KernelRfl
namespace Go.Proofs.YtalmajiflmejcaaGreat
/- THE CELL 'sum', in the pinned program and in every row, IS THE sha256 OF THE DUMP (.gsa) THAT YtalmajiflmejcaaGreatProg.lean LOADS. Nothing in Lean hashes anything: it is a label: what it is worth is what the hold of that sum in a sandbox is worth. -/
noncomputable def Tryz.pinned : Pinned := { name := "ytalmajiflmejcaagreat", sum := "d8344c6ab239b7d6ae5e960fa7b95cc07e0687a3f10446a7c28dee5da9991b02", checked := Tryz.checked }
namespace Rows
def none {H : Type} : Left H := { results := [], args := [] }

/-- 'emendatorlaw05.MatchFolds': WHATEVER THE INPUT: true; the input reads as it did. -/
def matchFoldsSpec : ChangeSpec := { name := "matchFolds", fn := fun _ => fun
  | [d1, d2] => { results := [.lit (.bool true)], args := [d1, d2] }
  | _ => none }
def matchFoldsRow : OpenClaim := { program := "ytalmajiflmejcaagreat", sum := "d8344c6ab239b7d6ae5e960fa7b95cc07e0687a3f10446a7c28dee5da9991b02", func := "emendator/emendatorlaw05.MatchFolds", spec := "matchFolds", unfollowed := true, recurses := true, apart := false }
def MatchFoldsSaid : Prop := matchFoldsRow.holds Tryz.pinned (OpenSpec.ofChange matchFoldsSpec)

/-- ITS FALSE NEIGHBOUR: 'it returns false'. Refute it at one input. -/
def matchFoldsWrong : ChangeSpec := { name := "matchFolds", fn := fun _ => fun
  | [d1, d2] => { results := [.lit (.bool false)], args := [d1, d2] }
  | _ => none }
def MatchFoldsWrongFalsely : Prop := matchFoldsRow.holds Tryz.pinned (OpenSpec.ofChange matchFoldsWrong)

/-- 'emendatorlaw05.MatchTries': WHATEVER THE INPUT: true; the input reads as it did. -/
def matchTriesSpec : ChangeSpec := { name := "matchTries", fn := fun _ => fun
  | [d1, d2, d3, d4, d5] => { results := [.lit (.bool true)], args := [d1, d2, d3, d4, d5] }
  | _ => none }
def matchTriesRow : OpenClaim := { program := "ytalmajiflmejcaagreat", sum := "d8344c6ab239b7d6ae5e960fa7b95cc07e0687a3f10446a7c28dee5da9991b02", func := "emendator/emendatorlaw05.MatchTries", spec := "matchTries", unfollowed := true, recurses := true, apart := false }
def MatchTriesSaid : Prop := matchTriesRow.holds Tryz.pinned (OpenSpec.ofChange matchTriesSpec)

/-- ITS FALSE NEIGHBOUR: 'it returns false'. Refute it at one input. -/
def matchTriesWrong : ChangeSpec := { name := "matchTries", fn := fun _ => fun
  | [d1, d2, d3, d4, d5] => { results := [.lit (.bool false)], args := [d1, d2, d3, d4, d5] }
  | _ => none }
def MatchTriesWrongFalsely : Prop := matchTriesRow.holds Tryz.pinned (OpenSpec.ofChange matchTriesWrong)

/-- 'emendatorlaw05.MatchAny': WHATEVER THE INPUT: true; the input reads as it did. -/
def matchAnySpec : ChangeSpec := { name := "matchAny", fn := fun _ => fun
  | [d1, d2, d3, d4] => { results := [.lit (.bool true)], args := [d1, d2, d3, d4] }
  | _ => none }
def matchAnyRow : OpenClaim := { program := "ytalmajiflmejcaagreat", sum := "d8344c6ab239b7d6ae5e960fa7b95cc07e0687a3f10446a7c28dee5da9991b02", func := "emendator/emendatorlaw05.MatchAny", spec := "matchAny", unfollowed := true, recurses := true, apart := false }
def MatchAnySaid : Prop := matchAnyRow.holds Tryz.pinned (OpenSpec.ofChange matchAnySpec)

/-- ITS FALSE NEIGHBOUR: 'it returns false'. Refute it at one input. -/
def matchAnyWrong : ChangeSpec := { name := "matchAny", fn := fun _ => fun
  | [d1, d2, d3, d4] => { results := [.lit (.bool false)], args := [d1, d2, d3, d4] }
  | _ => none }
def MatchAnyWrongFalsely : Prop := matchAnyRow.holds Tryz.pinned (OpenSpec.ofChange matchAnyWrong)

/-- 'emendatorlaw05.MatchPlain': WHATEVER THE INPUT: true; the input reads as it did. -/
def matchPlainSpec : ChangeSpec := { name := "matchPlain", fn := fun _ => fun
  | [d1, d2] => { results := [.lit (.bool true)], args := [d1, d2] }
  | _ => none }
def matchPlainRow : OpenClaim := { program := "ytalmajiflmejcaagreat", sum := "d8344c6ab239b7d6ae5e960fa7b95cc07e0687a3f10446a7c28dee5da9991b02", func := "emendator/emendatorlaw05.MatchPlain", spec := "matchPlain", unfollowed := true, recurses := true, apart := false }
def MatchPlainSaid : Prop := matchPlainRow.holds Tryz.pinned (OpenSpec.ofChange matchPlainSpec)

/-- ITS FALSE NEIGHBOUR: 'it returns false'. Refute it at one input. -/
def matchPlainWrong : ChangeSpec := { name := "matchPlain", fn := fun _ => fun
  | [d1, d2] => { results := [.lit (.bool false)], args := [d1, d2] }
  | _ => none }
def MatchPlainWrongFalsely : Prop := matchPlainRow.holds Tryz.pinned (OpenSpec.ofChange matchPlainWrong)

/-- 'emendatorlaw06.FindSame': WHATEVER THE INPUT: true; the input reads as it did. -/
def findSameSpec : ChangeSpec := { name := "findSame", fn := fun _ => fun
  | [d1, d2, d3] => { results := [.lit (.bool true)], args := [d1, d2, d3] }
  | _ => none }
def findSameRow : OpenClaim := { program := "ytalmajiflmejcaagreat", sum := "d8344c6ab239b7d6ae5e960fa7b95cc07e0687a3f10446a7c28dee5da9991b02", func := "emendator/emendatorlaw06.FindSame", spec := "findSame", inPlace := ["slices.overlaps[int]", "slices.overlaps[string]"], unfollowed := true, recurses := true, apart := false }
def FindSameSaid : Prop := findSameRow.holds Tryz.pinned (OpenSpec.ofChange findSameSpec)

/-- ITS FALSE NEIGHBOUR: 'it returns false'. Refute it at one input. -/
def findSameWrong : ChangeSpec := { name := "findSame", fn := fun _ => fun
  | [d1, d2, d3] => { results := [.lit (.bool false)], args := [d1, d2, d3] }
  | _ => none }
def FindSameWrongFalsely : Prop := findSameRow.holds Tryz.pinned (OpenSpec.ofChange findSameWrong)

/-- 'emendatorlaw06.FindWrong': WHATEVER THE INPUT: true; the input reads as it did. -/
def findWrongSpec : ChangeSpec := { name := "findWrong", fn := fun _ => fun
  | [d1, d2, d3] => { results := [.lit (.bool true)], args := [d1, d2, d3] }
  | _ => none }
def findWrongRow : OpenClaim := { program := "ytalmajiflmejcaagreat", sum := "d8344c6ab239b7d6ae5e960fa7b95cc07e0687a3f10446a7c28dee5da9991b02", func := "emendator/emendatorlaw06.FindWrong", spec := "findWrong", inPlace := ["slices.overlaps[int]", "slices.overlaps[string]"], unfollowed := true, recurses := true, apart := false }
def FindWrongSaid : Prop := findWrongRow.holds Tryz.pinned (OpenSpec.ofChange findWrongSpec)

/-- ITS FALSE NEIGHBOUR: 'it returns false'. Refute it at one input. -/
def findWrongWrong : ChangeSpec := { name := "findWrong", fn := fun _ => fun
  | [d1, d2, d3] => { results := [.lit (.bool false)], args := [d1, d2, d3] }
  | _ => none }
def FindWrongWrongFalsely : Prop := findWrongRow.holds Tryz.pinned (OpenSpec.ofChange findWrongWrong)

/-- 'emendatorlaw06.FindLines': WHATEVER THE INPUT: true; the input reads as it did. -/
def findLinesSpec : ChangeSpec := { name := "findLines", fn := fun _ => fun
  | [d1, d2, d3, d4, d5, d6] => { results := [.lit (.bool true)], args := [d1, d2, d3, d4, d5, d6] }
  | _ => none }
def findLinesRow : OpenClaim := { program := "ytalmajiflmejcaagreat", sum := "d8344c6ab239b7d6ae5e960fa7b95cc07e0687a3f10446a7c28dee5da9991b02", func := "emendator/emendatorlaw06.FindLines", spec := "findLines", inPlace := ["slices.overlaps[int]", "slices.overlaps[string]"], unfollowed := true, recurses := true, apart := false }
def FindLinesSaid : Prop := findLinesRow.holds Tryz.pinned (OpenSpec.ofChange findLinesSpec)

/-- ITS FALSE NEIGHBOUR: 'it returns false'. Refute it at one input. -/
def findLinesWrong : ChangeSpec := { name := "findLines", fn := fun _ => fun
  | [d1, d2, d3, d4, d5, d6] => { results := [.lit (.bool false)], args := [d1, d2, d3, d4, d5, d6] }
  | _ => none }
def FindLinesWrongFalsely : Prop := findLinesRow.holds Tryz.pinned (OpenSpec.ofChange findLinesWrong)

/-- 'emendatorlaw06.FindAll': WHATEVER THE INPUT: true; the input reads as it did. -/
def findAllSpec : ChangeSpec := { name := "findAll", fn := fun _ => fun
  | [d1, d2, d3, d4, d5] => { results := [.lit (.bool true)], args := [d1, d2, d3, d4, d5] }
  | _ => none }
def findAllRow : OpenClaim := { program := "ytalmajiflmejcaagreat", sum := "d8344c6ab239b7d6ae5e960fa7b95cc07e0687a3f10446a7c28dee5da9991b02", func := "emendator/emendatorlaw06.FindAll", spec := "findAll", inPlace := ["slices.overlaps[int]", "slices.overlaps[string]"], unfollowed := true, recurses := true, apart := false }
def FindAllSaid : Prop := findAllRow.holds Tryz.pinned (OpenSpec.ofChange findAllSpec)

/-- ITS FALSE NEIGHBOUR: 'it returns false'. Refute it at one input. -/
def findAllWrong : ChangeSpec := { name := "findAll", fn := fun _ => fun
  | [d1, d2, d3, d4, d5] => { results := [.lit (.bool false)], args := [d1, d2, d3, d4, d5] }
  | _ => none }
def FindAllWrongFalsely : Prop := findAllRow.holds Tryz.pinned (OpenSpec.ofChange findAllWrong)

/-- 'emendatorlaw06.FindRound': WHATEVER THE INPUT: true; the input reads as it did. -/
def findRoundSpec : ChangeSpec := { name := "findRound", fn := fun _ => fun
  | [d1, d2, d3, d4] => { results := [.lit (.bool true)], args := [d1, d2, d3, d4] }
  | _ => none }
def findRoundRow : OpenClaim := { program := "ytalmajiflmejcaagreat", sum := "d8344c6ab239b7d6ae5e960fa7b95cc07e0687a3f10446a7c28dee5da9991b02", func := "emendator/emendatorlaw06.FindRound", spec := "findRound", inPlace := ["slices.overlaps[int]", "slices.overlaps[string]"], unfollowed := true, recurses := true, apart := false }
def FindRoundSaid : Prop := findRoundRow.holds Tryz.pinned (OpenSpec.ofChange findRoundSpec)

/-- ITS FALSE NEIGHBOUR: 'it returns false'. Refute it at one input. -/
def findRoundWrong : ChangeSpec := { name := "findRound", fn := fun _ => fun
  | [d1, d2, d3, d4] => { results := [.lit (.bool false)], args := [d1, d2, d3, d4] }
  | _ => none }
def FindRoundWrongFalsely : Prop := findRoundRow.holds Tryz.pinned (OpenSpec.ofChange findRoundWrong)

/-- 'emendatorlaw09.SubstCounts': WHATEVER THE INPUT: true; the input reads as it did. -/
def substCountsSpec : ChangeSpec := { name := "substCounts", fn := fun _ => fun
  | [d1, d2] => { results := [.lit (.bool true)], args := [d1, d2] }
  | _ => none }
def substCountsRow : OpenClaim := { program := "ytalmajiflmejcaagreat", sum := "d8344c6ab239b7d6ae5e960fa7b95cc07e0687a3f10446a7c28dee5da9991b02", func := "emendator/emendatorlaw09.SubstCounts", spec := "substCounts", unfollowed := true, recurses := true, apart := false }
def SubstCountsSaid : Prop := substCountsRow.holds Tryz.pinned (OpenSpec.ofChange substCountsSpec)

/-- ITS FALSE NEIGHBOUR: 'it returns false'. Refute it at one input. -/
def substCountsWrong : ChangeSpec := { name := "substCounts", fn := fun _ => fun
  | [d1, d2] => { results := [.lit (.bool false)], args := [d1, d2] }
  | _ => none }
def SubstCountsWrongFalsely : Prop := substCountsRow.holds Tryz.pinned (OpenSpec.ofChange substCountsWrong)

/-- 'emendatorlaw09.SubstEnds': WHATEVER THE INPUT: true; the input reads as it did. -/
def substEndsSpec : ChangeSpec := { name := "substEnds", fn := fun _ => fun
  | [d1, d2, d3] => { results := [.lit (.bool true)], args := [d1, d2, d3] }
  | _ => none }
def substEndsRow : OpenClaim := { program := "ytalmajiflmejcaagreat", sum := "d8344c6ab239b7d6ae5e960fa7b95cc07e0687a3f10446a7c28dee5da9991b02", func := "emendator/emendatorlaw09.SubstEnds", spec := "substEnds", unfollowed := true, recurses := true, apart := false }
def SubstEndsSaid : Prop := substEndsRow.holds Tryz.pinned (OpenSpec.ofChange substEndsSpec)

/-- ITS FALSE NEIGHBOUR: 'it returns false'. Refute it at one input. -/
def substEndsWrong : ChangeSpec := { name := "substEnds", fn := fun _ => fun
  | [d1, d2, d3] => { results := [.lit (.bool false)], args := [d1, d2, d3] }
  | _ => none }
def SubstEndsWrongFalsely : Prop := substEndsRow.holds Tryz.pinned (OpenSpec.ofChange substEndsWrong)

/-- 'emendatorlaw09.SubstLong': WHATEVER THE INPUT: true; the input reads as it did. -/
def substLongSpec : ChangeSpec := { name := "substLong", fn := fun _ => fun
  | [d1, d2] => { results := [.lit (.bool true)], args := [d1, d2] }
  | _ => none }
def substLongRow : OpenClaim := { program := "ytalmajiflmejcaagreat", sum := "d8344c6ab239b7d6ae5e960fa7b95cc07e0687a3f10446a7c28dee5da9991b02", func := "emendator/emendatorlaw09.SubstLong", spec := "substLong", unfollowed := true, recurses := true, apart := false }
def SubstLongSaid : Prop := substLongRow.holds Tryz.pinned (OpenSpec.ofChange substLongSpec)

/-- ITS FALSE NEIGHBOUR: 'it returns false'. Refute it at one input. -/
def substLongWrong : ChangeSpec := { name := "substLong", fn := fun _ => fun
  | [d1, d2] => { results := [.lit (.bool false)], args := [d1, d2] }
  | _ => none }
def SubstLongWrongFalsely : Prop := substLongRow.holds Tryz.pinned (OpenSpec.ofChange substLongWrong)

/-- 'emendatorlaw09.SubstLines': WHATEVER THE INPUT: true; the input reads as it did. -/
def substLinesSpec : ChangeSpec := { name := "substLines", fn := fun _ => fun
  | [d1, d2, d3, d4, d5, d6, d7] => { results := [.lit (.bool true)], args := [d1, d2, d3, d4, d5, d6, d7] }
  | _ => none }
def substLinesRow : OpenClaim := { program := "ytalmajiflmejcaagreat", sum := "d8344c6ab239b7d6ae5e960fa7b95cc07e0687a3f10446a7c28dee5da9991b02", func := "emendator/emendatorlaw09.SubstLines", spec := "substLines", unfollowed := true, recurses := true, apart := false }
def SubstLinesSaid : Prop := substLinesRow.holds Tryz.pinned (OpenSpec.ofChange substLinesSpec)

/-- ITS FALSE NEIGHBOUR: 'it returns false'. Refute it at one input. -/
def substLinesWrong : ChangeSpec := { name := "substLines", fn := fun _ => fun
  | [d1, d2, d3, d4, d5, d6, d7] => { results := [.lit (.bool false)], args := [d1, d2, d3, d4, d5, d6, d7] }
  | _ => none }
def SubstLinesWrongFalsely : Prop := substLinesRow.holds Tryz.pinned (OpenSpec.ofChange substLinesWrong)

/-- 'emendatorlaw09.SubstSame': WHATEVER THE INPUT: true; the input reads as it did. -/
def substSameSpec : ChangeSpec := { name := "substSame", fn := fun _ => fun
  | [d1, d2, d3, d4, d5] => { results := [.lit (.bool true)], args := [d1, d2, d3, d4, d5] }
  | _ => none }
def substSameRow : OpenClaim := { program := "ytalmajiflmejcaagreat", sum := "d8344c6ab239b7d6ae5e960fa7b95cc07e0687a3f10446a7c28dee5da9991b02", func := "emendator/emendatorlaw09.SubstSame", spec := "substSame", unfollowed := true, recurses := true, apart := false }
def SubstSameSaid : Prop := substSameRow.holds Tryz.pinned (OpenSpec.ofChange substSameSpec)

/-- ITS FALSE NEIGHBOUR: 'it returns false'. Refute it at one input. -/
def substSameWrong : ChangeSpec := { name := "substSame", fn := fun _ => fun
  | [d1, d2, d3, d4, d5] => { results := [.lit (.bool false)], args := [d1, d2, d3, d4, d5] }
  | _ => none }
def SubstSameWrongFalsely : Prop := substSameRow.holds Tryz.pinned (OpenSpec.ofChange substSameWrong)

/-- 'emendatorlaw09.SubstAll': WHATEVER THE INPUT: true; the input reads as it did. -/
def substAllSpec : ChangeSpec := { name := "substAll", fn := fun _ => fun
  | [d1, d2, d3, d4, d5] => { results := [.lit (.bool true)], args := [d1, d2, d3, d4, d5] }
  | _ => none }
def substAllRow : OpenClaim := { program := "ytalmajiflmejcaagreat", sum := "d8344c6ab239b7d6ae5e960fa7b95cc07e0687a3f10446a7c28dee5da9991b02", func := "emendator/emendatorlaw09.SubstAll", spec := "substAll", unfollowed := true, recurses := true, apart := false }
def SubstAllSaid : Prop := substAllRow.holds Tryz.pinned (OpenSpec.ofChange substAllSpec)

/-- ITS FALSE NEIGHBOUR: 'it returns false'. Refute it at one input. -/
def substAllWrong : ChangeSpec := { name := "substAll", fn := fun _ => fun
  | [d1, d2, d3, d4, d5] => { results := [.lit (.bool false)], args := [d1, d2, d3, d4, d5] }
  | _ => none }
def SubstAllWrongFalsely : Prop := substAllRow.holds Tryz.pinned (OpenSpec.ofChange substAllWrong)

/-- 'emendatorlaw09.SubstFirst': WHATEVER THE INPUT: true; the input reads as it did. -/
def substFirstSpec : ChangeSpec := { name := "substFirst", fn := fun _ => fun
  | [d1, d2, d3, d4] => { results := [.lit (.bool true)], args := [d1, d2, d3, d4] }
  | _ => none }
def substFirstRow : OpenClaim := { program := "ytalmajiflmejcaagreat", sum := "d8344c6ab239b7d6ae5e960fa7b95cc07e0687a3f10446a7c28dee5da9991b02", func := "emendator/emendatorlaw09.SubstFirst", spec := "substFirst", unfollowed := true, recurses := true, apart := false }
def SubstFirstSaid : Prop := substFirstRow.holds Tryz.pinned (OpenSpec.ofChange substFirstSpec)

/-- ITS FALSE NEIGHBOUR: 'it returns false'. Refute it at one input. -/
def substFirstWrong : ChangeSpec := { name := "substFirst", fn := fun _ => fun
  | [d1, d2, d3, d4] => { results := [.lit (.bool false)], args := [d1, d2, d3, d4] }
  | _ => none }
def SubstFirstWrongFalsely : Prop := substFirstRow.holds Tryz.pinned (OpenSpec.ofChange substFirstWrong)

/- THE SECOND FORM. 'bulk': how many values and letters a reading holds, each counted each time it is reached (what is shared counts as often as it is met; a slice's spare places count too). A statement '..UptoSaid' is the law's where the arguments, and the package variables that the reading takes, are together of bulk at most 1048576: NARROWER than '..Said'. Prove '..Said' where nothing that the law and all that it calls make is longer than what came in: it says more and counts as full. Else prove '..UptoSaid'. A law counts once. -/
mutual
def uptoBulk {H : Type} : DataW H → Nat
  | .lit (.string bytes) => bytes.length + 1
  | .lit _ => 1
  | .nil => 1
  | .ptr d => uptoBulk d + 1
  | .slice elems spare => uptoBulkAll elems + uptoBulkAll spare + 1
  | .agg parts => uptoBulkAll parts + 1
  | .iface _ d => uptoBulk d + 1
  | .map entries => uptoBulkEntries entries + 1
  | .held _ => 1
def uptoBulkAll {H : Type} : List (DataW H) → Nat
  | [] => 0
  | d :: r => uptoBulk d + uptoBulkAll r
def uptoBulkEntries {H : Type} : List (Lit × DataW H) → Nat
  | [] => 0
  | x :: r => uptoBulkEntry x + uptoBulkEntries r
def uptoBulkEntry {H : Type} : Lit × DataW H → Nat
  | (.string bytes, d) => bytes.length + uptoBulk d + 1
  | (_, d) => uptoBulk d + 1
 end
def uptoSmall : (H : Type) → List (DataW H) → Bool := fun _ ds => decide (uptoBulkAll ds ≤ 1048576)
def OpenSpec.upto (s : _root_.Go.ChangeSpec) : _root_.Go.OpenSpec := { _root_.Go.OpenSpec.ofChange s with cond := some uptoSmall }

/-- 'emendatorlaw05.MatchFolds', WHERE WHAT IT READS IS OF BULK AT MOST 1048576: true; the input reads as it did. -/
def matchFoldsUptoRow : OpenClaim := { program := "ytalmajiflmejcaagreat", sum := "d8344c6ab239b7d6ae5e960fa7b95cc07e0687a3f10446a7c28dee5da9991b02", func := "emendator/emendatorlaw05.MatchFolds", spec := "matchFolds", unfollowed := true, recurses := true, apart := false, narrowed := true }
def MatchFoldsUptoSaid : Prop := matchFoldsUptoRow.holds Tryz.pinned (OpenSpec.upto matchFoldsSpec)

/-- 'emendatorlaw05.MatchTries', WHERE WHAT IT READS IS OF BULK AT MOST 1048576: true; the input reads as it did. -/
def matchTriesUptoRow : OpenClaim := { program := "ytalmajiflmejcaagreat", sum := "d8344c6ab239b7d6ae5e960fa7b95cc07e0687a3f10446a7c28dee5da9991b02", func := "emendator/emendatorlaw05.MatchTries", spec := "matchTries", unfollowed := true, recurses := true, apart := false, narrowed := true }
def MatchTriesUptoSaid : Prop := matchTriesUptoRow.holds Tryz.pinned (OpenSpec.upto matchTriesSpec)

/-- 'emendatorlaw05.MatchAny', WHERE WHAT IT READS IS OF BULK AT MOST 1048576: true; the input reads as it did. -/
def matchAnyUptoRow : OpenClaim := { program := "ytalmajiflmejcaagreat", sum := "d8344c6ab239b7d6ae5e960fa7b95cc07e0687a3f10446a7c28dee5da9991b02", func := "emendator/emendatorlaw05.MatchAny", spec := "matchAny", unfollowed := true, recurses := true, apart := false, narrowed := true }
def MatchAnyUptoSaid : Prop := matchAnyUptoRow.holds Tryz.pinned (OpenSpec.upto matchAnySpec)

/-- 'emendatorlaw05.MatchPlain', WHERE WHAT IT READS IS OF BULK AT MOST 1048576: true; the input reads as it did. -/
def matchPlainUptoRow : OpenClaim := { program := "ytalmajiflmejcaagreat", sum := "d8344c6ab239b7d6ae5e960fa7b95cc07e0687a3f10446a7c28dee5da9991b02", func := "emendator/emendatorlaw05.MatchPlain", spec := "matchPlain", unfollowed := true, recurses := true, apart := false, narrowed := true }
def MatchPlainUptoSaid : Prop := matchPlainUptoRow.holds Tryz.pinned (OpenSpec.upto matchPlainSpec)

/-- 'emendatorlaw06.FindSame', WHERE WHAT IT READS IS OF BULK AT MOST 1048576: true; the input reads as it did. -/
def findSameUptoRow : OpenClaim := { program := "ytalmajiflmejcaagreat", sum := "d8344c6ab239b7d6ae5e960fa7b95cc07e0687a3f10446a7c28dee5da9991b02", func := "emendator/emendatorlaw06.FindSame", spec := "findSame", inPlace := ["slices.overlaps[int]", "slices.overlaps[string]"], unfollowed := true, recurses := true, apart := false, narrowed := true }
def FindSameUptoSaid : Prop := findSameUptoRow.holds Tryz.pinned (OpenSpec.upto findSameSpec)

/-- 'emendatorlaw06.FindWrong', WHERE WHAT IT READS IS OF BULK AT MOST 1048576: true; the input reads as it did. -/
def findWrongUptoRow : OpenClaim := { program := "ytalmajiflmejcaagreat", sum := "d8344c6ab239b7d6ae5e960fa7b95cc07e0687a3f10446a7c28dee5da9991b02", func := "emendator/emendatorlaw06.FindWrong", spec := "findWrong", inPlace := ["slices.overlaps[int]", "slices.overlaps[string]"], unfollowed := true, recurses := true, apart := false, narrowed := true }
def FindWrongUptoSaid : Prop := findWrongUptoRow.holds Tryz.pinned (OpenSpec.upto findWrongSpec)

/-- 'emendatorlaw06.FindLines', WHERE WHAT IT READS IS OF BULK AT MOST 1048576: true; the input reads as it did. -/
def findLinesUptoRow : OpenClaim := { program := "ytalmajiflmejcaagreat", sum := "d8344c6ab239b7d6ae5e960fa7b95cc07e0687a3f10446a7c28dee5da9991b02", func := "emendator/emendatorlaw06.FindLines", spec := "findLines", inPlace := ["slices.overlaps[int]", "slices.overlaps[string]"], unfollowed := true, recurses := true, apart := false, narrowed := true }
def FindLinesUptoSaid : Prop := findLinesUptoRow.holds Tryz.pinned (OpenSpec.upto findLinesSpec)

/-- 'emendatorlaw06.FindAll', WHERE WHAT IT READS IS OF BULK AT MOST 1048576: true; the input reads as it did. -/
def findAllUptoRow : OpenClaim := { program := "ytalmajiflmejcaagreat", sum := "d8344c6ab239b7d6ae5e960fa7b95cc07e0687a3f10446a7c28dee5da9991b02", func := "emendator/emendatorlaw06.FindAll", spec := "findAll", inPlace := ["slices.overlaps[int]", "slices.overlaps[string]"], unfollowed := true, recurses := true, apart := false, narrowed := true }
def FindAllUptoSaid : Prop := findAllUptoRow.holds Tryz.pinned (OpenSpec.upto findAllSpec)

/-- 'emendatorlaw06.FindRound', WHERE WHAT IT READS IS OF BULK AT MOST 1048576: true; the input reads as it did. -/
def findRoundUptoRow : OpenClaim := { program := "ytalmajiflmejcaagreat", sum := "d8344c6ab239b7d6ae5e960fa7b95cc07e0687a3f10446a7c28dee5da9991b02", func := "emendator/emendatorlaw06.FindRound", spec := "findRound", inPlace := ["slices.overlaps[int]", "slices.overlaps[string]"], unfollowed := true, recurses := true, apart := false, narrowed := true }
def FindRoundUptoSaid : Prop := findRoundUptoRow.holds Tryz.pinned (OpenSpec.upto findRoundSpec)

/-- 'emendatorlaw09.SubstCounts', WHERE WHAT IT READS IS OF BULK AT MOST 1048576: true; the input reads as it did. -/
def substCountsUptoRow : OpenClaim := { program := "ytalmajiflmejcaagreat", sum := "d8344c6ab239b7d6ae5e960fa7b95cc07e0687a3f10446a7c28dee5da9991b02", func := "emendator/emendatorlaw09.SubstCounts", spec := "substCounts", unfollowed := true, recurses := true, apart := false, narrowed := true }
def SubstCountsUptoSaid : Prop := substCountsUptoRow.holds Tryz.pinned (OpenSpec.upto substCountsSpec)

/-- 'emendatorlaw09.SubstEnds', WHERE WHAT IT READS IS OF BULK AT MOST 1048576: true; the input reads as it did. -/
def substEndsUptoRow : OpenClaim := { program := "ytalmajiflmejcaagreat", sum := "d8344c6ab239b7d6ae5e960fa7b95cc07e0687a3f10446a7c28dee5da9991b02", func := "emendator/emendatorlaw09.SubstEnds", spec := "substEnds", unfollowed := true, recurses := true, apart := false, narrowed := true }
def SubstEndsUptoSaid : Prop := substEndsUptoRow.holds Tryz.pinned (OpenSpec.upto substEndsSpec)

/-- 'emendatorlaw09.SubstLong', WHERE WHAT IT READS IS OF BULK AT MOST 1048576: true; the input reads as it did. -/
def substLongUptoRow : OpenClaim := { program := "ytalmajiflmejcaagreat", sum := "d8344c6ab239b7d6ae5e960fa7b95cc07e0687a3f10446a7c28dee5da9991b02", func := "emendator/emendatorlaw09.SubstLong", spec := "substLong", unfollowed := true, recurses := true, apart := false, narrowed := true }
def SubstLongUptoSaid : Prop := substLongUptoRow.holds Tryz.pinned (OpenSpec.upto substLongSpec)

/-- 'emendatorlaw09.SubstLines', WHERE WHAT IT READS IS OF BULK AT MOST 1048576: true; the input reads as it did. -/
def substLinesUptoRow : OpenClaim := { program := "ytalmajiflmejcaagreat", sum := "d8344c6ab239b7d6ae5e960fa7b95cc07e0687a3f10446a7c28dee5da9991b02", func := "emendator/emendatorlaw09.SubstLines", spec := "substLines", unfollowed := true, recurses := true, apart := false, narrowed := true }
def SubstLinesUptoSaid : Prop := substLinesUptoRow.holds Tryz.pinned (OpenSpec.upto substLinesSpec)

/-- 'emendatorlaw09.SubstSame', WHERE WHAT IT READS IS OF BULK AT MOST 1048576: true; the input reads as it did. -/
def substSameUptoRow : OpenClaim := { program := "ytalmajiflmejcaagreat", sum := "d8344c6ab239b7d6ae5e960fa7b95cc07e0687a3f10446a7c28dee5da9991b02", func := "emendator/emendatorlaw09.SubstSame", spec := "substSame", unfollowed := true, recurses := true, apart := false, narrowed := true }
def SubstSameUptoSaid : Prop := substSameUptoRow.holds Tryz.pinned (OpenSpec.upto substSameSpec)

/-- 'emendatorlaw09.SubstAll', WHERE WHAT IT READS IS OF BULK AT MOST 1048576: true; the input reads as it did. -/
def substAllUptoRow : OpenClaim := { program := "ytalmajiflmejcaagreat", sum := "d8344c6ab239b7d6ae5e960fa7b95cc07e0687a3f10446a7c28dee5da9991b02", func := "emendator/emendatorlaw09.SubstAll", spec := "substAll", unfollowed := true, recurses := true, apart := false, narrowed := true }
def SubstAllUptoSaid : Prop := substAllUptoRow.holds Tryz.pinned (OpenSpec.upto substAllSpec)

/-- 'emendatorlaw09.SubstFirst', WHERE WHAT IT READS IS OF BULK AT MOST 1048576: true; the input reads as it did. -/
def substFirstUptoRow : OpenClaim := { program := "ytalmajiflmejcaagreat", sum := "d8344c6ab239b7d6ae5e960fa7b95cc07e0687a3f10446a7c28dee5da9991b02", func := "emendator/emendatorlaw09.SubstFirst", spec := "substFirst", unfollowed := true, recurses := true, apart := false, narrowed := true }
def SubstFirstUptoSaid : Prop := substFirstUptoRow.holds Tryz.pinned (OpenSpec.upto substFirstSpec)

end Rows
end Go.Proofs.YtalmajiflmejcaaGreat
