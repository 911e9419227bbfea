/-
  No cell of these rows narrows 'for every input' (looked for: loops, veiled, ifaces, maps, wideKeys, modest, calm, conditions, laid).
  DERIVED. THE GIVEN ROWS OF THIS SEAT. 5 by the template 'for every input the law returns true; each argument reads behind the call as it read before'; 0 by the template 'total and deterministic' (their statements: YtbeaoonddlfcgaaTotals.lean).
  GIVEN WITH THE SEED: the statements are not yours to turn. If you find one false, say at which input.
  Laid BY PROGRAM, IN A SANDBOX (cutbox-rows.mjs): the forced cells as the released guide's own fill.sh prints them over the translation 650a2193a689f769… (all of the seat's roots in one cut). By AI agents, Wed Nov 11 2026. No macro, syntax, notation, axiom, sorry.
-/
import Derived.Test.YtbeaoonddlfcgaaChecked
import GoSem.Claim
import GoSem.ClaimJoined
import GoSem.ClaimMapViews
import Derived.JoinedTies
import Derived.KernelRfl
namespace Go.Proofs.Ytbeaoonddlfcgaa
/- THE CELL 'sum', in the pinned program and in every row, IS THE sha256 OF THE DUMP (.gsa) THAT YtbeaoonddlfcgaaProg.lean LOADS. Nothing in Lean hashes anything: it is a label: what it is worth is what the hold of that sum in a sandbox is worth. -/
noncomputable def Try.pinned : Pinned := { name := "ytbeaoonddlfcgaa", sum := "650a2193a689f769685345f449797b4b8e877d79c12430e82ce1b3c25e1bfdfc", checked := Try.checked }
namespace Rows
def none {H : Type} : Left H := { results := [], args := [] }

/-- 'emendatorlaw07.TmplParts': WHATEVER THE INPUT: true; the input reads as it did. -/
def tmplPartsSpec : ChangeSpec := { name := "tmplParts", fn := fun _ => fun
  | [d1, d2, d3] => { results := [.lit (.bool true)], args := [d1, d2, d3] }
  | _ => none }
def tmplPartsRow : OpenClaim := { program := "ytbeaoonddlfcgaa", sum := "650a2193a689f769685345f449797b4b8e877d79c12430e82ce1b3c25e1bfdfc", func := "emendator/emendatorlaw07.TmplParts", spec := "tmplParts", unfollowed := true, recurses := true, apart := false }
def TmplPartsSaid : Prop := tmplPartsRow.holds Try.pinned (OpenSpec.ofChange tmplPartsSpec)

/-- ITS FALSE NEIGHBOUR: 'it returns false'. Refute it at one input. -/
def tmplPartsWrong : ChangeSpec := { name := "tmplParts", fn := fun _ => fun
  | [d1, d2, d3] => { results := [.lit (.bool false)], args := [d1, d2, d3] }
  | _ => none }
def TmplPartsWrongFalsely : Prop := tmplPartsRow.holds Try.pinned (OpenSpec.ofChange tmplPartsWrong)

/-- 'emendatorlaw07.TmplParses': WHATEVER THE INPUT: true; the input reads as it did. -/
def tmplParsesSpec : ChangeSpec := { name := "tmplParses", fn := fun _ => fun
  | [d1, d2] => { results := [.lit (.bool true)], args := [d1, d2] }
  | _ => none }
def tmplParsesRow : OpenClaim := { program := "ytbeaoonddlfcgaa", sum := "650a2193a689f769685345f449797b4b8e877d79c12430e82ce1b3c25e1bfdfc", func := "emendator/emendatorlaw07.TmplParses", spec := "tmplParses", unfollowed := true, recurses := true, apart := false }
def TmplParsesSaid : Prop := tmplParsesRow.holds Try.pinned (OpenSpec.ofChange tmplParsesSpec)

/-- ITS FALSE NEIGHBOUR: 'it returns false'. Refute it at one input. -/
def tmplParsesWrong : ChangeSpec := { name := "tmplParses", fn := fun _ => fun
  | [d1, d2] => { results := [.lit (.bool false)], args := [d1, d2] }
  | _ => none }
def TmplParsesWrongFalsely : Prop := tmplParsesRow.holds Try.pinned (OpenSpec.ofChange tmplParsesWrong)

/-- 'emendatorlaw07.TmplPieces': WHATEVER THE INPUT: true; the input reads as it did. -/
def tmplPiecesSpec : ChangeSpec := { name := "tmplPieces", fn := fun _ => fun
  | [d] => { results := [.lit (.bool true)], args := [d] }
  | _ => none }
def tmplPiecesRow : OpenClaim := { program := "ytbeaoonddlfcgaa", sum := "650a2193a689f769685345f449797b4b8e877d79c12430e82ce1b3c25e1bfdfc", func := "emendator/emendatorlaw07.TmplPieces", spec := "tmplPieces", unfollowed := true, recurses := true, apart := false }
def TmplPiecesSaid : Prop := tmplPiecesRow.holds Try.pinned (OpenSpec.ofChange tmplPiecesSpec)

/-- ITS FALSE NEIGHBOUR: 'it returns false'. Refute it at one input. -/
def tmplPiecesWrong : ChangeSpec := { name := "tmplPieces", fn := fun _ => fun
  | [d] => { results := [.lit (.bool false)], args := [d] }
  | _ => none }
def TmplPiecesWrongFalsely : Prop := tmplPiecesRow.holds Try.pinned (OpenSpec.ofChange tmplPiecesWrong)

/-- 'emendatorlaw07.TmplPlain': WHATEVER THE INPUT: true; the input reads as it did. -/
def tmplPlainSpec : ChangeSpec := { name := "tmplPlain", fn := fun _ => fun
  | [d] => { results := [.lit (.bool true)], args := [d] }
  | _ => none }
def tmplPlainRow : OpenClaim := { program := "ytbeaoonddlfcgaa", sum := "650a2193a689f769685345f449797b4b8e877d79c12430e82ce1b3c25e1bfdfc", func := "emendator/emendatorlaw07.TmplPlain", spec := "tmplPlain", unfollowed := true, recurses := true, apart := false }
def TmplPlainSaid : Prop := tmplPlainRow.holds Try.pinned (OpenSpec.ofChange tmplPlainSpec)

/-- ITS FALSE NEIGHBOUR: 'it returns false'. Refute it at one input. -/
def tmplPlainWrong : ChangeSpec := { name := "tmplPlain", fn := fun _ => fun
  | [d] => { results := [.lit (.bool false)], args := [d] }
  | _ => none }
def TmplPlainWrongFalsely : Prop := tmplPlainRow.holds Try.pinned (OpenSpec.ofChange tmplPlainWrong)

/-- 'emendatorlaw07.TmplResolves': WHATEVER THE INPUT: true; the input reads as it did. -/
def tmplResolvesSpec : ChangeSpec := { name := "tmplResolves", fn := fun _ => fun
  | [d1, d2] => { results := [.lit (.bool true)], args := [d1, d2] }
  | _ => none }
def tmplResolvesRow : OpenClaim := { program := "ytbeaoonddlfcgaa", sum := "650a2193a689f769685345f449797b4b8e877d79c12430e82ce1b3c25e1bfdfc", func := "emendator/emendatorlaw07.TmplResolves", spec := "tmplResolves", unfollowed := true, recurses := true, apart := false }
def TmplResolvesSaid : Prop := tmplResolvesRow.holds Try.pinned (OpenSpec.ofChange tmplResolvesSpec)

/-- ITS FALSE NEIGHBOUR: 'it returns false'. Refute it at one input. -/
def tmplResolvesWrong : ChangeSpec := { name := "tmplResolves", fn := fun _ => fun
  | [d1, d2] => { results := [.lit (.bool false)], args := [d1, d2] }
  | _ => none }
def TmplResolvesWrongFalsely : Prop := tmplResolvesRow.holds Try.pinned (OpenSpec.ofChange tmplResolvesWrong)

/- THE SECOND FORM. 'bulk': how many values and letters a reading holds, each counted each time it is reached (what is shared counts as often as it is met; a slice's spare places count too). A statement '..UptoSaid' is the law's where the arguments, and the package variables that the reading takes, are together of bulk at most 1048576: NARROWER than '..Said'. Prove '..Said' where nothing that the law and all that it calls make is longer than what came in: it says more and counts as full. Else prove '..UptoSaid'. A law counts once. -/
mutual
def uptoBulk {H : Type} : DataW H → Nat
  | .lit (.string bytes) => bytes.length + 1
  | .lit _ => 1
  | .nil => 1
  | .ptr d => uptoBulk d + 1
  | .slice elems spare => uptoBulkAll elems + uptoBulkAll spare + 1
  | .agg parts => uptoBulkAll parts + 1
  | .iface _ d => uptoBulk d + 1
  | .map entries => uptoBulkEntries entries + 1
  | .held _ => 1
def uptoBulkAll {H : Type} : List (DataW H) → Nat
  | [] => 0
  | d :: r => uptoBulk d + uptoBulkAll r
def uptoBulkEntries {H : Type} : List (Lit × DataW H) → Nat
  | [] => 0
  | x :: r => uptoBulkEntry x + uptoBulkEntries r
def uptoBulkEntry {H : Type} : Lit × DataW H → Nat
  | (.string bytes, d) => bytes.length + uptoBulk d + 1
  | (_, d) => uptoBulk d + 1
 end
def uptoSmall : (H : Type) → List (DataW H) → Bool := fun _ ds => decide (uptoBulkAll ds ≤ 1048576)
def OpenSpec.upto (s : _root_.Go.ChangeSpec) : _root_.Go.OpenSpec := { _root_.Go.OpenSpec.ofChange s with cond := some uptoSmall }

/-- 'emendatorlaw07.TmplParts', WHERE WHAT IT READS IS OF BULK AT MOST 1048576: true; the input reads as it did. -/
def tmplPartsUptoRow : OpenClaim := { program := "ytbeaoonddlfcgaa", sum := "650a2193a689f769685345f449797b4b8e877d79c12430e82ce1b3c25e1bfdfc", func := "emendator/emendatorlaw07.TmplParts", spec := "tmplParts", unfollowed := true, recurses := true, apart := false, narrowed := true }
def TmplPartsUptoSaid : Prop := tmplPartsUptoRow.holds Try.pinned (OpenSpec.upto tmplPartsSpec)

/-- 'emendatorlaw07.TmplParses', WHERE WHAT IT READS IS OF BULK AT MOST 1048576: true; the input reads as it did. -/
def tmplParsesUptoRow : OpenClaim := { program := "ytbeaoonddlfcgaa", sum := "650a2193a689f769685345f449797b4b8e877d79c12430e82ce1b3c25e1bfdfc", func := "emendator/emendatorlaw07.TmplParses", spec := "tmplParses", unfollowed := true, recurses := true, apart := false, narrowed := true }
def TmplParsesUptoSaid : Prop := tmplParsesUptoRow.holds Try.pinned (OpenSpec.upto tmplParsesSpec)

/-- 'emendatorlaw07.TmplPieces', WHERE WHAT IT READS IS OF BULK AT MOST 1048576: true; the input reads as it did. -/
def tmplPiecesUptoRow : OpenClaim := { program := "ytbeaoonddlfcgaa", sum := "650a2193a689f769685345f449797b4b8e877d79c12430e82ce1b3c25e1bfdfc", func := "emendator/emendatorlaw07.TmplPieces", spec := "tmplPieces", unfollowed := true, recurses := true, apart := false, narrowed := true }
def TmplPiecesUptoSaid : Prop := tmplPiecesUptoRow.holds Try.pinned (OpenSpec.upto tmplPiecesSpec)

/-- 'emendatorlaw07.TmplPlain', WHERE WHAT IT READS IS OF BULK AT MOST 1048576: true; the input reads as it did. -/
def tmplPlainUptoRow : OpenClaim := { program := "ytbeaoonddlfcgaa", sum := "650a2193a689f769685345f449797b4b8e877d79c12430e82ce1b3c25e1bfdfc", func := "emendator/emendatorlaw07.TmplPlain", spec := "tmplPlain", unfollowed := true, recurses := true, apart := false, narrowed := true }
def TmplPlainUptoSaid : Prop := tmplPlainUptoRow.holds Try.pinned (OpenSpec.upto tmplPlainSpec)

/-- 'emendatorlaw07.TmplResolves', WHERE WHAT IT READS IS OF BULK AT MOST 1048576: true; the input reads as it did. -/
def tmplResolvesUptoRow : OpenClaim := { program := "ytbeaoonddlfcgaa", sum := "650a2193a689f769685345f449797b4b8e877d79c12430e82ce1b3c25e1bfdfc", func := "emendator/emendatorlaw07.TmplResolves", spec := "tmplResolves", unfollowed := true, recurses := true, apart := false, narrowed := true }
def TmplResolvesUptoSaid : Prop := tmplResolvesUptoRow.holds Try.pinned (OpenSpec.upto tmplResolvesSpec)

end Rows
end Go.Proofs.Ytbeaoonddlfcgaa
