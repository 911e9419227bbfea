/-
  No cell of these rows narrows 'for every input' (looked for: loops, veiled, ifaces, maps, wideKeys, modest, calm, conditions, laid).
  DERIVED. THE GIVEN ROWS OF THIS SEAT. 6 by the template 'for every input the law returns true; each argument reads behind the call as it read before'; 0 by the template 'total and deterministic' (their statements: YtfbcmabpaecbjaaTotals.lean).
  GIVEN WITH THE SEED: the statements are not yours to turn. If you find one false, say at which input.
  Laid BY PROGRAM, IN A SANDBOX (cutbox-rows.mjs): the forced cells as the released guide's own fill.sh prints them over the translation 0ecc86ea0e2b6505… (all of the seat's roots in one cut). By AI agents, Wed Nov 11 2026. No macro, syntax, notation, axiom, sorry.
-/
import Derived.Test.YtfbcmabpaecbjaaChecked
import GoSem.Claim
import GoSem.ClaimJoined
import GoSem.ClaimMapViews
import Derived.JoinedTies
import Derived.KernelRfl
namespace Go.Proofs.Ytfbcmabpaecbjaa
/- THE CELL 'sum', in the pinned program and in every row, IS THE sha256 OF THE DUMP (.gsa) THAT YtfbcmabpaecbjaaProg.lean LOADS. Nothing in Lean hashes anything: it is a label: what it is worth is what the hold of that sum in a sandbox is worth. -/
noncomputable def Try.pinned : Pinned := { name := "ytfbcmabpaecbjaa", sum := "0ecc86ea0e2b65056fbd0f0a59d1c57c67779868d25e145d4903302dace1388c", checked := Try.checked }
namespace Rows
def none {H : Type} : Left H := { results := [], args := [] }

/-- 'emendatorlaw01.KindNamed': WHATEVER THE INPUT: true; the input reads as it did. -/
def kindNamedSpec : ChangeSpec := { name := "kindNamed", fn := fun _ => fun
  | [d] => { results := [.lit (.bool true)], args := [d] }
  | _ => none }
def kindNamedRow : OpenClaim := { program := "ytfbcmabpaecbjaa", sum := "0ecc86ea0e2b65056fbd0f0a59d1c57c67779868d25e145d4903302dace1388c", func := "emendator/emendatorlaw01.KindNamed", spec := "kindNamed", unfollowed := true, recurses := true, apart := false }
def KindNamedSaid : Prop := kindNamedRow.holds Try.pinned (OpenSpec.ofChange kindNamedSpec)

/-- ITS FALSE NEIGHBOUR: 'it returns false'. Refute it at one input. -/
def kindNamedWrong : ChangeSpec := { name := "kindNamed", fn := fun _ => fun
  | [d] => { results := [.lit (.bool false)], args := [d] }
  | _ => none }
def KindNamedWrongFalsely : Prop := kindNamedRow.holds Try.pinned (OpenSpec.ofChange kindNamedWrong)

/-- 'emendatorlaw01.KindCount': WHATEVER THE INPUT: true; the input reads as it did. -/
def kindCountSpec : ChangeSpec := { name := "kindCount", fn := fun _ => fun
  | [d] => { results := [.lit (.bool true)], args := [d] }
  | _ => none }
def kindCountRow : OpenClaim := { program := "ytfbcmabpaecbjaa", sum := "0ecc86ea0e2b65056fbd0f0a59d1c57c67779868d25e145d4903302dace1388c", func := "emendator/emendatorlaw01.KindCount", spec := "kindCount", unfollowed := true, recurses := true, apart := false }
def KindCountSaid : Prop := kindCountRow.holds Try.pinned (OpenSpec.ofChange kindCountSpec)

/-- ITS FALSE NEIGHBOUR: 'it returns false'. Refute it at one input. -/
def kindCountWrong : ChangeSpec := { name := "kindCount", fn := fun _ => fun
  | [d] => { results := [.lit (.bool false)], args := [d] }
  | _ => none }
def KindCountWrongFalsely : Prop := kindCountRow.holds Try.pinned (OpenSpec.ofChange kindCountWrong)

/-- 'emendatorlaw01.KindWords': WHATEVER THE INPUT: true; the input reads as it did. -/
def kindWordsSpec : ChangeSpec := { name := "kindWords", fn := fun _ => fun
  | [d] => { results := [.lit (.bool true)], args := [d] }
  | _ => none }
def kindWordsRow : OpenClaim := { program := "ytfbcmabpaecbjaa", sum := "0ecc86ea0e2b65056fbd0f0a59d1c57c67779868d25e145d4903302dace1388c", func := "emendator/emendatorlaw01.KindWords", spec := "kindWords", unfollowed := true, recurses := true, apart := false }
def KindWordsSaid : Prop := kindWordsRow.holds Try.pinned (OpenSpec.ofChange kindWordsSpec)

/-- ITS FALSE NEIGHBOUR: 'it returns false'. Refute it at one input. -/
def kindWordsWrong : ChangeSpec := { name := "kindWords", fn := fun _ => fun
  | [d] => { results := [.lit (.bool false)], args := [d] }
  | _ => none }
def KindWordsWrongFalsely : Prop := kindWordsRow.holds Try.pinned (OpenSpec.ofChange kindWordsWrong)

/-- 'emendatorlaw01.KindIs': WHATEVER THE INPUT: true; the input reads as it did. -/
def kindIsSpec : ChangeSpec := { name := "kindIs", fn := fun _ => fun
  | [d1, d2] => { results := [.lit (.bool true)], args := [d1, d2] }
  | _ => none }
def kindIsRow : OpenClaim := { program := "ytfbcmabpaecbjaa", sum := "0ecc86ea0e2b65056fbd0f0a59d1c57c67779868d25e145d4903302dace1388c", func := "emendator/emendatorlaw01.KindIs", spec := "kindIs", unfollowed := true, recurses := true, apart := false }
def KindIsSaid : Prop := kindIsRow.holds Try.pinned (OpenSpec.ofChange kindIsSpec)

/-- ITS FALSE NEIGHBOUR: 'it returns false'. Refute it at one input. -/
def kindIsWrong : ChangeSpec := { name := "kindIs", fn := fun _ => fun
  | [d1, d2] => { results := [.lit (.bool false)], args := [d1, d2] }
  | _ => none }
def KindIsWrongFalsely : Prop := kindIsRow.holds Try.pinned (OpenSpec.ofChange kindIsWrong)

/-- 'emendatorlaw01.KindSets': WHATEVER THE INPUT: true; the input reads as it did. -/
def kindSetsSpec : ChangeSpec := { name := "kindSets", fn := fun _ => fun
  | [d1, d2] => { results := [.lit (.bool true)], args := [d1, d2] }
  | _ => none }
def kindSetsRow : OpenClaim := { program := "ytfbcmabpaecbjaa", sum := "0ecc86ea0e2b65056fbd0f0a59d1c57c67779868d25e145d4903302dace1388c", func := "emendator/emendatorlaw01.KindSets", spec := "kindSets", unfollowed := true, recurses := true, apart := false }
def KindSetsSaid : Prop := kindSetsRow.holds Try.pinned (OpenSpec.ofChange kindSetsSpec)

/-- ITS FALSE NEIGHBOUR: 'it returns false'. Refute it at one input. -/
def kindSetsWrong : ChangeSpec := { name := "kindSets", fn := fun _ => fun
  | [d1, d2] => { results := [.lit (.bool false)], args := [d1, d2] }
  | _ => none }
def KindSetsWrongFalsely : Prop := kindSetsRow.holds Try.pinned (OpenSpec.ofChange kindSetsWrong)

/-- 'emendatorlaw01.KindHas': WHATEVER THE INPUT: true; the input reads as it did. -/
def kindHasSpec : ChangeSpec := { name := "kindHas", fn := fun _ => fun
  | [d1, d2, d3, d4] => { results := [.lit (.bool true)], args := [d1, d2, d3, d4] }
  | _ => none }
def kindHasRow : OpenClaim := { program := "ytfbcmabpaecbjaa", sum := "0ecc86ea0e2b65056fbd0f0a59d1c57c67779868d25e145d4903302dace1388c", func := "emendator/emendatorlaw01.KindHas", spec := "kindHas", unfollowed := true, recurses := true, apart := false }
def KindHasSaid : Prop := kindHasRow.holds Try.pinned (OpenSpec.ofChange kindHasSpec)

/-- ITS FALSE NEIGHBOUR: 'it returns false'. Refute it at one input. -/
def kindHasWrong : ChangeSpec := { name := "kindHas", fn := fun _ => fun
  | [d1, d2, d3, d4] => { results := [.lit (.bool false)], args := [d1, d2, d3, d4] }
  | _ => none }
def KindHasWrongFalsely : Prop := kindHasRow.holds Try.pinned (OpenSpec.ofChange kindHasWrong)

/- THE SECOND FORM. 'bulk': how many values and letters a reading holds, each counted each time it is reached (what is shared counts as often as it is met; a slice's spare places count too). A statement '..UptoSaid' is the law's where the arguments, and the package variables that the reading takes, are together of bulk at most 1048576: NARROWER than '..Said'. Prove '..Said' where nothing that the law and all that it calls make is longer than what came in: it says more and counts as full. Else prove '..UptoSaid'. A law counts once. -/
mutual
def uptoBulk {H : Type} : DataW H → Nat
  | .lit (.string bytes) => bytes.length + 1
  | .lit _ => 1
  | .nil => 1
  | .ptr d => uptoBulk d + 1
  | .slice elems spare => uptoBulkAll elems + uptoBulkAll spare + 1
  | .agg parts => uptoBulkAll parts + 1
  | .iface _ d => uptoBulk d + 1
  | .map entries => uptoBulkEntries entries + 1
  | .held _ => 1
def uptoBulkAll {H : Type} : List (DataW H) → Nat
  | [] => 0
  | d :: r => uptoBulk d + uptoBulkAll r
def uptoBulkEntries {H : Type} : List (Lit × DataW H) → Nat
  | [] => 0
  | x :: r => uptoBulkEntry x + uptoBulkEntries r
def uptoBulkEntry {H : Type} : Lit × DataW H → Nat
  | (.string bytes, d) => bytes.length + uptoBulk d + 1
  | (_, d) => uptoBulk d + 1
 end
def uptoSmall : (H : Type) → List (DataW H) → Bool := fun _ ds => decide (uptoBulkAll ds ≤ 1048576)
def OpenSpec.upto (s : _root_.Go.ChangeSpec) : _root_.Go.OpenSpec := { _root_.Go.OpenSpec.ofChange s with cond := some uptoSmall }

/-- 'emendatorlaw01.KindNamed', WHERE WHAT IT READS IS OF BULK AT MOST 1048576: true; the input reads as it did. -/
def kindNamedUptoRow : OpenClaim := { program := "ytfbcmabpaecbjaa", sum := "0ecc86ea0e2b65056fbd0f0a59d1c57c67779868d25e145d4903302dace1388c", func := "emendator/emendatorlaw01.KindNamed", spec := "kindNamed", unfollowed := true, recurses := true, apart := false, narrowed := true }
def KindNamedUptoSaid : Prop := kindNamedUptoRow.holds Try.pinned (OpenSpec.upto kindNamedSpec)

/-- 'emendatorlaw01.KindCount', WHERE WHAT IT READS IS OF BULK AT MOST 1048576: true; the input reads as it did. -/
def kindCountUptoRow : OpenClaim := { program := "ytfbcmabpaecbjaa", sum := "0ecc86ea0e2b65056fbd0f0a59d1c57c67779868d25e145d4903302dace1388c", func := "emendator/emendatorlaw01.KindCount", spec := "kindCount", unfollowed := true, recurses := true, apart := false, narrowed := true }
def KindCountUptoSaid : Prop := kindCountUptoRow.holds Try.pinned (OpenSpec.upto kindCountSpec)

/-- 'emendatorlaw01.KindWords', WHERE WHAT IT READS IS OF BULK AT MOST 1048576: true; the input reads as it did. -/
def kindWordsUptoRow : OpenClaim := { program := "ytfbcmabpaecbjaa", sum := "0ecc86ea0e2b65056fbd0f0a59d1c57c67779868d25e145d4903302dace1388c", func := "emendator/emendatorlaw01.KindWords", spec := "kindWords", unfollowed := true, recurses := true, apart := false, narrowed := true }
def KindWordsUptoSaid : Prop := kindWordsUptoRow.holds Try.pinned (OpenSpec.upto kindWordsSpec)

/-- 'emendatorlaw01.KindIs', WHERE WHAT IT READS IS OF BULK AT MOST 1048576: true; the input reads as it did. -/
def kindIsUptoRow : OpenClaim := { program := "ytfbcmabpaecbjaa", sum := "0ecc86ea0e2b65056fbd0f0a59d1c57c67779868d25e145d4903302dace1388c", func := "emendator/emendatorlaw01.KindIs", spec := "kindIs", unfollowed := true, recurses := true, apart := false, narrowed := true }
def KindIsUptoSaid : Prop := kindIsUptoRow.holds Try.pinned (OpenSpec.upto kindIsSpec)

/-- 'emendatorlaw01.KindSets', WHERE WHAT IT READS IS OF BULK AT MOST 1048576: true; the input reads as it did. -/
def kindSetsUptoRow : OpenClaim := { program := "ytfbcmabpaecbjaa", sum := "0ecc86ea0e2b65056fbd0f0a59d1c57c67779868d25e145d4903302dace1388c", func := "emendator/emendatorlaw01.KindSets", spec := "kindSets", unfollowed := true, recurses := true, apart := false, narrowed := true }
def KindSetsUptoSaid : Prop := kindSetsUptoRow.holds Try.pinned (OpenSpec.upto kindSetsSpec)

/-- 'emendatorlaw01.KindHas', WHERE WHAT IT READS IS OF BULK AT MOST 1048576: true; the input reads as it did. -/
def kindHasUptoRow : OpenClaim := { program := "ytfbcmabpaecbjaa", sum := "0ecc86ea0e2b65056fbd0f0a59d1c57c67779868d25e145d4903302dace1388c", func := "emendator/emendatorlaw01.KindHas", spec := "kindHas", unfollowed := true, recurses := true, apart := false, narrowed := true }
def KindHasUptoSaid : Prop := kindHasUptoRow.holds Try.pinned (OpenSpec.upto kindHasSpec)

end Rows
end Go.Proofs.Ytfbcmabpaecbjaa
