/-
  No cell of these rows narrows 'for every input' (looked for: loops, veiled, ifaces, maps, wideKeys, modest, calm, conditions, laid).
  DERIVED. THE GIVEN ROWS OF THIS SEAT. 6 by the template 'for every input the law returns true; each argument reads behind the call as it read before'; 0 by the template 'total and deterministic' (their statements: YtlgemficalcghaaGreatTotals.lean).
  GIVEN WITH THE SEED: the statements are not yours to turn. If you find one false, say at which input.
  Laid BY PROGRAM, IN A SANDBOX (cutbox-rows.mjs): the forced cells as the released guide's own fill.sh prints them over the translation 4cd0849f68def9e3… (all of the seat's roots in one cut). By AI agents, Wed Nov 11 2026. No macro, syntax, notation, axiom, sorry.
-/
import Derived.Test.YtlgemficalcghaaGreatChecked
import GoSem.Claim
import GoSem.ClaimJoined
import GoSem.ClaimMapViews
import Derived.JoinedTies
import Derived.KernelRfl
namespace Go.Proofs.YtlgemficalcghaaGreat
/- THE CELL 'sum', in the pinned program and in every row, IS THE sha256 OF THE DUMP (.gsa) THAT YtlgemficalcghaaGreatProg.lean LOADS. Nothing in Lean hashes anything: it is a label: what it is worth is what the hold of that sum in a sandbox is worth. -/
noncomputable def Tryz.pinned : Pinned := { name := "ytlgemficalcghaagreat", sum := "4cd0849f68def9e3365d08468bc4bb5c07703dc2cdbdbb90c055d46dc22e9bc0", checked := Tryz.checked }
namespace Rows
def none {H : Type} : Left H := { results := [], args := [] }

/-- 'emendatorlaw04.ProgAlt': WHATEVER THE INPUT: true; the input reads as it did. -/
def progAltSpec : ChangeSpec := { name := "progAlt", fn := fun _ => fun
  | [d] => { results := [.lit (.bool true)], args := [d] }
  | _ => none }
def progAltRow : OpenClaim := { program := "ytlgemficalcghaagreat", sum := "4cd0849f68def9e3365d08468bc4bb5c07703dc2cdbdbb90c055d46dc22e9bc0", func := "emendator/emendatorlaw04.ProgAlt", spec := "progAlt", inPlace := ["internal/bytealg.IndexByteString", "internal/bytealg.IndexString"], unfollowed := true, recurses := true, named := ["internal/bytealg.MaxLen"], apart := false }
def ProgAltSaid : Prop := progAltRow.holds Tryz.pinned (OpenSpec.ofChange progAltSpec)

/-- ITS FALSE NEIGHBOUR: 'it returns false'. Refute it at one input. -/
def progAltWrong : ChangeSpec := { name := "progAlt", fn := fun _ => fun
  | [d] => { results := [.lit (.bool false)], args := [d] }
  | _ => none }
def ProgAltWrongFalsely : Prop := progAltRow.holds Tryz.pinned (OpenSpec.ofChange progAltWrong)

/-- 'emendatorlaw04.ProgParts': WHATEVER THE INPUT: true; the input reads as it did. -/
def progPartsSpec : ChangeSpec := { name := "progParts", fn := fun _ => fun
  | [d1, d2] => { results := [.lit (.bool true)], args := [d1, d2] }
  | _ => none }
def progPartsRow : OpenClaim := { program := "ytlgemficalcghaagreat", sum := "4cd0849f68def9e3365d08468bc4bb5c07703dc2cdbdbb90c055d46dc22e9bc0", func := "emendator/emendatorlaw04.ProgParts", spec := "progParts", inPlace := ["internal/bytealg.IndexByteString", "internal/bytealg.IndexString"], unfollowed := true, recurses := true, named := ["internal/bytealg.MaxLen"], apart := false }
def ProgPartsSaid : Prop := progPartsRow.holds Tryz.pinned (OpenSpec.ofChange progPartsSpec)

/-- ITS FALSE NEIGHBOUR: 'it returns false'. Refute it at one input. -/
def progPartsWrong : ChangeSpec := { name := "progParts", fn := fun _ => fun
  | [d1, d2] => { results := [.lit (.bool false)], args := [d1, d2] }
  | _ => none }
def ProgPartsWrongFalsely : Prop := progPartsRow.holds Tryz.pinned (OpenSpec.ofChange progPartsWrong)

/-- 'emendatorlaw04.ProgLong': WHATEVER THE INPUT: true; the input reads as it did. -/
def progLongSpec : ChangeSpec := { name := "progLong", fn := fun _ => fun
  | [d1, d2] => { results := [.lit (.bool true)], args := [d1, d2] }
  | _ => none }
def progLongRow : OpenClaim := { program := "ytlgemficalcghaagreat", sum := "4cd0849f68def9e3365d08468bc4bb5c07703dc2cdbdbb90c055d46dc22e9bc0", func := "emendator/emendatorlaw04.ProgLong", spec := "progLong", inPlace := ["internal/bytealg.IndexByteString", "internal/bytealg.IndexString"], unfollowed := true, recurses := true, named := ["internal/bytealg.MaxLen"], apart := false }
def ProgLongSaid : Prop := progLongRow.holds Tryz.pinned (OpenSpec.ofChange progLongSpec)

/-- ITS FALSE NEIGHBOUR: 'it returns false'. Refute it at one input. -/
def progLongWrong : ChangeSpec := { name := "progLong", fn := fun _ => fun
  | [d1, d2] => { results := [.lit (.bool false)], args := [d1, d2] }
  | _ => none }
def ProgLongWrongFalsely : Prop := progLongRow.holds Tryz.pinned (OpenSpec.ofChange progLongWrong)

/-- 'emendatorlaw04.ProgSounds': WHATEVER THE INPUT: true; the input reads as it did. -/
def progSoundsSpec : ChangeSpec := { name := "progSounds", fn := fun _ => fun
  | [d] => { results := [.lit (.bool true)], args := [d] }
  | _ => none }
def progSoundsRow : OpenClaim := { program := "ytlgemficalcghaagreat", sum := "4cd0849f68def9e3365d08468bc4bb5c07703dc2cdbdbb90c055d46dc22e9bc0", func := "emendator/emendatorlaw04.ProgSounds", spec := "progSounds", inPlace := ["internal/bytealg.IndexByteString", "internal/bytealg.IndexString"], unfollowed := true, recurses := true, named := ["internal/bytealg.MaxLen"], apart := false }
def ProgSoundsSaid : Prop := progSoundsRow.holds Tryz.pinned (OpenSpec.ofChange progSoundsSpec)

/-- ITS FALSE NEIGHBOUR: 'it returns false'. Refute it at one input. -/
def progSoundsWrong : ChangeSpec := { name := "progSounds", fn := fun _ => fun
  | [d] => { results := [.lit (.bool false)], args := [d] }
  | _ => none }
def ProgSoundsWrongFalsely : Prop := progSoundsRow.holds Tryz.pinned (OpenSpec.ofChange progSoundsWrong)

/-- 'emendatorlaw04.ProgSound': WHATEVER THE INPUT: true; the input reads as it did. -/
def progSoundSpec : ChangeSpec := { name := "progSound", fn := fun _ => fun
  | [d1, d2] => { results := [.lit (.bool true)], args := [d1, d2] }
  | _ => none }
def progSoundRow : OpenClaim := { program := "ytlgemficalcghaagreat", sum := "4cd0849f68def9e3365d08468bc4bb5c07703dc2cdbdbb90c055d46dc22e9bc0", func := "emendator/emendatorlaw04.ProgSound", spec := "progSound", inPlace := ["internal/bytealg.IndexByteString", "internal/bytealg.IndexString"], unfollowed := true, recurses := true, named := ["internal/bytealg.MaxLen"], apart := false }
def ProgSoundSaid : Prop := progSoundRow.holds Tryz.pinned (OpenSpec.ofChange progSoundSpec)

/-- ITS FALSE NEIGHBOUR: 'it returns false'. Refute it at one input. -/
def progSoundWrong : ChangeSpec := { name := "progSound", fn := fun _ => fun
  | [d1, d2] => { results := [.lit (.bool false)], args := [d1, d2] }
  | _ => none }
def ProgSoundWrongFalsely : Prop := progSoundRow.holds Tryz.pinned (OpenSpec.ofChange progSoundWrong)

/-- 'emendatorlaw04.ProgTimes': WHATEVER THE INPUT: true; the input reads as it did. -/
def progTimesSpec : ChangeSpec := { name := "progTimes", fn := fun _ => fun
  | [d1, d2, d3] => { results := [.lit (.bool true)], args := [d1, d2, d3] }
  | _ => none }
def progTimesRow : OpenClaim := { program := "ytlgemficalcghaagreat", sum := "4cd0849f68def9e3365d08468bc4bb5c07703dc2cdbdbb90c055d46dc22e9bc0", func := "emendator/emendatorlaw04.ProgTimes", spec := "progTimes", inPlace := ["internal/bytealg.IndexByteString", "internal/bytealg.IndexString"], unfollowed := true, recurses := true, named := ["internal/bytealg.MaxLen"], apart := false }
def ProgTimesSaid : Prop := progTimesRow.holds Tryz.pinned (OpenSpec.ofChange progTimesSpec)

/-- ITS FALSE NEIGHBOUR: 'it returns false'. Refute it at one input. -/
def progTimesWrong : ChangeSpec := { name := "progTimes", fn := fun _ => fun
  | [d1, d2, d3] => { results := [.lit (.bool false)], args := [d1, d2, d3] }
  | _ => none }
def ProgTimesWrongFalsely : Prop := progTimesRow.holds Tryz.pinned (OpenSpec.ofChange progTimesWrong)

/- THE SECOND FORM. 'bulk': how many values and letters a reading holds, each counted each time it is reached (what is shared counts as often as it is met; a slice's spare places count too). A statement '..UptoSaid' is the law's where the arguments, and the package variables that the reading takes, are together of bulk at most 1048576: NARROWER than '..Said'. Prove '..Said' where nothing that the law and all that it calls make is longer than what came in: it says more and counts as full. Else prove '..UptoSaid'. A law counts once. -/
mutual
def uptoBulk {H : Type} : DataW H → Nat
  | .lit (.string bytes) => bytes.length + 1
  | .lit _ => 1
  | .nil => 1
  | .ptr d => uptoBulk d + 1
  | .slice elems spare => uptoBulkAll elems + uptoBulkAll spare + 1
  | .agg parts => uptoBulkAll parts + 1
  | .iface _ d => uptoBulk d + 1
  | .map entries => uptoBulkEntries entries + 1
  | .held _ => 1
def uptoBulkAll {H : Type} : List (DataW H) → Nat
  | [] => 0
  | d :: r => uptoBulk d + uptoBulkAll r
def uptoBulkEntries {H : Type} : List (Lit × DataW H) → Nat
  | [] => 0
  | x :: r => uptoBulkEntry x + uptoBulkEntries r
def uptoBulkEntry {H : Type} : Lit × DataW H → Nat
  | (.string bytes, d) => bytes.length + uptoBulk d + 1
  | (_, d) => uptoBulk d + 1
 end
def uptoSmall : (H : Type) → List (DataW H) → Bool := fun _ ds => decide (uptoBulkAll ds ≤ 1048576)
def OpenSpec.upto (s : _root_.Go.ChangeSpec) : _root_.Go.OpenSpec := { _root_.Go.OpenSpec.ofChange s with cond := some uptoSmall }

/-- 'emendatorlaw04.ProgAlt', WHERE WHAT IT READS IS OF BULK AT MOST 1048576: true; the input reads as it did. -/
def progAltUptoRow : OpenClaim := { program := "ytlgemficalcghaagreat", sum := "4cd0849f68def9e3365d08468bc4bb5c07703dc2cdbdbb90c055d46dc22e9bc0", func := "emendator/emendatorlaw04.ProgAlt", spec := "progAlt", inPlace := ["internal/bytealg.IndexByteString", "internal/bytealg.IndexString"], unfollowed := true, recurses := true, named := ["internal/bytealg.MaxLen"], apart := false, narrowed := true }
def ProgAltUptoSaid : Prop := progAltUptoRow.holds Tryz.pinned (OpenSpec.upto progAltSpec)

/-- 'emendatorlaw04.ProgParts', WHERE WHAT IT READS IS OF BULK AT MOST 1048576: true; the input reads as it did. -/
def progPartsUptoRow : OpenClaim := { program := "ytlgemficalcghaagreat", sum := "4cd0849f68def9e3365d08468bc4bb5c07703dc2cdbdbb90c055d46dc22e9bc0", func := "emendator/emendatorlaw04.ProgParts", spec := "progParts", inPlace := ["internal/bytealg.IndexByteString", "internal/bytealg.IndexString"], unfollowed := true, recurses := true, named := ["internal/bytealg.MaxLen"], apart := false, narrowed := true }
def ProgPartsUptoSaid : Prop := progPartsUptoRow.holds Tryz.pinned (OpenSpec.upto progPartsSpec)

/-- 'emendatorlaw04.ProgLong', WHERE WHAT IT READS IS OF BULK AT MOST 1048576: true; the input reads as it did. -/
def progLongUptoRow : OpenClaim := { program := "ytlgemficalcghaagreat", sum := "4cd0849f68def9e3365d08468bc4bb5c07703dc2cdbdbb90c055d46dc22e9bc0", func := "emendator/emendatorlaw04.ProgLong", spec := "progLong", inPlace := ["internal/bytealg.IndexByteString", "internal/bytealg.IndexString"], unfollowed := true, recurses := true, named := ["internal/bytealg.MaxLen"], apart := false, narrowed := true }
def ProgLongUptoSaid : Prop := progLongUptoRow.holds Tryz.pinned (OpenSpec.upto progLongSpec)

/-- 'emendatorlaw04.ProgSounds', WHERE WHAT IT READS IS OF BULK AT MOST 1048576: true; the input reads as it did. -/
def progSoundsUptoRow : OpenClaim := { program := "ytlgemficalcghaagreat", sum := "4cd0849f68def9e3365d08468bc4bb5c07703dc2cdbdbb90c055d46dc22e9bc0", func := "emendator/emendatorlaw04.ProgSounds", spec := "progSounds", inPlace := ["internal/bytealg.IndexByteString", "internal/bytealg.IndexString"], unfollowed := true, recurses := true, named := ["internal/bytealg.MaxLen"], apart := false, narrowed := true }
def ProgSoundsUptoSaid : Prop := progSoundsUptoRow.holds Tryz.pinned (OpenSpec.upto progSoundsSpec)

/-- 'emendatorlaw04.ProgSound', WHERE WHAT IT READS IS OF BULK AT MOST 1048576: true; the input reads as it did. -/
def progSoundUptoRow : OpenClaim := { program := "ytlgemficalcghaagreat", sum := "4cd0849f68def9e3365d08468bc4bb5c07703dc2cdbdbb90c055d46dc22e9bc0", func := "emendator/emendatorlaw04.ProgSound", spec := "progSound", inPlace := ["internal/bytealg.IndexByteString", "internal/bytealg.IndexString"], unfollowed := true, recurses := true, named := ["internal/bytealg.MaxLen"], apart := false, narrowed := true }
def ProgSoundUptoSaid : Prop := progSoundUptoRow.holds Tryz.pinned (OpenSpec.upto progSoundSpec)

/-- 'emendatorlaw04.ProgTimes', WHERE WHAT IT READS IS OF BULK AT MOST 1048576: true; the input reads as it did. -/
def progTimesUptoRow : OpenClaim := { program := "ytlgemficalcghaagreat", sum := "4cd0849f68def9e3365d08468bc4bb5c07703dc2cdbdbb90c055d46dc22e9bc0", func := "emendator/emendatorlaw04.ProgTimes", spec := "progTimes", inPlace := ["internal/bytealg.IndexByteString", "internal/bytealg.IndexString"], unfollowed := true, recurses := true, named := ["internal/bytealg.MaxLen"], apart := false, narrowed := true }
def ProgTimesUptoSaid : Prop := progTimesUptoRow.holds Tryz.pinned (OpenSpec.upto progTimesSpec)

end Rows
end Go.Proofs.YtlgemficalcghaaGreat
