/-
  DERIVED. GIVEN WITH THE SEED: THE CARDS: each row of YthloemacfdgjjabGreatDoorRows.lean that lists a variable, with what it lists TIED to the program's text (the seventh form; the later family's looks); each row that meets fmt, with fmt's text TOLD by the authors' own Lean function (tested against real Go, not proved from fmt's source: count such statements apart). THE CARD IS WHAT COUNTS. Prove the row's statement (the work); the ties are given (YthloemacfdgjjabGreatDoorTie.lean); close each card by the builder's one call (the guide's Derived/Test/ToyasCard.lean, 'card_holds'). Laid BY PROGRAM, IN A SANDBOX (cutbox-door.mjs). By AI agents, Wed Nov 11 2026. No macro, syntax, notation, axiom, sorry.
-/
import Derived.Test.YthloemacfdgjjabGreatDoorRows
import GoSem.ClaimSeven
namespace Go.Proofs.YthloemacfdgjjabGreatDoor
namespace Rows

/-- THE TIED CARD OF 'emendatorlaw03.PatSound'. -/
def patSoundCard : Claim7 := { stood := { row := patSoundRow, standIns := [], harness := (true, "32dc1e5b09459d27491aa86c589a7691e999a77b4c98cd7661b429b076680a75"), looks := true }, kinds := [], alts := [], laidByText := true, laidKinds := [.data, .data, .data], laidTests := true, laidLooks := .later }
def PatSoundCardSaid : Prop := Claim7.holds Tryz.pinned (.plain (OpenSpec.ofChange patSoundSpec)) patSoundCard

/-- THE TIED CARD OF 'emendatorlaw03.PatPlain'. -/
def patPlainCard : Claim7 := { stood := { row := patPlainRow, standIns := [], harness := (true, "32dc1e5b09459d27491aa86c589a7691e999a77b4c98cd7661b429b076680a75"), looks := true }, kinds := [], alts := [], laidByText := true, laidKinds := [.data, .data, .data], laidTests := true, laidLooks := .later }
def PatPlainCardSaid : Prop := Claim7.holds Tryz.pinned (.plain (OpenSpec.ofChange patPlainSpec)) patPlainCard

/-- THE TIED CARD OF 'emendatorlaw03.PatModes'. -/
def patModesCard : Claim7 := { stood := { row := patModesRow, standIns := [], harness := (true, "32dc1e5b09459d27491aa86c589a7691e999a77b4c98cd7661b429b076680a75"), looks := true }, kinds := [], alts := [], laidByText := true, laidKinds := [.data, .data, .data], laidTests := true, laidLooks := .later }
def PatModesCardSaid : Prop := Claim7.holds Tryz.pinned (.plain (OpenSpec.ofChange patModesSpec)) patModesCard

/-- THE SECOND FORM's CARD OF 'emendatorlaw03.PatSound'. -/
def patSoundUptoCard : Claim7 := { stood := { row := patSoundUptoRow, standIns := [], harness := (true, "32dc1e5b09459d27491aa86c589a7691e999a77b4c98cd7661b429b076680a75"), looks := true }, kinds := [], alts := [], laidByText := true, laidKinds := [.data, .data, .data], laidTests := true, laidLooks := .later }
def PatSoundUptoCardSaid : Prop := Claim7.holds Tryz.pinned (.plain (OpenSpec.upto patSoundSpec)) patSoundUptoCard

/-- THE SECOND FORM's CARD OF 'emendatorlaw03.PatPlain'. -/
def patPlainUptoCard : Claim7 := { stood := { row := patPlainUptoRow, standIns := [], harness := (true, "32dc1e5b09459d27491aa86c589a7691e999a77b4c98cd7661b429b076680a75"), looks := true }, kinds := [], alts := [], laidByText := true, laidKinds := [.data, .data, .data], laidTests := true, laidLooks := .later }
def PatPlainUptoCardSaid : Prop := Claim7.holds Tryz.pinned (.plain (OpenSpec.upto patPlainSpec)) patPlainUptoCard

/-- THE SECOND FORM's CARD OF 'emendatorlaw03.PatModes'. -/
def patModesUptoCard : Claim7 := { stood := { row := patModesUptoRow, standIns := [], harness := (true, "32dc1e5b09459d27491aa86c589a7691e999a77b4c98cd7661b429b076680a75"), looks := true }, kinds := [], alts := [], laidByText := true, laidKinds := [.data, .data, .data], laidTests := true, laidLooks := .later }
def PatModesUptoCardSaid : Prop := Claim7.holds Tryz.pinned (.plain (OpenSpec.upto patModesSpec)) patModesUptoCard
end Rows
end Go.Proofs.YthloemacfdgjjabGreatDoor
