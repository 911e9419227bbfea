/-
  DERIVED. GIVEN WITH THE SEED: THE CARDS: each row of YthloemacfdgjjaaGreatDoorRows.lean that lists a variable, with what it lists TIED to the program's text (the seventh form; the later family's looks); each row that meets fmt, with fmt's text TOLD by the authors' own Lean function (tested against real Go, not proved from fmt's source: count such statements apart). THE CARD IS WHAT COUNTS. Prove the row's statement (the work); the ties are given (YthloemacfdgjjaaGreatDoorTie.lean); close each card by the builder's one call (the guide's Derived/Test/ToyasCard.lean, 'card_holds'). Laid BY PROGRAM, IN A SANDBOX (cutbox-door.mjs). By AI agents, Wed Nov 11 2026. No macro, syntax, notation, axiom, sorry.
-/
import Derived.Test.YthloemacfdgjjaaGreatDoorRows
import GoSem.ClaimSeven
namespace Go.Proofs.YthloemacfdgjjaaGreatDoor
namespace Rows

/-- THE TIED CARD OF 'emendatorlaw03.PatGroups'. -/
def patGroupsCard : Claim7 := { stood := { row := patGroupsRow, standIns := [], harness := (true, "c741ae2dc76ab34fad4472c23f17a493681f62238e06c8286d02af8b6bcd9277"), looks := true }, kinds := [], alts := [], laidByText := true, laidKinds := [.data, .data, .data], laidTests := true, laidLooks := .later }
def PatGroupsCardSaid : Prop := Claim7.holds Tryz.pinned (.plain (OpenSpec.ofChange patGroupsSpec)) patGroupsCard

/-- THE TIED CARD OF 'emendatorlaw03.PatBounds'. -/
def patBoundsCard : Claim7 := { stood := { row := patBoundsRow, standIns := [], harness := (true, "c741ae2dc76ab34fad4472c23f17a493681f62238e06c8286d02af8b6bcd9277"), looks := true }, kinds := [], alts := [], laidByText := true, laidKinds := [.data, .data, .data], laidTests := true, laidLooks := .later }
def PatBoundsCardSaid : Prop := Claim7.holds Tryz.pinned (.plain (OpenSpec.ofChange patBoundsSpec)) patBoundsCard

/-- THE TIED CARD OF 'emendatorlaw03.PatLast'. -/
def patLastCard : Claim7 := { stood := { row := patLastRow, standIns := [], harness := (true, "c741ae2dc76ab34fad4472c23f17a493681f62238e06c8286d02af8b6bcd9277"), looks := true }, kinds := [], alts := [], laidByText := true, laidKinds := [.data, .data, .data], laidTests := true, laidLooks := .later }
def PatLastCardSaid : Prop := Claim7.holds Tryz.pinned (.plain (OpenSpec.ofChange patLastSpec)) patLastCard

/-- THE TIED CARD OF 'emendatorlaw03.PatSets'. -/
def patSetsCard : Claim7 := { stood := { row := patSetsRow, standIns := [], harness := (true, "c741ae2dc76ab34fad4472c23f17a493681f62238e06c8286d02af8b6bcd9277"), looks := true }, kinds := [], alts := [], laidByText := true, laidKinds := [.data, .data, .data], laidTests := true, laidLooks := .later }
def PatSetsCardSaid : Prop := Claim7.holds Tryz.pinned (.plain (OpenSpec.ofChange patSetsSpec)) patSetsCard

/-- THE TIED CARD OF 'emendatorlaw03.PatParses'. -/
def patParsesCard : Claim7 := { stood := { row := patParsesRow, standIns := [], harness := (true, "c741ae2dc76ab34fad4472c23f17a493681f62238e06c8286d02af8b6bcd9277"), looks := true }, kinds := [], alts := [], laidByText := true, laidKinds := [.data, .data, .data], laidTests := true, laidLooks := .later }
def PatParsesCardSaid : Prop := Claim7.holds Tryz.pinned (.plain (OpenSpec.ofChange patParsesSpec)) patParsesCard

/-- THE TIED CARD OF 'emendatorlaw03.PatPrints'. -/
def patPrintsCard : Claim7 := { stood := { row := patPrintsRow, standIns := [], harness := (true, "c741ae2dc76ab34fad4472c23f17a493681f62238e06c8286d02af8b6bcd9277"), looks := true }, kinds := [], alts := [], laidByText := true, laidKinds := [.data, .data, .data], laidTests := true, laidLooks := .later }
def PatPrintsCardSaid : Prop := Claim7.holds Tryz.pinned (.plain (OpenSpec.ofChange patPrintsSpec)) patPrintsCard

/-- THE SECOND FORM's CARD OF 'emendatorlaw03.PatGroups'. -/
def patGroupsUptoCard : Claim7 := { stood := { row := patGroupsUptoRow, standIns := [], harness := (true, "c741ae2dc76ab34fad4472c23f17a493681f62238e06c8286d02af8b6bcd9277"), looks := true }, kinds := [], alts := [], laidByText := true, laidKinds := [.data, .data, .data], laidTests := true, laidLooks := .later }
def PatGroupsUptoCardSaid : Prop := Claim7.holds Tryz.pinned (.plain (OpenSpec.upto patGroupsSpec)) patGroupsUptoCard

/-- THE SECOND FORM's CARD OF 'emendatorlaw03.PatBounds'. -/
def patBoundsUptoCard : Claim7 := { stood := { row := patBoundsUptoRow, standIns := [], harness := (true, "c741ae2dc76ab34fad4472c23f17a493681f62238e06c8286d02af8b6bcd9277"), looks := true }, kinds := [], alts := [], laidByText := true, laidKinds := [.data, .data, .data], laidTests := true, laidLooks := .later }
def PatBoundsUptoCardSaid : Prop := Claim7.holds Tryz.pinned (.plain (OpenSpec.upto patBoundsSpec)) patBoundsUptoCard

/-- THE SECOND FORM's CARD OF 'emendatorlaw03.PatLast'. -/
def patLastUptoCard : Claim7 := { stood := { row := patLastUptoRow, standIns := [], harness := (true, "c741ae2dc76ab34fad4472c23f17a493681f62238e06c8286d02af8b6bcd9277"), looks := true }, kinds := [], alts := [], laidByText := true, laidKinds := [.data, .data, .data], laidTests := true, laidLooks := .later }
def PatLastUptoCardSaid : Prop := Claim7.holds Tryz.pinned (.plain (OpenSpec.upto patLastSpec)) patLastUptoCard

/-- THE SECOND FORM's CARD OF 'emendatorlaw03.PatSets'. -/
def patSetsUptoCard : Claim7 := { stood := { row := patSetsUptoRow, standIns := [], harness := (true, "c741ae2dc76ab34fad4472c23f17a493681f62238e06c8286d02af8b6bcd9277"), looks := true }, kinds := [], alts := [], laidByText := true, laidKinds := [.data, .data, .data], laidTests := true, laidLooks := .later }
def PatSetsUptoCardSaid : Prop := Claim7.holds Tryz.pinned (.plain (OpenSpec.upto patSetsSpec)) patSetsUptoCard

/-- THE SECOND FORM's CARD OF 'emendatorlaw03.PatParses'. -/
def patParsesUptoCard : Claim7 := { stood := { row := patParsesUptoRow, standIns := [], harness := (true, "c741ae2dc76ab34fad4472c23f17a493681f62238e06c8286d02af8b6bcd9277"), looks := true }, kinds := [], alts := [], laidByText := true, laidKinds := [.data, .data, .data], laidTests := true, laidLooks := .later }
def PatParsesUptoCardSaid : Prop := Claim7.holds Tryz.pinned (.plain (OpenSpec.upto patParsesSpec)) patParsesUptoCard

/-- THE SECOND FORM's CARD OF 'emendatorlaw03.PatPrints'. -/
def patPrintsUptoCard : Claim7 := { stood := { row := patPrintsUptoRow, standIns := [], harness := (true, "c741ae2dc76ab34fad4472c23f17a493681f62238e06c8286d02af8b6bcd9277"), looks := true }, kinds := [], alts := [], laidByText := true, laidKinds := [.data, .data, .data], laidTests := true, laidLooks := .later }
def PatPrintsUptoCardSaid : Prop := Claim7.holds Tryz.pinned (.plain (OpenSpec.upto patPrintsSpec)) patPrintsUptoCard
end Rows
end Go.Proofs.YthloemacfdgjjaaGreatDoor
