/-
  DERIVED. GIVEN WITH THE SEED: THE CARDS: each row of YtpahpnajeliodaaGreatDoorRows.lean that lists a variable, with what it lists TIED to the program's text (the seventh form; the later family's looks); each row that meets fmt, with fmt's text TOLD by the authors' own Lean function (tested against real Go, not proved from fmt's source: count such statements apart). THE CARD IS WHAT COUNTS. Prove the row's statement (the work); the ties are given (YtpahpnajeliodaaGreatDoorTie.lean); close each card by the builder's one call (the guide's Derived/Test/ToyasCard.lean, 'card_holds'). Laid BY PROGRAM, IN A SANDBOX (cutbox-door.mjs). By AI agents, Wed Nov 11 2026. No macro, syntax, notation, axiom, sorry.
-/
import Derived.Test.YtpahpnajeliodaaGreatDoorRows
import GoSem.ClaimSeven
namespace Go.Proofs.YtpahpnajeliodaaGreatDoor
namespace Rows

/-- THE TIED CARD OF 'emendatorlaw03.PatModes'. -/
def patModesCard : Claim7 := { stood := { row := patModesRow, standIns := [], harness := (true, "44e00de9e252caae32f35563029f05328043de836ae111d2f1555e2664744564"), looks := true }, kinds := [], alts := [], laidByText := true, laidKinds := [.data, .data, .data], laidTests := true, laidLooks := .later }
def PatModesCardSaid : Prop := Claim7.holds Tryz.pinned (.plain (OpenSpec.ofChange patModesSpec)) patModesCard

/-- THE SECOND FORM's CARD OF 'emendatorlaw03.PatModes'. -/
def patModesUptoCard : Claim7 := { stood := { row := patModesUptoRow, standIns := [], harness := (true, "44e00de9e252caae32f35563029f05328043de836ae111d2f1555e2664744564"), looks := true }, kinds := [], alts := [], laidByText := true, laidKinds := [.data, .data, .data], laidTests := true, laidLooks := .later }
def PatModesUptoCardSaid : Prop := Claim7.holds Tryz.pinned (.plain (OpenSpec.upto patModesSpec)) patModesUptoCard
end Rows
end Go.Proofs.YtpahpnajeliodaaGreatDoor
