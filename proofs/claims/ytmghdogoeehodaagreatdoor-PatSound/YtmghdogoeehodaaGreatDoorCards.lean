/-
  DERIVED. GIVEN WITH THE SEED: THE CARDS: each row of YtmghdogoeehodaaGreatDoorRows.lean that lists a variable, with what it lists TIED to the program's text (the seventh form; the later family's looks); each row that meets fmt, with fmt's text TOLD by the authors' own Lean function (tested against real Go, not proved from fmt's source: count such statements apart). THE CARD IS WHAT COUNTS. Prove the row's statement (the work); the ties are given (YtmghdogoeehodaaGreatDoorTie.lean); close each card by the builder's one call (the guide's Derived/Test/ToyasCard.lean, 'card_holds'). Laid BY PROGRAM, IN A SANDBOX (cutbox-door.mjs). By AI agents, Wed Nov 11 2026. No macro, syntax, notation, axiom, sorry.
-/
import Derived.Test.YtmghdogoeehodaaGreatDoorRows
import GoSem.ClaimSeven
namespace Go.Proofs.YtmghdogoeehodaaGreatDoor
namespace Rows

/-- THE TIED CARD OF 'emendatorlaw03.PatSound'. -/
def patSoundCard : Claim7 := { stood := { row := patSoundRow, standIns := [], harness := (true, "de21ddde89a40c6f10fa67e5c3b45b80291468f2c0a728e25a8c048982df6047"), looks := true }, kinds := [], alts := [], laidByText := true, laidKinds := [.data, .data, .data], laidTests := true, laidLooks := .later }
def PatSoundCardSaid : Prop := Claim7.holds Tryz.pinned (.plain (OpenSpec.ofChange patSoundSpec)) patSoundCard

/-- THE SECOND FORM's CARD OF 'emendatorlaw03.PatSound'. -/
def patSoundUptoCard : Claim7 := { stood := { row := patSoundUptoRow, standIns := [], harness := (true, "de21ddde89a40c6f10fa67e5c3b45b80291468f2c0a728e25a8c048982df6047"), looks := true }, kinds := [], alts := [], laidByText := true, laidKinds := [.data, .data, .data], laidTests := true, laidLooks := .later }
def PatSoundUptoCardSaid : Prop := Claim7.holds Tryz.pinned (.plain (OpenSpec.upto patSoundSpec)) patSoundUptoCard
end Rows
end Go.Proofs.YtmghdogoeehodaaGreatDoor
