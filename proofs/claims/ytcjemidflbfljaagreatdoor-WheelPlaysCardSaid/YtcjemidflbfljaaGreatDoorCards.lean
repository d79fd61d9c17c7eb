/-
  DERIVED. GIVEN WITH THE SEED: THE CARDS: each row of YtcjemidflbfljaaGreatDoorRows.lean that lists a variable, with what it lists TIED to the program's text (the seventh form; the later family's looks); each row that meets fmt, with fmt's text TOLD by the authors' own Lean function (tested against real Go, not proved from fmt's source: count such statements apart). THE CARD IS WHAT COUNTS. Prove the row's statement (the work); the ties are given (YtcjemidflbfljaaGreatDoorTie.lean); close each card by the builder's one call (the guide's Derived/Test/ToyasCard.lean, 'card_holds'). Laid BY PROGRAM, IN A SANDBOX (cutbox-door.mjs). By AI agents, Wed Nov 11 2026. No macro, syntax, notation, axiom, sorry.
-/
import Derived.Test.YtcjemidflbfljaaGreatDoorRows
import GoSem.ClaimSeven
namespace Go.Proofs.YtcjemidflbfljaaGreatDoor
namespace Rows

/-- THE TIED CARD OF 'detentlaw07.WheelPlays'. -/
def wheelPlaysCard : Claim7 := { stood := { row := wheelPlaysRow, standIns := [], harness := (true, "47cd486b1b71bd28c1ba5acbbb9c24eb3330816ef63eea0eeceef85cc4cb6bcc"), looks := false }, kinds := [], alts := [], laidByText := true, laidKinds := [.data], laidTests := true, laidLooks := .later }
def WheelPlaysCardSaid : Prop := Claim7.holds Tryz.pinned (.plain (OpenSpec.ofChange wheelPlaysSpec)) wheelPlaysCard

/-- THE SECOND FORM's CARD OF 'detentlaw07.WheelPlays'. -/
def wheelPlaysUptoCard : Claim7 := { stood := { row := wheelPlaysUptoRow, standIns := [], harness := (true, "47cd486b1b71bd28c1ba5acbbb9c24eb3330816ef63eea0eeceef85cc4cb6bcc"), looks := false }, kinds := [], alts := [], laidByText := true, laidKinds := [.data], laidTests := true, laidLooks := .later }
def WheelPlaysUptoCardSaid : Prop := Claim7.holds Tryz.pinned (.plain (OpenSpec.upto wheelPlaysSpec)) wheelPlaysUptoCard
end Rows
end Go.Proofs.YtcjemidflbfljaaGreatDoor
