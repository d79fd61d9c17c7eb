/-
  DERIVED. GIVEN WITH THE SEED: THE CARDS: each row of YtjoaigadlpndcaaGreatDoorRows.lean that lists a variable, with what it lists TIED to the program's text (the seventh form; the later family's looks); each row that meets fmt, with fmt's text TOLD by the authors' own Lean function (tested against real Go, not proved from fmt's source: count such statements apart). THE CARD IS WHAT COUNTS. Prove the row's statement (the work); the ties are given (YtjoaigadlpndcaaGreatDoorTie.lean); close each card by the builder's one call (the guide's Derived/Test/ToyasCard.lean, 'card_holds'). Laid BY PROGRAM, IN A SANDBOX (cutbox-door.mjs). By AI agents, Wed Nov 11 2026. No macro, syntax, notation, axiom, sorry.
-/
import Derived.Test.YtjoaigadlpndcaaGreatDoorRows
import GoSem.ClaimSeven
namespace Go.Proofs.YtjoaigadlpndcaaGreatDoor
namespace Rows

/-- THE TIED CARD OF 'detentlaw12.GracePlays'. -/
def gracePlaysCard : Claim7 := { stood := { row := gracePlaysRow, standIns := [], harness := (true, "674914d6e66fadd1b5ef389f31322fb3e5cf63e2f416b2a4db6b0d75acf12903"), looks := false }, kinds := [], alts := [], laidByText := true, laidKinds := [.data], laidTests := true, laidLooks := .later }
def GracePlaysCardSaid : Prop := Claim7.holds Tryz.pinned (.plain (OpenSpec.ofChange gracePlaysSpec)) gracePlaysCard

/-- THE SECOND FORM's CARD OF 'detentlaw12.GracePlays'. -/
def gracePlaysUptoCard : Claim7 := { stood := { row := gracePlaysUptoRow, standIns := [], harness := (true, "674914d6e66fadd1b5ef389f31322fb3e5cf63e2f416b2a4db6b0d75acf12903"), looks := false }, kinds := [], alts := [], laidByText := true, laidKinds := [.data], laidTests := true, laidLooks := .later }
def GracePlaysUptoCardSaid : Prop := Claim7.holds Tryz.pinned (.plain (OpenSpec.upto gracePlaysSpec)) gracePlaysUptoCard
end Rows
end Go.Proofs.YtjoaigadlpndcaaGreatDoor
