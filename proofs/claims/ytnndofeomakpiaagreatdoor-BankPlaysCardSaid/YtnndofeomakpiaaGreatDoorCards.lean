/-
  DERIVED. GIVEN WITH THE SEED: THE CARDS: each row of YtnndofeomakpiaaGreatDoorRows.lean that lists a variable, with what it lists TIED to the program's text (the seventh form; the later family's looks); each row that meets fmt, with fmt's text TOLD by the authors' own Lean function (tested against real Go, not proved from fmt's source: count such statements apart). THE CARD IS WHAT COUNTS. Prove the row's statement (the work); the ties are given (YtnndofeomakpiaaGreatDoorTie.lean); close each card by the builder's one call (the guide's Derived/Test/ToyasCard.lean, 'card_holds'). Laid BY PROGRAM, IN A SANDBOX (cutbox-door.mjs). By AI agents, Wed Nov 11 2026. No macro, syntax, notation, axiom, sorry.
-/
import Derived.Test.YtnndofeomakpiaaGreatDoorRows
import GoSem.ClaimSeven
namespace Go.Proofs.YtnndofeomakpiaaGreatDoor
namespace Rows

/-- THE TIED CARD OF 'detentlaw08.BankPlays'. -/
def bankPlaysCard : Claim7 := { stood := { row := bankPlaysRow, standIns := [], harness := (true, "1ef0c256bc05b3525e67cb42727807ab08a5769544ee3444d5191043ca6244fe"), looks := false }, kinds := [], alts := [], laidByText := true, laidKinds := [.data], laidTests := true, laidLooks := .later }
def BankPlaysCardSaid : Prop := Claim7.holds Tryz.pinned (.plain (OpenSpec.ofChange bankPlaysSpec)) bankPlaysCard

/-- THE SECOND FORM's CARD OF 'detentlaw08.BankPlays'. -/
def bankPlaysUptoCard : Claim7 := { stood := { row := bankPlaysUptoRow, standIns := [], harness := (true, "1ef0c256bc05b3525e67cb42727807ab08a5769544ee3444d5191043ca6244fe"), looks := false }, kinds := [], alts := [], laidByText := true, laidKinds := [.data], laidTests := true, laidLooks := .later }
def BankPlaysUptoCardSaid : Prop := Claim7.holds Tryz.pinned (.plain (OpenSpec.upto bankPlaysSpec)) bankPlaysUptoCard
end Rows
end Go.Proofs.YtnndofeomakpiaaGreatDoor
