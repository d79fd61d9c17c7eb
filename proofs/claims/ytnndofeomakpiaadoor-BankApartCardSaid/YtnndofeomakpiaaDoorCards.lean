/-
  DERIVED. GIVEN WITH THE SEED: THE CARDS: each row of YtnndofeomakpiaaDoorRows.lean that lists a variable, with what it lists TIED to the program's text (the seventh form; the later family's looks); each row that meets fmt, with fmt's text TOLD by the authors' own Lean function (tested against real Go, not proved from fmt's source: count such statements apart). THE CARD IS WHAT COUNTS. Prove the row's statement (the work); the ties are given (YtnndofeomakpiaaDoorTie.lean); close each card by the builder's one call (the guide's Derived/Test/ToyasCard.lean, 'card_holds'). Laid BY PROGRAM, IN A SANDBOX (cutbox-door.mjs). By AI agents, Wed Nov 11 2026. No macro, syntax, notation, axiom, sorry.
-/
import Derived.Test.YtnndofeomakpiaaDoorRows
import GoSem.ClaimSeven
namespace Go.Proofs.YtnndofeomakpiaaDoor
namespace Rows

/-- THE TIED CARD OF 'detentlaw08.BankApart'. -/
def bankApartCard : Claim7 := { stood := { row := bankApartRow, standIns := [], harness := (true, "fc37b5b7bdb3a86eee1c8d6a18c9fec83e0aaa6869faefc882b3156f21ba7d58"), looks := false }, kinds := [], alts := [], laidByText := true, laidKinds := [.data], laidTests := true, laidLooks := .later }
def BankApartCardSaid : Prop := Claim7.holds Tryd.pinned (.plain (OpenSpec.ofChange bankApartSpec)) bankApartCard

/-- THE TIED CARD OF 'detentlaw08.BankAll'. -/
def bankAllCard : Claim7 := { stood := { row := bankAllRow, standIns := [], harness := (true, "fc37b5b7bdb3a86eee1c8d6a18c9fec83e0aaa6869faefc882b3156f21ba7d58"), looks := false }, kinds := [], alts := [], laidByText := true, laidKinds := [.data], laidTests := true, laidLooks := .later }
def BankAllCardSaid : Prop := Claim7.holds Tryd.pinned (.plain (OpenSpec.ofChange bankAllSpec)) bankAllCard

/-- THE TIED CARD OF 'detentlaw08.BankLimits'. -/
def bankLimitsCard : Claim7 := { stood := { row := bankLimitsRow, standIns := [], harness := (true, "fc37b5b7bdb3a86eee1c8d6a18c9fec83e0aaa6869faefc882b3156f21ba7d58"), looks := false }, kinds := [], alts := [], laidByText := true, laidKinds := [.data], laidTests := true, laidLooks := .later }
def BankLimitsCardSaid : Prop := Claim7.holds Tryd.pinned (.plain (OpenSpec.ofChange bankLimitsSpec)) bankLimitsCard

/-- THE SECOND FORM's CARD OF 'detentlaw08.BankApart'. -/
def bankApartUptoCard : Claim7 := { stood := { row := bankApartUptoRow, standIns := [], harness := (true, "fc37b5b7bdb3a86eee1c8d6a18c9fec83e0aaa6869faefc882b3156f21ba7d58"), looks := false }, kinds := [], alts := [], laidByText := true, laidKinds := [.data], laidTests := true, laidLooks := .later }
def BankApartUptoCardSaid : Prop := Claim7.holds Tryd.pinned (.plain (OpenSpec.upto bankApartSpec)) bankApartUptoCard

/-- THE SECOND FORM's CARD OF 'detentlaw08.BankAll'. -/
def bankAllUptoCard : Claim7 := { stood := { row := bankAllUptoRow, standIns := [], harness := (true, "fc37b5b7bdb3a86eee1c8d6a18c9fec83e0aaa6869faefc882b3156f21ba7d58"), looks := false }, kinds := [], alts := [], laidByText := true, laidKinds := [.data], laidTests := true, laidLooks := .later }
def BankAllUptoCardSaid : Prop := Claim7.holds Tryd.pinned (.plain (OpenSpec.upto bankAllSpec)) bankAllUptoCard

/-- THE SECOND FORM's CARD OF 'detentlaw08.BankLimits'. -/
def bankLimitsUptoCard : Claim7 := { stood := { row := bankLimitsUptoRow, standIns := [], harness := (true, "fc37b5b7bdb3a86eee1c8d6a18c9fec83e0aaa6869faefc882b3156f21ba7d58"), looks := false }, kinds := [], alts := [], laidByText := true, laidKinds := [.data], laidTests := true, laidLooks := .later }
def BankLimitsUptoCardSaid : Prop := Claim7.holds Tryd.pinned (.plain (OpenSpec.upto bankLimitsSpec)) bankLimitsUptoCard
end Rows
end Go.Proofs.YtnndofeomakpiaaDoor
