/-
  DERIVED. GIVEN WITH THE SEED: THE CARDS: each row of YtadogffllkompaaDoorRows.lean that lists a variable, with what it lists TIED to the program's text (the seventh form; the later family's looks); each row that meets fmt, with fmt's text TOLD by the authors' own Lean function (tested against real Go, not proved from fmt's source: count such statements apart). THE CARD IS WHAT COUNTS. Prove the row's statement (the work); the ties are given (YtadogffllkompaaDoorTie.lean); close each card by the builder's one call (the guide's Derived/Test/ToyasCard.lean, 'card_holds'). Laid BY PROGRAM, IN A SANDBOX (cutbox-door.mjs). By AI agents, Wed Nov 11 2026. No macro, syntax, notation, axiom, sorry.
-/
import Derived.Test.YtadogffllkompaaDoorRows
import GoSem.ClaimSeven
namespace Go.Proofs.YtadogffllkompaaDoor
namespace Rows

/-- THE TIED CARD OF 'detentlaw17.CheckHelpers'. -/
def checkHelpersCard : Claim7 := { stood := { row := checkHelpersRow, standIns := [], harness := (true, "6478dd9c86c56bace6251554eb19b9b8efc36036e1cb33970c9917a024e126a3"), looks := false }, kinds := [], alts := [], laidByText := true, laidKinds := [.data, .data], laidTests := true, laidLooks := .later }
def CheckHelpersCardSaid : Prop := Claim7.holds Tryd.pinned (.plain (OpenSpec.ofChange checkHelpersSpec)) checkHelpersCard

/-- THE TIED CARD OF 'detentlaw17.CheckNext'. -/
def checkNextCard : Claim7 := { stood := { row := checkNextRow, standIns := [], harness := (true, "6478dd9c86c56bace6251554eb19b9b8efc36036e1cb33970c9917a024e126a3"), looks := false }, kinds := [], alts := [], laidByText := true, laidKinds := [.data, .data], laidTests := true, laidLooks := .later }
def CheckNextCardSaid : Prop := Claim7.holds Tryd.pinned (.plain (OpenSpec.ofChange checkNextSpec)) checkNextCard

/-- THE TIED CARD OF 'detentlaw17.CheckPlaces'. -/
def checkPlacesCard : Claim7 := { stood := { row := checkPlacesRow, standIns := [], harness := (true, "6478dd9c86c56bace6251554eb19b9b8efc36036e1cb33970c9917a024e126a3"), looks := false }, kinds := [], alts := [], laidByText := true, laidKinds := [.data, .data], laidTests := true, laidLooks := .later }
def CheckPlacesCardSaid : Prop := Claim7.holds Tryd.pinned (.plain (OpenSpec.ofChange checkPlacesSpec)) checkPlacesCard

/-- THE TIED CARD OF 'detentlaw17.CheckStays'. -/
def checkStaysCard : Claim7 := { stood := { row := checkStaysRow, standIns := [], harness := (true, "6478dd9c86c56bace6251554eb19b9b8efc36036e1cb33970c9917a024e126a3"), looks := false }, kinds := [], alts := [], laidByText := true, laidKinds := [.data, .data], laidTests := true, laidLooks := .later }
def CheckStaysCardSaid : Prop := Claim7.holds Tryd.pinned (.plain (OpenSpec.ofChange checkStaysSpec)) checkStaysCard

/-- THE TIED CARD OF 'detentlaw17.CheckSleeps'. -/
def checkSleepsCard : Claim7 := { stood := { row := checkSleepsRow, standIns := [], harness := (true, "6478dd9c86c56bace6251554eb19b9b8efc36036e1cb33970c9917a024e126a3"), looks := false }, kinds := [], alts := [], laidByText := true, laidKinds := [.data, .data], laidTests := true, laidLooks := .later }
def CheckSleepsCardSaid : Prop := Claim7.holds Tryd.pinned (.plain (OpenSpec.ofChange checkSleepsSpec)) checkSleepsCard

/-- THE SECOND FORM's CARD OF 'detentlaw17.CheckHelpers'. -/
def checkHelpersUptoCard : Claim7 := { stood := { row := checkHelpersUptoRow, standIns := [], harness := (true, "6478dd9c86c56bace6251554eb19b9b8efc36036e1cb33970c9917a024e126a3"), looks := false }, kinds := [], alts := [], laidByText := true, laidKinds := [.data, .data], laidTests := true, laidLooks := .later }
def CheckHelpersUptoCardSaid : Prop := Claim7.holds Tryd.pinned (.plain (OpenSpec.upto checkHelpersSpec)) checkHelpersUptoCard

/-- THE SECOND FORM's CARD OF 'detentlaw17.CheckNext'. -/
def checkNextUptoCard : Claim7 := { stood := { row := checkNextUptoRow, standIns := [], harness := (true, "6478dd9c86c56bace6251554eb19b9b8efc36036e1cb33970c9917a024e126a3"), looks := false }, kinds := [], alts := [], laidByText := true, laidKinds := [.data, .data], laidTests := true, laidLooks := .later }
def CheckNextUptoCardSaid : Prop := Claim7.holds Tryd.pinned (.plain (OpenSpec.upto checkNextSpec)) checkNextUptoCard

/-- THE SECOND FORM's CARD OF 'detentlaw17.CheckPlaces'. -/
def checkPlacesUptoCard : Claim7 := { stood := { row := checkPlacesUptoRow, standIns := [], harness := (true, "6478dd9c86c56bace6251554eb19b9b8efc36036e1cb33970c9917a024e126a3"), looks := false }, kinds := [], alts := [], laidByText := true, laidKinds := [.data, .data], laidTests := true, laidLooks := .later }
def CheckPlacesUptoCardSaid : Prop := Claim7.holds Tryd.pinned (.plain (OpenSpec.upto checkPlacesSpec)) checkPlacesUptoCard

/-- THE SECOND FORM's CARD OF 'detentlaw17.CheckStays'. -/
def checkStaysUptoCard : Claim7 := { stood := { row := checkStaysUptoRow, standIns := [], harness := (true, "6478dd9c86c56bace6251554eb19b9b8efc36036e1cb33970c9917a024e126a3"), looks := false }, kinds := [], alts := [], laidByText := true, laidKinds := [.data, .data], laidTests := true, laidLooks := .later }
def CheckStaysUptoCardSaid : Prop := Claim7.holds Tryd.pinned (.plain (OpenSpec.upto checkStaysSpec)) checkStaysUptoCard

/-- THE SECOND FORM's CARD OF 'detentlaw17.CheckSleeps'. -/
def checkSleepsUptoCard : Claim7 := { stood := { row := checkSleepsUptoRow, standIns := [], harness := (true, "6478dd9c86c56bace6251554eb19b9b8efc36036e1cb33970c9917a024e126a3"), looks := false }, kinds := [], alts := [], laidByText := true, laidKinds := [.data, .data], laidTests := true, laidLooks := .later }
def CheckSleepsUptoCardSaid : Prop := Claim7.holds Tryd.pinned (.plain (OpenSpec.upto checkSleepsSpec)) checkSleepsUptoCard
end Rows
end Go.Proofs.YtadogffllkompaaDoor
