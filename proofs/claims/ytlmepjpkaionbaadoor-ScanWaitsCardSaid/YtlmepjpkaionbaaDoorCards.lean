/-
  DERIVED. GIVEN WITH THE SEED: THE CARDS: each row of YtlmepjpkaionbaaDoorRows.lean that lists a variable, with what it lists TIED to the program's text (the seventh form; the later family's looks); each row that meets fmt, with fmt's text TOLD by the authors' own Lean function (tested against real Go, not proved from fmt's source: count such statements apart). THE CARD IS WHAT COUNTS. Prove the row's statement (the work); the ties are given (YtlmepjpkaionbaaDoorTie.lean); close each card by the builder's one call (the guide's Derived/Test/ToyasCard.lean, 'card_holds'). Laid BY PROGRAM, IN A SANDBOX (cutbox-door.mjs). By AI agents, Wed Nov 11 2026. No macro, syntax, notation, axiom, sorry.
-/
import Derived.Test.YtlmepjpkaionbaaDoorRows
import GoSem.ClaimSeven
namespace Go.Proofs.YtlmepjpkaionbaaDoor
namespace Rows

/-- THE TIED CARD OF 'detentlaw10.ScanPlays'. -/
def scanPlaysCard : Claim7 := { stood := { row := scanPlaysRow, standIns := [], harness := (true, "7653c15f8b79c4acc95017b576548844950e62e1c93dd3b064bc94ffd98318fe"), looks := false }, kinds := [], alts := [], laidByText := true, laidKinds := [.data], laidTests := true, laidLooks := .later }
def ScanPlaysCardSaid : Prop := Claim7.holds Tryd.pinned (.plain (OpenSpec.ofChange scanPlaysSpec)) scanPlaysCard

/-- THE TIED CARD OF 'detentlaw10.ScanWaits'. -/
def scanWaitsCard : Claim7 := { stood := { row := scanWaitsRow, standIns := [], harness := (true, "7653c15f8b79c4acc95017b576548844950e62e1c93dd3b064bc94ffd98318fe"), looks := false }, kinds := [], alts := [], laidByText := true, laidKinds := [.data], laidTests := true, laidLooks := .later }
def ScanWaitsCardSaid : Prop := Claim7.holds Tryd.pinned (.plain (OpenSpec.ofChange scanWaitsSpec)) scanWaitsCard

/-- THE TIED CARD OF 'detentlaw10.ScanEnds'. -/
def scanEndsCard : Claim7 := { stood := { row := scanEndsRow, standIns := [], harness := (true, "7653c15f8b79c4acc95017b576548844950e62e1c93dd3b064bc94ffd98318fe"), looks := false }, kinds := [], alts := [], laidByText := true, laidKinds := [.data], laidTests := true, laidLooks := .later }
def ScanEndsCardSaid : Prop := Claim7.holds Tryd.pinned (.plain (OpenSpec.ofChange scanEndsSpec)) scanEndsCard

/-- THE TIED CARD OF 'detentlaw10.ScanNil'. -/
def scanNilCard : Claim7 := { stood := { row := scanNilRow, standIns := [], harness := (true, "7653c15f8b79c4acc95017b576548844950e62e1c93dd3b064bc94ffd98318fe"), looks := false }, kinds := [], alts := [], laidByText := true, laidKinds := [.data], laidTests := true, laidLooks := .later }
def ScanNilCardSaid : Prop := Claim7.holds Tryd.pinned (.plain (OpenSpec.ofChange scanNilSpec)) scanNilCard

/-- THE SECOND FORM's CARD OF 'detentlaw10.ScanPlays'. -/
def scanPlaysUptoCard : Claim7 := { stood := { row := scanPlaysUptoRow, standIns := [], harness := (true, "7653c15f8b79c4acc95017b576548844950e62e1c93dd3b064bc94ffd98318fe"), looks := false }, kinds := [], alts := [], laidByText := true, laidKinds := [.data], laidTests := true, laidLooks := .later }
def ScanPlaysUptoCardSaid : Prop := Claim7.holds Tryd.pinned (.plain (OpenSpec.upto scanPlaysSpec)) scanPlaysUptoCard

/-- THE SECOND FORM's CARD OF 'detentlaw10.ScanWaits'. -/
def scanWaitsUptoCard : Claim7 := { stood := { row := scanWaitsUptoRow, standIns := [], harness := (true, "7653c15f8b79c4acc95017b576548844950e62e1c93dd3b064bc94ffd98318fe"), looks := false }, kinds := [], alts := [], laidByText := true, laidKinds := [.data], laidTests := true, laidLooks := .later }
def ScanWaitsUptoCardSaid : Prop := Claim7.holds Tryd.pinned (.plain (OpenSpec.upto scanWaitsSpec)) scanWaitsUptoCard

/-- THE SECOND FORM's CARD OF 'detentlaw10.ScanEnds'. -/
def scanEndsUptoCard : Claim7 := { stood := { row := scanEndsUptoRow, standIns := [], harness := (true, "7653c15f8b79c4acc95017b576548844950e62e1c93dd3b064bc94ffd98318fe"), looks := false }, kinds := [], alts := [], laidByText := true, laidKinds := [.data], laidTests := true, laidLooks := .later }
def ScanEndsUptoCardSaid : Prop := Claim7.holds Tryd.pinned (.plain (OpenSpec.upto scanEndsSpec)) scanEndsUptoCard

/-- THE SECOND FORM's CARD OF 'detentlaw10.ScanNil'. -/
def scanNilUptoCard : Claim7 := { stood := { row := scanNilUptoRow, standIns := [], harness := (true, "7653c15f8b79c4acc95017b576548844950e62e1c93dd3b064bc94ffd98318fe"), looks := false }, kinds := [], alts := [], laidByText := true, laidKinds := [.data], laidTests := true, laidLooks := .later }
def ScanNilUptoCardSaid : Prop := Claim7.holds Tryd.pinned (.plain (OpenSpec.upto scanNilSpec)) scanNilUptoCard
end Rows
end Go.Proofs.YtlmepjpkaionbaaDoor
