/-
  DERIVED. GIVEN WITH THE SEED: THE CARDS: each row of YtcjemidflbfljaaDoorRows.lean that lists a variable, with what it lists TIED to the program's text (the seventh form; the later family's looks); each row that meets fmt, with fmt's text TOLD by the authors' own Lean function (tested against real Go, not proved from fmt's source: count such statements apart). THE CARD IS WHAT COUNTS. Prove the row's statement (the work); the ties are given (YtcjemidflbfljaaDoorTie.lean); close each card by the builder's one call (the guide's Derived/Test/ToyasCard.lean, 'card_holds'). Laid BY PROGRAM, IN A SANDBOX (cutbox-door.mjs). By AI agents, Wed Nov 11 2026. No macro, syntax, notation, axiom, sorry.
-/
import Derived.Test.YtcjemidflbfljaaDoorRows
import GoSem.ClaimSeven
namespace Go.Proofs.YtcjemidflbfljaaDoor
namespace Rows

/-- THE TIED CARD OF 'detentlaw07.WheelOnce'. -/
def wheelOnceCard : Claim7 := { stood := { row := wheelOnceRow, standIns := [], harness := (true, "882f8405357ec51a08827343e1713762e69ae45476eb502c6a7ee942ed60d8d0"), looks := false }, kinds := [], alts := [], laidByText := true, laidKinds := [.data], laidTests := true, laidLooks := .later }
def WheelOnceCardSaid : Prop := Claim7.holds Tryd.pinned (.plain (OpenSpec.ofChange wheelOnceSpec)) wheelOnceCard

/-- THE TIED CARD OF 'detentlaw07.WheelSteps'. -/
def wheelStepsCard : Claim7 := { stood := { row := wheelStepsRow, standIns := [], harness := (true, "882f8405357ec51a08827343e1713762e69ae45476eb502c6a7ee942ed60d8d0"), looks := false }, kinds := [], alts := [], laidByText := true, laidKinds := [.data], laidTests := true, laidLooks := .later }
def WheelStepsCardSaid : Prop := Claim7.holds Tryd.pinned (.plain (OpenSpec.ofChange wheelStepsSpec)) wheelStepsCard

/-- THE TIED CARD OF 'detentlaw07.WheelNext'. -/
def wheelNextCard : Claim7 := { stood := { row := wheelNextRow, standIns := [], harness := (true, "882f8405357ec51a08827343e1713762e69ae45476eb502c6a7ee942ed60d8d0"), looks := false }, kinds := [], alts := [], laidByText := true, laidKinds := [.data], laidTests := true, laidLooks := .later }
def WheelNextCardSaid : Prop := Claim7.holds Tryd.pinned (.plain (OpenSpec.ofChange wheelNextSpec)) wheelNextCard

/-- THE TIED CARD OF 'detentlaw07.WheelLimits'. -/
def wheelLimitsCard : Claim7 := { stood := { row := wheelLimitsRow, standIns := [], harness := (true, "882f8405357ec51a08827343e1713762e69ae45476eb502c6a7ee942ed60d8d0"), looks := false }, kinds := [], alts := [], laidByText := true, laidKinds := [.data], laidTests := true, laidLooks := .later }
def WheelLimitsCardSaid : Prop := Claim7.holds Tryd.pinned (.plain (OpenSpec.ofChange wheelLimitsSpec)) wheelLimitsCard

/-- THE TIED CARD OF 'detentlaw07.WheelNil'. -/
def wheelNilCard : Claim7 := { stood := { row := wheelNilRow, standIns := [], harness := (true, "882f8405357ec51a08827343e1713762e69ae45476eb502c6a7ee942ed60d8d0"), looks := false }, kinds := [], alts := [], laidByText := true, laidKinds := [.data], laidTests := true, laidLooks := .later }
def WheelNilCardSaid : Prop := Claim7.holds Tryd.pinned (.plain (OpenSpec.ofChange wheelNilSpec)) wheelNilCard

/-- THE SECOND FORM's CARD OF 'detentlaw07.WheelOnce'. -/
def wheelOnceUptoCard : Claim7 := { stood := { row := wheelOnceUptoRow, standIns := [], harness := (true, "882f8405357ec51a08827343e1713762e69ae45476eb502c6a7ee942ed60d8d0"), looks := false }, kinds := [], alts := [], laidByText := true, laidKinds := [.data], laidTests := true, laidLooks := .later }
def WheelOnceUptoCardSaid : Prop := Claim7.holds Tryd.pinned (.plain (OpenSpec.upto wheelOnceSpec)) wheelOnceUptoCard

/-- THE SECOND FORM's CARD OF 'detentlaw07.WheelSteps'. -/
def wheelStepsUptoCard : Claim7 := { stood := { row := wheelStepsUptoRow, standIns := [], harness := (true, "882f8405357ec51a08827343e1713762e69ae45476eb502c6a7ee942ed60d8d0"), looks := false }, kinds := [], alts := [], laidByText := true, laidKinds := [.data], laidTests := true, laidLooks := .later }
def WheelStepsUptoCardSaid : Prop := Claim7.holds Tryd.pinned (.plain (OpenSpec.upto wheelStepsSpec)) wheelStepsUptoCard

/-- THE SECOND FORM's CARD OF 'detentlaw07.WheelNext'. -/
def wheelNextUptoCard : Claim7 := { stood := { row := wheelNextUptoRow, standIns := [], harness := (true, "882f8405357ec51a08827343e1713762e69ae45476eb502c6a7ee942ed60d8d0"), looks := false }, kinds := [], alts := [], laidByText := true, laidKinds := [.data], laidTests := true, laidLooks := .later }
def WheelNextUptoCardSaid : Prop := Claim7.holds Tryd.pinned (.plain (OpenSpec.upto wheelNextSpec)) wheelNextUptoCard

/-- THE SECOND FORM's CARD OF 'detentlaw07.WheelLimits'. -/
def wheelLimitsUptoCard : Claim7 := { stood := { row := wheelLimitsUptoRow, standIns := [], harness := (true, "882f8405357ec51a08827343e1713762e69ae45476eb502c6a7ee942ed60d8d0"), looks := false }, kinds := [], alts := [], laidByText := true, laidKinds := [.data], laidTests := true, laidLooks := .later }
def WheelLimitsUptoCardSaid : Prop := Claim7.holds Tryd.pinned (.plain (OpenSpec.upto wheelLimitsSpec)) wheelLimitsUptoCard

/-- THE SECOND FORM's CARD OF 'detentlaw07.WheelNil'. -/
def wheelNilUptoCard : Claim7 := { stood := { row := wheelNilUptoRow, standIns := [], harness := (true, "882f8405357ec51a08827343e1713762e69ae45476eb502c6a7ee942ed60d8d0"), looks := false }, kinds := [], alts := [], laidByText := true, laidKinds := [.data], laidTests := true, laidLooks := .later }
def WheelNilUptoCardSaid : Prop := Claim7.holds Tryd.pinned (.plain (OpenSpec.upto wheelNilSpec)) wheelNilUptoCard
end Rows
end Go.Proofs.YtcjemidflbfljaaDoor
