/-
  NARROWER THAN 'FOR EVERY INPUT', by the rows' own cells (each row's printed sentence says how): CheckHelpers: laid · CheckNext: laid · CheckPlaces: laid · CheckStays: laid · CheckSleeps: laid.
  DERIVED. THE GIVEN ROWS OF THIS SEAT. 5 by the template 'for every input the law returns true; each argument reads behind the call as it read before'; 0 by the template 'total and deterministic' (their statements: YtadogffllkompaaDoorTotals.lean).
  GIVEN WITH THE SEED: the statements are not yours to turn. If you find one false, say at which input.
  Laid BY PROGRAM, IN A SANDBOX (cutbox-rows.mjs): the forced cells as the released guide's own fill.sh prints them over the translation 853ad574077197c8… (all of the seat's roots in one cut). By AI agents, Wed Nov 11 2026. No macro, syntax, notation, axiom, sorry.
-/
import Derived.Test.YtadogffllkompaaDoorChecked
import GoSem.Claim
import GoSem.ClaimJoined
import GoSem.ClaimMapViews
import Derived.JoinedTies
import Derived.KernelRfl
namespace Go.Proofs.YtadogffllkompaaDoor
/- THE CELL 'sum', in the pinned program and in every row, IS THE sha256 OF THE DUMP (.gsa) THAT YtadogffllkompaaDoorProg.lean LOADS. Nothing in Lean hashes anything: it is a label: what it is worth is what the hold of that sum in a sandbox is worth. -/
noncomputable def Tryd.pinned : Pinned := { name := "ytadogffllkompaadoor", sum := "853ad574077197c86a857c898d7360eb2fc05f073f37bbf2c4f714b843448535", checked := Tryd.checked }
namespace Rows
def none {H : Type} : Left H := { results := [], args := [] }

/- WHAT THE LISTED PACKAGE-LEVEL VARIABLES READ AS WHEN THE CALL BEGINS. Each datum BY PROGRAM (the guide's laid-datum.mjs) off the statement by which the dump's own 'gosem.cut.vars' lays the variable. In a bare row this is a premise. The card (YtadogffllkompaaDoorCards.lean) ties it to the program's text. -/
def laid_math_bits_deBruijn64tab {H : Type} : DataW H := .agg [.lit (.int .u8 0), .lit (.int .u8 1), .lit (.int .u8 56), .lit (.int .u8 2), .lit (.int .u8 57), .lit (.int .u8 49), .lit (.int .u8 28), .lit (.int .u8 3), .lit (.int .u8 61), .lit (.int .u8 58), .lit (.int .u8 42), .lit (.int .u8 50), .lit (.int .u8 38), .lit (.int .u8 29), .lit (.int .u8 17), .lit (.int .u8 4), .lit (.int .u8 62), .lit (.int .u8 47), .lit (.int .u8 59), .lit (.int .u8 36), .lit (.int .u8 45), .lit (.int .u8 43), .lit (.int .u8 51), .lit (.int .u8 22), .lit (.int .u8 53), .lit (.int .u8 39), .lit (.int .u8 33), .lit (.int .u8 30), .lit (.int .u8 24), .lit (.int .u8 18), .lit (.int .u8 12), .lit (.int .u8 5), .lit (.int .u8 63), .lit (.int .u8 55), .lit (.int .u8 48), .lit (.int .u8 27), .lit (.int .u8 60), .lit (.int .u8 41), .lit (.int .u8 37), .lit (.int .u8 16), .lit (.int .u8 46), .lit (.int .u8 35), .lit (.int .u8 44), .lit (.int .u8 21), .lit (.int .u8 52), .lit (.int .u8 32), .lit (.int .u8 23), .lit (.int .u8 11), .lit (.int .u8 54), .lit (.int .u8 26), .lit (.int .u8 40), .lit (.int .u8 15), .lit (.int .u8 34), .lit (.int .u8 20), .lit (.int .u8 31), .lit (.int .u8 10), .lit (.int .u8 25), .lit (.int .u8 14), .lit (.int .u8 19), .lit (.int .u8 9), .lit (.int .u8 13), .lit (.int .u8 8), .lit (.int .u8 7), .lit (.int .u8 6)]
def laid_detent_check_helpers {H : Type} : DataW H := .agg [.agg [.lit (.string []), .lit (.int .i64 0)], .agg [.lit (.string [110, 111, 119]), .lit (.int .i64 0)], .agg [.lit (.string [99, 112, 117]), .lit (.int .i64 0)], .agg [.lit (.string [102, 105, 110, 100]), .lit (.int .i64 2)], .agg [.lit (.string [112, 117, 116]), .lit (.int .i64 4)], .agg [.lit (.string [100, 114, 111, 112]), .lit (.int .i64 2)], .agg [.lit (.string [105, 110, 105, 116]), .lit (.int .i64 1)], .agg [.lit (.string [99, 97, 108, 108, 98, 97, 99, 107]), .lit (.int .i64 2)], .agg [.lit (.string [115, 116, 97, 114, 116]), .lit (.int .i64 4)], .agg [.lit (.string [99, 97, 110, 99, 101, 108]), .lit (.int .i64 1)], .agg [.lit (.string [115, 116, 111, 112]), .lit (.int .i64 1)], .agg [.lit (.string [119, 111, 114, 107]), .lit (.int .i64 2)], .agg [.lit (.string [113, 117, 101, 117, 101]), .lit (.int .i64 1)], .agg [.lit (.string [99, 111, 112, 121, 105, 110]), .lit (.int .i64 3)], .agg [.lit (.string [99, 111, 112, 121, 111, 117, 116]), .lit (.int .i64 3)], .agg [.lit (.string [101, 109, 105, 116]), .lit (.int .i64 1)], .agg [.lit (.string [112, 97, 117, 115, 101]), .lit (.int .i64 0)]]

/-- 'detentlaw17.CheckHelpers': WHATEVER THE INPUT: true; the input reads as it did. -/
def checkHelpersSpec : ChangeSpec := { name := "checkHelpers", fn := fun _ => fun
  | [d] => { results := [.lit (.bool true)], args := [d] }
  | _ => none }
def checkHelpersRow : OpenClaim := { program := "ytadogffllkompaadoor", sum := "853ad574077197c86a857c898d7360eb2fc05f073f37bbf2c4f714b843448535", func := "detent/detentlaw17.CheckHelpers", spec := "checkHelpers", unfollowed := true, recurses := true, named := ["detent/check.helpers", "math/bits.deBruijn64tab"], apart := false, laid := [("math/bits.deBruijn64tab", laid_math_bits_deBruijn64tab), ("detent/check.helpers", laid_detent_check_helpers)] }
def CheckHelpersSaid : Prop := checkHelpersRow.holds Tryd.pinned (OpenSpec.ofChange checkHelpersSpec)

/-- ITS FALSE NEIGHBOUR: 'it returns false'. Refute it at one input. -/
def checkHelpersWrong : ChangeSpec := { name := "checkHelpers", fn := fun _ => fun
  | [d] => { results := [.lit (.bool false)], args := [d] }
  | _ => none }
def CheckHelpersWrongFalsely : Prop := checkHelpersRow.holds Tryd.pinned (OpenSpec.ofChange checkHelpersWrong)

/-- 'detentlaw17.CheckNext': WHATEVER THE INPUT: true; the input reads as it did. -/
def checkNextSpec : ChangeSpec := { name := "checkNext", fn := fun _ => fun
  | [d1, d2] => { results := [.lit (.bool true)], args := [d1, d2] }
  | _ => none }
def checkNextRow : OpenClaim := { program := "ytadogffllkompaadoor", sum := "853ad574077197c86a857c898d7360eb2fc05f073f37bbf2c4f714b843448535", func := "detent/detentlaw17.CheckNext", spec := "checkNext", unfollowed := true, recurses := true, named := ["math/bits.deBruijn64tab", "detent/check.helpers"], apart := false, laid := [("math/bits.deBruijn64tab", laid_math_bits_deBruijn64tab), ("detent/check.helpers", laid_detent_check_helpers)] }
def CheckNextSaid : Prop := checkNextRow.holds Tryd.pinned (OpenSpec.ofChange checkNextSpec)

/-- ITS FALSE NEIGHBOUR: 'it returns false'. Refute it at one input. -/
def checkNextWrong : ChangeSpec := { name := "checkNext", fn := fun _ => fun
  | [d1, d2] => { results := [.lit (.bool false)], args := [d1, d2] }
  | _ => none }
def CheckNextWrongFalsely : Prop := checkNextRow.holds Tryd.pinned (OpenSpec.ofChange checkNextWrong)

/-- 'detentlaw17.CheckPlaces': WHATEVER THE INPUT: true; the input reads as it did. -/
def checkPlacesSpec : ChangeSpec := { name := "checkPlaces", fn := fun _ => fun
  | [d1, d2] => { results := [.lit (.bool true)], args := [d1, d2] }
  | _ => none }
def checkPlacesRow : OpenClaim := { program := "ytadogffllkompaadoor", sum := "853ad574077197c86a857c898d7360eb2fc05f073f37bbf2c4f714b843448535", func := "detent/detentlaw17.CheckPlaces", spec := "checkPlaces", unfollowed := true, recurses := true, named := ["math/bits.deBruijn64tab", "detent/check.helpers"], apart := false, laid := [("math/bits.deBruijn64tab", laid_math_bits_deBruijn64tab), ("detent/check.helpers", laid_detent_check_helpers)] }
def CheckPlacesSaid : Prop := checkPlacesRow.holds Tryd.pinned (OpenSpec.ofChange checkPlacesSpec)

/-- ITS FALSE NEIGHBOUR: 'it returns false'. Refute it at one input. -/
def checkPlacesWrong : ChangeSpec := { name := "checkPlaces", fn := fun _ => fun
  | [d1, d2] => { results := [.lit (.bool false)], args := [d1, d2] }
  | _ => none }
def CheckPlacesWrongFalsely : Prop := checkPlacesRow.holds Tryd.pinned (OpenSpec.ofChange checkPlacesWrong)

/-- 'detentlaw17.CheckStays': WHATEVER THE INPUT: true; the input reads as it did. -/
def checkStaysSpec : ChangeSpec := { name := "checkStays", fn := fun _ => fun
  | [d1, d2, d3] => { results := [.lit (.bool true)], args := [d1, d2, d3] }
  | _ => none }
def checkStaysRow : OpenClaim := { program := "ytadogffllkompaadoor", sum := "853ad574077197c86a857c898d7360eb2fc05f073f37bbf2c4f714b843448535", func := "detent/detentlaw17.CheckStays", spec := "checkStays", unfollowed := true, recurses := true, named := ["math/bits.deBruijn64tab", "detent/check.helpers"], apart := false, laid := [("math/bits.deBruijn64tab", laid_math_bits_deBruijn64tab), ("detent/check.helpers", laid_detent_check_helpers)] }
def CheckStaysSaid : Prop := checkStaysRow.holds Tryd.pinned (OpenSpec.ofChange checkStaysSpec)

/-- ITS FALSE NEIGHBOUR: 'it returns false'. Refute it at one input. -/
def checkStaysWrong : ChangeSpec := { name := "checkStays", fn := fun _ => fun
  | [d1, d2, d3] => { results := [.lit (.bool false)], args := [d1, d2, d3] }
  | _ => none }
def CheckStaysWrongFalsely : Prop := checkStaysRow.holds Tryd.pinned (OpenSpec.ofChange checkStaysWrong)

/-- 'detentlaw17.CheckSleeps': WHATEVER THE INPUT: true; the input reads as it did. -/
def checkSleepsSpec : ChangeSpec := { name := "checkSleeps", fn := fun _ => fun
  | [d] => { results := [.lit (.bool true)], args := [d] }
  | _ => none }
def checkSleepsRow : OpenClaim := { program := "ytadogffllkompaadoor", sum := "853ad574077197c86a857c898d7360eb2fc05f073f37bbf2c4f714b843448535", func := "detent/detentlaw17.CheckSleeps", spec := "checkSleeps", unfollowed := true, recurses := true, named := ["math/bits.deBruijn64tab", "detent/check.helpers"], apart := false, laid := [("math/bits.deBruijn64tab", laid_math_bits_deBruijn64tab), ("detent/check.helpers", laid_detent_check_helpers)] }
def CheckSleepsSaid : Prop := checkSleepsRow.holds Tryd.pinned (OpenSpec.ofChange checkSleepsSpec)

/-- ITS FALSE NEIGHBOUR: 'it returns false'. Refute it at one input. -/
def checkSleepsWrong : ChangeSpec := { name := "checkSleeps", fn := fun _ => fun
  | [d] => { results := [.lit (.bool false)], args := [d] }
  | _ => none }
def CheckSleepsWrongFalsely : Prop := checkSleepsRow.holds Tryd.pinned (OpenSpec.ofChange checkSleepsWrong)

/- THE SECOND FORM. 'bulk': how many values and letters a reading holds, each counted each time it is reached (what is shared counts as often as it is met; a slice's spare places count too). A statement '..UptoSaid' is the law's where the arguments, and the package variables that the reading takes, are together of bulk at most 1048576: NARROWER than '..Said'. Prove '..Said' where nothing that the law and all that it calls make is longer than what came in: it says more and counts as full. Else prove '..UptoSaid'. A law counts once. -/
mutual
def uptoBulk {H : Type} : DataW H → Nat
  | .lit (.string bytes) => bytes.length + 1
  | .lit _ => 1
  | .nil => 1
  | .ptr d => uptoBulk d + 1
  | .slice elems spare => uptoBulkAll elems + uptoBulkAll spare + 1
  | .agg parts => uptoBulkAll parts + 1
  | .iface _ d => uptoBulk d + 1
  | .map entries => uptoBulkEntries entries + 1
  | .held _ => 1
def uptoBulkAll {H : Type} : List (DataW H) → Nat
  | [] => 0
  | d :: r => uptoBulk d + uptoBulkAll r
def uptoBulkEntries {H : Type} : List (Lit × DataW H) → Nat
  | [] => 0
  | x :: r => uptoBulkEntry x + uptoBulkEntries r
def uptoBulkEntry {H : Type} : Lit × DataW H → Nat
  | (.string bytes, d) => bytes.length + uptoBulk d + 1
  | (_, d) => uptoBulk d + 1
 end
def uptoSmall : (H : Type) → List (DataW H) → Bool := fun _ ds => decide (uptoBulkAll ds ≤ 1048576)
def OpenSpec.upto (s : _root_.Go.ChangeSpec) : _root_.Go.OpenSpec := { _root_.Go.OpenSpec.ofChange s with cond := some uptoSmall }

/-- 'detentlaw17.CheckHelpers', WHERE WHAT IT READS IS OF BULK AT MOST 1048576: true; the input reads as it did. -/
def checkHelpersUptoRow : OpenClaim := { program := "ytadogffllkompaadoor", sum := "853ad574077197c86a857c898d7360eb2fc05f073f37bbf2c4f714b843448535", func := "detent/detentlaw17.CheckHelpers", spec := "checkHelpers", unfollowed := true, recurses := true, named := ["detent/check.helpers", "math/bits.deBruijn64tab"], apart := false, laid := [("math/bits.deBruijn64tab", laid_math_bits_deBruijn64tab), ("detent/check.helpers", laid_detent_check_helpers)], narrowed := true }
def CheckHelpersUptoSaid : Prop := checkHelpersUptoRow.holds Tryd.pinned (OpenSpec.upto checkHelpersSpec)

/-- 'detentlaw17.CheckNext', WHERE WHAT IT READS IS OF BULK AT MOST 1048576: true; the input reads as it did. -/
def checkNextUptoRow : OpenClaim := { program := "ytadogffllkompaadoor", sum := "853ad574077197c86a857c898d7360eb2fc05f073f37bbf2c4f714b843448535", func := "detent/detentlaw17.CheckNext", spec := "checkNext", unfollowed := true, recurses := true, named := ["math/bits.deBruijn64tab", "detent/check.helpers"], apart := false, laid := [("math/bits.deBruijn64tab", laid_math_bits_deBruijn64tab), ("detent/check.helpers", laid_detent_check_helpers)], narrowed := true }
def CheckNextUptoSaid : Prop := checkNextUptoRow.holds Tryd.pinned (OpenSpec.upto checkNextSpec)

/-- 'detentlaw17.CheckPlaces', WHERE WHAT IT READS IS OF BULK AT MOST 1048576: true; the input reads as it did. -/
def checkPlacesUptoRow : OpenClaim := { program := "ytadogffllkompaadoor", sum := "853ad574077197c86a857c898d7360eb2fc05f073f37bbf2c4f714b843448535", func := "detent/detentlaw17.CheckPlaces", spec := "checkPlaces", unfollowed := true, recurses := true, named := ["math/bits.deBruijn64tab", "detent/check.helpers"], apart := false, laid := [("math/bits.deBruijn64tab", laid_math_bits_deBruijn64tab), ("detent/check.helpers", laid_detent_check_helpers)], narrowed := true }
def CheckPlacesUptoSaid : Prop := checkPlacesUptoRow.holds Tryd.pinned (OpenSpec.upto checkPlacesSpec)

/-- 'detentlaw17.CheckStays', WHERE WHAT IT READS IS OF BULK AT MOST 1048576: true; the input reads as it did. -/
def checkStaysUptoRow : OpenClaim := { program := "ytadogffllkompaadoor", sum := "853ad574077197c86a857c898d7360eb2fc05f073f37bbf2c4f714b843448535", func := "detent/detentlaw17.CheckStays", spec := "checkStays", unfollowed := true, recurses := true, named := ["math/bits.deBruijn64tab", "detent/check.helpers"], apart := false, laid := [("math/bits.deBruijn64tab", laid_math_bits_deBruijn64tab), ("detent/check.helpers", laid_detent_check_helpers)], narrowed := true }
def CheckStaysUptoSaid : Prop := checkStaysUptoRow.holds Tryd.pinned (OpenSpec.upto checkStaysSpec)

/-- 'detentlaw17.CheckSleeps', WHERE WHAT IT READS IS OF BULK AT MOST 1048576: true; the input reads as it did. -/
def checkSleepsUptoRow : OpenClaim := { program := "ytadogffllkompaadoor", sum := "853ad574077197c86a857c898d7360eb2fc05f073f37bbf2c4f714b843448535", func := "detent/detentlaw17.CheckSleeps", spec := "checkSleeps", unfollowed := true, recurses := true, named := ["math/bits.deBruijn64tab", "detent/check.helpers"], apart := false, laid := [("math/bits.deBruijn64tab", laid_math_bits_deBruijn64tab), ("detent/check.helpers", laid_detent_check_helpers)], narrowed := true }
def CheckSleepsUptoSaid : Prop := checkSleepsUptoRow.holds Tryd.pinned (OpenSpec.upto checkSleepsSpec)

end Rows
end Go.Proofs.YtadogffllkompaaDoor
