/-
  NARROWER THAN 'FOR EVERY INPUT', by the rows' own cells (each row's printed sentence says how): VmSteps: laid · VmEnds: laid · VmBytes: laid · VmNil: laid.
  DERIVED. THE GIVEN ROWS OF THIS SEAT. 4 by the template 'for every input the law returns true; each argument reads behind the call as it read before'; 0 by the template 'total and deterministic' (their statements: YtpbdmlipdfdblaaDoorTotals.lean).
  GIVEN WITH THE SEED: the statements are not yours to turn. If you find one false, say at which input.
  Laid BY PROGRAM, IN A SANDBOX (cutbox-rows.mjs): the forced cells as the released guide's own fill.sh prints them over the translation fcbf3337a3367d07… (all of the seat's roots in one cut). By AI agents, Wed Nov 11 2026. No macro, syntax, notation, axiom, sorry.
-/
import Derived.Test.YtpbdmlipdfdblaaDoorChecked
import GoSem.Claim
import GoSem.ClaimJoined
import GoSem.ClaimMapViews
import Derived.JoinedTies
import Derived.KernelRfl
namespace Go.Proofs.YtpbdmlipdfdblaaDoor
/- THE CELL 'sum', in the pinned program and in every row, IS THE sha256 OF THE DUMP (.gsa) THAT YtpbdmlipdfdblaaDoorProg.lean LOADS. Nothing in Lean hashes anything: it is a label: what it is worth is what the hold of that sum in a sandbox is worth. -/
noncomputable def Tryd.pinned : Pinned := { name := "ytpbdmlipdfdblaadoor", sum := "fcbf3337a3367d07db360e67407ee807845af9f51981b1fe49dfa697450aff82", checked := Tryd.checked }
namespace Rows
def none {H : Type} : Left H := { results := [], args := [] }

/- WHAT THE LISTED PACKAGE-LEVEL VARIABLES READ AS WHEN THE CALL BEGINS. Each datum BY PROGRAM (the guide's laid-datum.mjs) off the statement by which the dump's own 'gosem.cut.vars' lays the variable. In a bare row this is a premise. The card (YtpbdmlipdfdblaaDoorCards.lean) ties it to the program's text. -/
def laid_math_bits_deBruijn64tab {H : Type} : DataW H := .agg [.lit (.int .u8 0), .lit (.int .u8 1), .lit (.int .u8 56), .lit (.int .u8 2), .lit (.int .u8 57), .lit (.int .u8 49), .lit (.int .u8 28), .lit (.int .u8 3), .lit (.int .u8 61), .lit (.int .u8 58), .lit (.int .u8 42), .lit (.int .u8 50), .lit (.int .u8 38), .lit (.int .u8 29), .lit (.int .u8 17), .lit (.int .u8 4), .lit (.int .u8 62), .lit (.int .u8 47), .lit (.int .u8 59), .lit (.int .u8 36), .lit (.int .u8 45), .lit (.int .u8 43), .lit (.int .u8 51), .lit (.int .u8 22), .lit (.int .u8 53), .lit (.int .u8 39), .lit (.int .u8 33), .lit (.int .u8 30), .lit (.int .u8 24), .lit (.int .u8 18), .lit (.int .u8 12), .lit (.int .u8 5), .lit (.int .u8 63), .lit (.int .u8 55), .lit (.int .u8 48), .lit (.int .u8 27), .lit (.int .u8 60), .lit (.int .u8 41), .lit (.int .u8 37), .lit (.int .u8 16), .lit (.int .u8 46), .lit (.int .u8 35), .lit (.int .u8 44), .lit (.int .u8 21), .lit (.int .u8 52), .lit (.int .u8 32), .lit (.int .u8 23), .lit (.int .u8 11), .lit (.int .u8 54), .lit (.int .u8 26), .lit (.int .u8 40), .lit (.int .u8 15), .lit (.int .u8 34), .lit (.int .u8 20), .lit (.int .u8 31), .lit (.int .u8 10), .lit (.int .u8 25), .lit (.int .u8 14), .lit (.int .u8 19), .lit (.int .u8 9), .lit (.int .u8 13), .lit (.int .u8 8), .lit (.int .u8 7), .lit (.int .u8 6)]
def laid_detent_check_helpers {H : Type} : DataW H := .agg [.agg [.lit (.string []), .lit (.int .i64 0)], .agg [.lit (.string [110, 111, 119]), .lit (.int .i64 0)], .agg [.lit (.string [99, 112, 117]), .lit (.int .i64 0)], .agg [.lit (.string [102, 105, 110, 100]), .lit (.int .i64 2)], .agg [.lit (.string [112, 117, 116]), .lit (.int .i64 4)], .agg [.lit (.string [100, 114, 111, 112]), .lit (.int .i64 2)], .agg [.lit (.string [105, 110, 105, 116]), .lit (.int .i64 1)], .agg [.lit (.string [99, 97, 108, 108, 98, 97, 99, 107]), .lit (.int .i64 2)], .agg [.lit (.string [115, 116, 97, 114, 116]), .lit (.int .i64 4)], .agg [.lit (.string [99, 97, 110, 99, 101, 108]), .lit (.int .i64 1)], .agg [.lit (.string [115, 116, 111, 112]), .lit (.int .i64 1)], .agg [.lit (.string [119, 111, 114, 107]), .lit (.int .i64 2)], .agg [.lit (.string [113, 117, 101, 117, 101]), .lit (.int .i64 1)], .agg [.lit (.string [99, 111, 112, 121, 105, 110]), .lit (.int .i64 3)], .agg [.lit (.string [99, 111, 112, 121, 111, 117, 116]), .lit (.int .i64 3)], .agg [.lit (.string [101, 109, 105, 116]), .lit (.int .i64 1)], .agg [.lit (.string [112, 97, 117, 115, 101]), .lit (.int .i64 0)]]

/-- 'detentlaw19.VmSteps': WHATEVER THE INPUT: true; the input reads as it did. -/
def vmStepsSpec : ChangeSpec := { name := "vmSteps", fn := fun _ => fun
  | [d1, d2, d3, d4, d5] => { results := [.lit (.bool true)], args := [d1, d2, d3, d4, d5] }
  | _ => none }
def vmStepsRow : OpenClaim := { program := "ytpbdmlipdfdblaadoor", sum := "fcbf3337a3367d07db360e67407ee807845af9f51981b1fe49dfa697450aff82", func := "detent/detentlaw19.VmSteps", spec := "vmSteps", unfollowed := true, recurses := true, named := ["math/bits.deBruijn64tab", "detent/check.helpers"], apart := false, laid := [("math/bits.deBruijn64tab", laid_math_bits_deBruijn64tab), ("detent/check.helpers", laid_detent_check_helpers)] }
def VmStepsSaid : Prop := vmStepsRow.holds Tryd.pinned (OpenSpec.ofChange vmStepsSpec)

/-- ITS FALSE NEIGHBOUR: 'it returns false'. Refute it at one input. -/
def vmStepsWrong : ChangeSpec := { name := "vmSteps", fn := fun _ => fun
  | [d1, d2, d3, d4, d5] => { results := [.lit (.bool false)], args := [d1, d2, d3, d4, d5] }
  | _ => none }
def VmStepsWrongFalsely : Prop := vmStepsRow.holds Tryd.pinned (OpenSpec.ofChange vmStepsWrong)

/-- 'detentlaw19.VmEnds': WHATEVER THE INPUT: true; the input reads as it did. -/
def vmEndsSpec : ChangeSpec := { name := "vmEnds", fn := fun _ => fun
  | [d1, d2, d3] => { results := [.lit (.bool true)], args := [d1, d2, d3] }
  | _ => none }
def vmEndsRow : OpenClaim := { program := "ytpbdmlipdfdblaadoor", sum := "fcbf3337a3367d07db360e67407ee807845af9f51981b1fe49dfa697450aff82", func := "detent/detentlaw19.VmEnds", spec := "vmEnds", unfollowed := true, recurses := true, named := ["math/bits.deBruijn64tab", "detent/check.helpers"], apart := false, laid := [("math/bits.deBruijn64tab", laid_math_bits_deBruijn64tab), ("detent/check.helpers", laid_detent_check_helpers)] }
def VmEndsSaid : Prop := vmEndsRow.holds Tryd.pinned (OpenSpec.ofChange vmEndsSpec)

/-- ITS FALSE NEIGHBOUR: 'it returns false'. Refute it at one input. -/
def vmEndsWrong : ChangeSpec := { name := "vmEnds", fn := fun _ => fun
  | [d1, d2, d3] => { results := [.lit (.bool false)], args := [d1, d2, d3] }
  | _ => none }
def VmEndsWrongFalsely : Prop := vmEndsRow.holds Tryd.pinned (OpenSpec.ofChange vmEndsWrong)

/-- 'detentlaw19.VmBytes': WHATEVER THE INPUT: true; the input reads as it did. -/
def vmBytesSpec : ChangeSpec := { name := "vmBytes", fn := fun _ => fun
  | [d1, d2, d3] => { results := [.lit (.bool true)], args := [d1, d2, d3] }
  | _ => none }
def vmBytesRow : OpenClaim := { program := "ytpbdmlipdfdblaadoor", sum := "fcbf3337a3367d07db360e67407ee807845af9f51981b1fe49dfa697450aff82", func := "detent/detentlaw19.VmBytes", spec := "vmBytes", unfollowed := true, recurses := true, named := ["math/bits.deBruijn64tab", "detent/check.helpers"], apart := false, laid := [("math/bits.deBruijn64tab", laid_math_bits_deBruijn64tab), ("detent/check.helpers", laid_detent_check_helpers)] }
def VmBytesSaid : Prop := vmBytesRow.holds Tryd.pinned (OpenSpec.ofChange vmBytesSpec)

/-- ITS FALSE NEIGHBOUR: 'it returns false'. Refute it at one input. -/
def vmBytesWrong : ChangeSpec := { name := "vmBytes", fn := fun _ => fun
  | [d1, d2, d3] => { results := [.lit (.bool false)], args := [d1, d2, d3] }
  | _ => none }
def VmBytesWrongFalsely : Prop := vmBytesRow.holds Tryd.pinned (OpenSpec.ofChange vmBytesWrong)

/-- 'detentlaw19.VmNil': WHATEVER THE INPUT: true; the input reads as it did. -/
def vmNilSpec : ChangeSpec := { name := "vmNil", fn := fun _ => fun
  | [d1, d2, d3] => { results := [.lit (.bool true)], args := [d1, d2, d3] }
  | _ => none }
def vmNilRow : OpenClaim := { program := "ytpbdmlipdfdblaadoor", sum := "fcbf3337a3367d07db360e67407ee807845af9f51981b1fe49dfa697450aff82", func := "detent/detentlaw19.VmNil", spec := "vmNil", unfollowed := true, recurses := true, named := ["math/bits.deBruijn64tab", "detent/check.helpers"], apart := false, laid := [("math/bits.deBruijn64tab", laid_math_bits_deBruijn64tab), ("detent/check.helpers", laid_detent_check_helpers)] }
def VmNilSaid : Prop := vmNilRow.holds Tryd.pinned (OpenSpec.ofChange vmNilSpec)

/-- ITS FALSE NEIGHBOUR: 'it returns false'. Refute it at one input. -/
def vmNilWrong : ChangeSpec := { name := "vmNil", fn := fun _ => fun
  | [d1, d2, d3] => { results := [.lit (.bool false)], args := [d1, d2, d3] }
  | _ => none }
def VmNilWrongFalsely : Prop := vmNilRow.holds Tryd.pinned (OpenSpec.ofChange vmNilWrong)

/- THE SECOND FORM. 'bulk': how many values and letters a reading holds, each counted each time it is reached (what is shared counts as often as it is met; a slice's spare places count too). A statement '..UptoSaid' is the law's where the arguments, and the package variables that the reading takes, are together of bulk at most 1048576: NARROWER than '..Said'. Prove '..Said' where nothing that the law and all that it calls make is longer than what came in: it says more and counts as full. Else prove '..UptoSaid'. A law counts once. -/
mutual
def uptoBulk {H : Type} : DataW H → Nat
  | .lit (.string bytes) => bytes.length + 1
  | .lit _ => 1
  | .nil => 1
  | .ptr d => uptoBulk d + 1
  | .slice elems spare => uptoBulkAll elems + uptoBulkAll spare + 1
  | .agg parts => uptoBulkAll parts + 1
  | .iface _ d => uptoBulk d + 1
  | .map entries => uptoBulkEntries entries + 1
  | .held _ => 1
def uptoBulkAll {H : Type} : List (DataW H) → Nat
  | [] => 0
  | d :: r => uptoBulk d + uptoBulkAll r
def uptoBulkEntries {H : Type} : List (Lit × DataW H) → Nat
  | [] => 0
  | x :: r => uptoBulkEntry x + uptoBulkEntries r
def uptoBulkEntry {H : Type} : Lit × DataW H → Nat
  | (.string bytes, d) => bytes.length + uptoBulk d + 1
  | (_, d) => uptoBulk d + 1
 end
def uptoSmall : (H : Type) → List (DataW H) → Bool := fun _ ds => decide (uptoBulkAll ds ≤ 1048576)
def OpenSpec.upto (s : _root_.Go.ChangeSpec) : _root_.Go.OpenSpec := { _root_.Go.OpenSpec.ofChange s with cond := some uptoSmall }

/-- 'detentlaw19.VmSteps', WHERE WHAT IT READS IS OF BULK AT MOST 1048576: true; the input reads as it did. -/
def vmStepsUptoRow : OpenClaim := { program := "ytpbdmlipdfdblaadoor", sum := "fcbf3337a3367d07db360e67407ee807845af9f51981b1fe49dfa697450aff82", func := "detent/detentlaw19.VmSteps", spec := "vmSteps", unfollowed := true, recurses := true, named := ["math/bits.deBruijn64tab", "detent/check.helpers"], apart := false, laid := [("math/bits.deBruijn64tab", laid_math_bits_deBruijn64tab), ("detent/check.helpers", laid_detent_check_helpers)], narrowed := true }
def VmStepsUptoSaid : Prop := vmStepsUptoRow.holds Tryd.pinned (OpenSpec.upto vmStepsSpec)

/-- 'detentlaw19.VmEnds', WHERE WHAT IT READS IS OF BULK AT MOST 1048576: true; the input reads as it did. -/
def vmEndsUptoRow : OpenClaim := { program := "ytpbdmlipdfdblaadoor", sum := "fcbf3337a3367d07db360e67407ee807845af9f51981b1fe49dfa697450aff82", func := "detent/detentlaw19.VmEnds", spec := "vmEnds", unfollowed := true, recurses := true, named := ["math/bits.deBruijn64tab", "detent/check.helpers"], apart := false, laid := [("math/bits.deBruijn64tab", laid_math_bits_deBruijn64tab), ("detent/check.helpers", laid_detent_check_helpers)], narrowed := true }
def VmEndsUptoSaid : Prop := vmEndsUptoRow.holds Tryd.pinned (OpenSpec.upto vmEndsSpec)

/-- 'detentlaw19.VmBytes', WHERE WHAT IT READS IS OF BULK AT MOST 1048576: true; the input reads as it did. -/
def vmBytesUptoRow : OpenClaim := { program := "ytpbdmlipdfdblaadoor", sum := "fcbf3337a3367d07db360e67407ee807845af9f51981b1fe49dfa697450aff82", func := "detent/detentlaw19.VmBytes", spec := "vmBytes", unfollowed := true, recurses := true, named := ["math/bits.deBruijn64tab", "detent/check.helpers"], apart := false, laid := [("math/bits.deBruijn64tab", laid_math_bits_deBruijn64tab), ("detent/check.helpers", laid_detent_check_helpers)], narrowed := true }
def VmBytesUptoSaid : Prop := vmBytesUptoRow.holds Tryd.pinned (OpenSpec.upto vmBytesSpec)

/-- 'detentlaw19.VmNil', WHERE WHAT IT READS IS OF BULK AT MOST 1048576: true; the input reads as it did. -/
def vmNilUptoRow : OpenClaim := { program := "ytpbdmlipdfdblaadoor", sum := "fcbf3337a3367d07db360e67407ee807845af9f51981b1fe49dfa697450aff82", func := "detent/detentlaw19.VmNil", spec := "vmNil", unfollowed := true, recurses := true, named := ["math/bits.deBruijn64tab", "detent/check.helpers"], apart := false, laid := [("math/bits.deBruijn64tab", laid_math_bits_deBruijn64tab), ("detent/check.helpers", laid_detent_check_helpers)], narrowed := true }
def VmNilUptoSaid : Prop := vmNilUptoRow.holds Tryd.pinned (OpenSpec.upto vmNilSpec)

end Rows
end Go.Proofs.YtpbdmlipdfdblaaDoor
