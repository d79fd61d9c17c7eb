/-
  No cell of these rows narrows 'for every input' (looked for: loops, veiled, ifaces, maps, wideKeys, modest, calm, conditions, laid).
  DERIVED. THE GIVEN ROWS OF THIS SEAT. 4 by the template 'for every input the law returns true; each argument reads behind the call as it read before'; 0 by the template 'total and deterministic' (their statements: YtgiacoclddoboaaTotals.lean).
  GIVEN WITH THE SEED: the statements are not yours to turn. If you find one false, say at which input.
  Laid BY PROGRAM, IN A SANDBOX (cutbox-rows.mjs): the forced cells as the released guide's own fill.sh prints them over the translation b1a93443f18143b7… (all of the seat's roots in one cut). By AI agents, Wed Nov 11 2026. No macro, syntax, notation, axiom, sorry.
-/
import Derived.Test.YtgiacoclddoboaaChecked
import GoSem.Claim
import GoSem.ClaimJoined
import GoSem.ClaimMapViews
import Derived.JoinedTies
import Derived.KernelRfl
namespace Go.Proofs.Ytgiacoclddoboaa
/- THE CELL 'sum', in the pinned program and in every row, IS THE sha256 OF THE DUMP (.gsa) THAT YtgiacoclddoboaaProg.lean LOADS. Nothing in Lean hashes anything: it is a label: what it is worth is what the hold of that sum in a sandbox is worth. -/
noncomputable def Try.pinned : Pinned := { name := "ytgiacoclddoboaa", sum := "b1a93443f18143b72f0f10a41a6f1364388a65d55f888bf7a4c480f943a95e98", checked := Try.checked }
namespace Rows
def none {H : Type} : Left H := { results := [], args := [] }

/-- 'detentlaw13.UserPlays': WHATEVER THE INPUT: true; the input reads as it did. -/
def userPlaysSpec : ChangeSpec := { name := "userPlays", fn := fun _ => fun
  | [d1, d2] => { results := [.lit (.bool true)], args := [d1, d2] }
  | _ => none }
def userPlaysRow : OpenClaim := { program := "ytgiacoclddoboaa", sum := "b1a93443f18143b72f0f10a41a6f1364388a65d55f888bf7a4c480f943a95e98", func := "detent/detentlaw13.UserPlays", spec := "userPlays", apart := false }
def UserPlaysSaid : Prop := userPlaysRow.holds Try.pinned (OpenSpec.ofChange userPlaysSpec)

/-- ITS FALSE NEIGHBOUR: 'it returns false'. Refute it at one input. -/
def userPlaysWrong : ChangeSpec := { name := "userPlays", fn := fun _ => fun
  | [d1, d2] => { results := [.lit (.bool false)], args := [d1, d2] }
  | _ => none }
def UserPlaysWrongFalsely : Prop := userPlaysRow.holds Try.pinned (OpenSpec.ofChange userPlaysWrong)

/-- 'detentlaw13.UserPieces': WHATEVER THE INPUT: true; the input reads as it did. -/
def userPiecesSpec : ChangeSpec := { name := "userPieces", fn := fun _ => fun
  | [d1, d2, d3, d4] => { results := [.lit (.bool true)], args := [d1, d2, d3, d4] }
  | _ => none }
def userPiecesRow : OpenClaim := { program := "ytgiacoclddoboaa", sum := "b1a93443f18143b72f0f10a41a6f1364388a65d55f888bf7a4c480f943a95e98", func := "detent/detentlaw13.UserPieces", spec := "userPieces", apart := false }
def UserPiecesSaid : Prop := userPiecesRow.holds Try.pinned (OpenSpec.ofChange userPiecesSpec)

/-- ITS FALSE NEIGHBOUR: 'it returns false'. Refute it at one input. -/
def userPiecesWrong : ChangeSpec := { name := "userPieces", fn := fun _ => fun
  | [d1, d2, d3, d4] => { results := [.lit (.bool false)], args := [d1, d2, d3, d4] }
  | _ => none }
def UserPiecesWrongFalsely : Prop := userPiecesRow.holds Try.pinned (OpenSpec.ofChange userPiecesWrong)

/-- 'detentlaw13.UserTouches': WHATEVER THE INPUT: true; the input reads as it did. -/
def userTouchesSpec : ChangeSpec := { name := "userTouches", fn := fun _ => fun
  | [d1, d2, d3, d4] => { results := [.lit (.bool true)], args := [d1, d2, d3, d4] }
  | _ => none }
def userTouchesRow : OpenClaim := { program := "ytgiacoclddoboaa", sum := "b1a93443f18143b72f0f10a41a6f1364388a65d55f888bf7a4c480f943a95e98", func := "detent/detentlaw13.UserTouches", spec := "userTouches", apart := false }
def UserTouchesSaid : Prop := userTouchesRow.holds Try.pinned (OpenSpec.ofChange userTouchesSpec)

/-- ITS FALSE NEIGHBOUR: 'it returns false'. Refute it at one input. -/
def userTouchesWrong : ChangeSpec := { name := "userTouches", fn := fun _ => fun
  | [d1, d2, d3, d4] => { results := [.lit (.bool false)], args := [d1, d2, d3, d4] }
  | _ => none }
def UserTouchesWrongFalsely : Prop := userTouchesRow.holds Try.pinned (OpenSpec.ofChange userTouchesWrong)

/-- 'detentlaw13.UserLimits': WHATEVER THE INPUT: true; the input reads as it did. -/
def userLimitsSpec : ChangeSpec := { name := "userLimits", fn := fun _ => fun
  | [d1, d2, d3, d4] => { results := [.lit (.bool true)], args := [d1, d2, d3, d4] }
  | _ => none }
def userLimitsRow : OpenClaim := { program := "ytgiacoclddoboaa", sum := "b1a93443f18143b72f0f10a41a6f1364388a65d55f888bf7a4c480f943a95e98", func := "detent/detentlaw13.UserLimits", spec := "userLimits", apart := false }
def UserLimitsSaid : Prop := userLimitsRow.holds Try.pinned (OpenSpec.ofChange userLimitsSpec)

/-- ITS FALSE NEIGHBOUR: 'it returns false'. Refute it at one input. -/
def userLimitsWrong : ChangeSpec := { name := "userLimits", fn := fun _ => fun
  | [d1, d2, d3, d4] => { results := [.lit (.bool false)], args := [d1, d2, d3, d4] }
  | _ => none }
def UserLimitsWrongFalsely : Prop := userLimitsRow.holds Try.pinned (OpenSpec.ofChange userLimitsWrong)

/- THE SECOND FORM. 'bulk': how many values and letters a reading holds, each counted each time it is reached (what is shared counts as often as it is met; a slice's spare places count too). A statement '..UptoSaid' is the law's where the arguments, and the package variables that the reading takes, are together of bulk at most 1048576: NARROWER than '..Said'. Prove '..Said' where nothing that the law and all that it calls make is longer than what came in: it says more and counts as full. Else prove '..UptoSaid'. A law counts once. -/
mutual
def uptoBulk {H : Type} : DataW H → Nat
  | .lit (.string bytes) => bytes.length + 1
  | .lit _ => 1
  | .nil => 1
  | .ptr d => uptoBulk d + 1
  | .slice elems spare => uptoBulkAll elems + uptoBulkAll spare + 1
  | .agg parts => uptoBulkAll parts + 1
  | .iface _ d => uptoBulk d + 1
  | .map entries => uptoBulkEntries entries + 1
  | .held _ => 1
def uptoBulkAll {H : Type} : List (DataW H) → Nat
  | [] => 0
  | d :: r => uptoBulk d + uptoBulkAll r
def uptoBulkEntries {H : Type} : List (Lit × DataW H) → Nat
  | [] => 0
  | x :: r => uptoBulkEntry x + uptoBulkEntries r
def uptoBulkEntry {H : Type} : Lit × DataW H → Nat
  | (.string bytes, d) => bytes.length + uptoBulk d + 1
  | (_, d) => uptoBulk d + 1
 end
def uptoSmall : (H : Type) → List (DataW H) → Bool := fun _ ds => decide (uptoBulkAll ds ≤ 1048576)
def OpenSpec.upto (s : _root_.Go.ChangeSpec) : _root_.Go.OpenSpec := { _root_.Go.OpenSpec.ofChange s with cond := some uptoSmall }

/-- 'detentlaw13.UserPlays', WHERE WHAT IT READS IS OF BULK AT MOST 1048576: true; the input reads as it did. -/
def userPlaysUptoRow : OpenClaim := { program := "ytgiacoclddoboaa", sum := "b1a93443f18143b72f0f10a41a6f1364388a65d55f888bf7a4c480f943a95e98", func := "detent/detentlaw13.UserPlays", spec := "userPlays", apart := false, narrowed := true }
def UserPlaysUptoSaid : Prop := userPlaysUptoRow.holds Try.pinned (OpenSpec.upto userPlaysSpec)

/-- 'detentlaw13.UserPieces', WHERE WHAT IT READS IS OF BULK AT MOST 1048576: true; the input reads as it did. -/
def userPiecesUptoRow : OpenClaim := { program := "ytgiacoclddoboaa", sum := "b1a93443f18143b72f0f10a41a6f1364388a65d55f888bf7a4c480f943a95e98", func := "detent/detentlaw13.UserPieces", spec := "userPieces", apart := false, narrowed := true }
def UserPiecesUptoSaid : Prop := userPiecesUptoRow.holds Try.pinned (OpenSpec.upto userPiecesSpec)

/-- 'detentlaw13.UserTouches', WHERE WHAT IT READS IS OF BULK AT MOST 1048576: true; the input reads as it did. -/
def userTouchesUptoRow : OpenClaim := { program := "ytgiacoclddoboaa", sum := "b1a93443f18143b72f0f10a41a6f1364388a65d55f888bf7a4c480f943a95e98", func := "detent/detentlaw13.UserTouches", spec := "userTouches", apart := false, narrowed := true }
def UserTouchesUptoSaid : Prop := userTouchesUptoRow.holds Try.pinned (OpenSpec.upto userTouchesSpec)

/-- 'detentlaw13.UserLimits', WHERE WHAT IT READS IS OF BULK AT MOST 1048576: true; the input reads as it did. -/
def userLimitsUptoRow : OpenClaim := { program := "ytgiacoclddoboaa", sum := "b1a93443f18143b72f0f10a41a6f1364388a65d55f888bf7a4c480f943a95e98", func := "detent/detentlaw13.UserLimits", spec := "userLimits", apart := false, narrowed := true }
def UserLimitsUptoSaid : Prop := userLimitsUptoRow.holds Try.pinned (OpenSpec.upto userLimitsSpec)

end Rows
end Go.Proofs.Ytgiacoclddoboaa
