/-
  No cell of these rows narrows 'for every input' (looked for: loops, veiled, ifaces, maps, wideKeys, modest, calm, conditions, laid).
  DERIVED. THE GIVEN ROWS OF THIS SEAT. 4 by the template 'for every input the law returns true; each argument reads behind the call as it read before'; 0 by the template 'total and deterministic' (their statements: YtnnliimjemmekaaTotals.lean).
  GIVEN WITH THE SEED: the statements are not yours to turn. If you find one false, say at which input.
  Laid BY PROGRAM, IN A SANDBOX (cutbox-rows.mjs): the forced cells as the released guide's own fill.sh prints them over the translation 2e0a264c58260889… (all of the seat's roots in one cut). By AI agents, Wed Nov 11 2026. No macro, syntax, notation, axiom, sorry.
-/
import Derived.Test.YtnnliimjemmekaaChecked
import GoSem.Claim
import GoSem.ClaimJoined
import GoSem.ClaimMapViews
import Derived.JoinedTies
import Derived.KernelRfl
namespace Go.Proofs.Ytnnliimjemmekaa
/- THE CELL 'sum', in the pinned program and in every row, IS THE sha256 OF THE DUMP (.gsa) THAT YtnnliimjemmekaaProg.lean LOADS. Nothing in Lean hashes anything: it is a label: what it is worth is what the hold of that sum in a sandbox is worth. -/
noncomputable def Try.pinned : Pinned := { name := "ytnnliimjemmekaa", sum := "2e0a264c582608897b4179f6e089908e95d6b6763a717422bdd60e046a0cbe8a", checked := Try.checked }
namespace Rows
def none {H : Type} : Left H := { results := [], args := [] }

/-- 'detentlaw11.CallsPlays': WHATEVER THE INPUT: true; the input reads as it did. -/
def callsPlaysSpec : ChangeSpec := { name := "callsPlays", fn := fun _ => fun
  | [d1, d2] => { results := [.lit (.bool true)], args := [d1, d2] }
  | _ => none }
def callsPlaysRow : OpenClaim := { program := "ytnnliimjemmekaa", sum := "2e0a264c582608897b4179f6e089908e95d6b6763a717422bdd60e046a0cbe8a", func := "detent/detentlaw11.CallsPlays", spec := "callsPlays", unfollowed := true, recurses := true, apart := false }
def CallsPlaysSaid : Prop := callsPlaysRow.holds Try.pinned (OpenSpec.ofChange callsPlaysSpec)

/-- ITS FALSE NEIGHBOUR: 'it returns false'. Refute it at one input. -/
def callsPlaysWrong : ChangeSpec := { name := "callsPlays", fn := fun _ => fun
  | [d1, d2] => { results := [.lit (.bool false)], args := [d1, d2] }
  | _ => none }
def CallsPlaysWrongFalsely : Prop := callsPlaysRow.holds Try.pinned (OpenSpec.ofChange callsPlaysWrong)

/-- 'detentlaw11.CallsOnce': WHATEVER THE INPUT: true; the input reads as it did. -/
def callsOnceSpec : ChangeSpec := { name := "callsOnce", fn := fun _ => fun
  | [d1, d2, d3] => { results := [.lit (.bool true)], args := [d1, d2, d3] }
  | _ => none }
def callsOnceRow : OpenClaim := { program := "ytnnliimjemmekaa", sum := "2e0a264c582608897b4179f6e089908e95d6b6763a717422bdd60e046a0cbe8a", func := "detent/detentlaw11.CallsOnce", spec := "callsOnce", unfollowed := true, recurses := true, apart := false }
def CallsOnceSaid : Prop := callsOnceRow.holds Try.pinned (OpenSpec.ofChange callsOnceSpec)

/-- ITS FALSE NEIGHBOUR: 'it returns false'. Refute it at one input. -/
def callsOnceWrong : ChangeSpec := { name := "callsOnce", fn := fun _ => fun
  | [d1, d2, d3] => { results := [.lit (.bool false)], args := [d1, d2, d3] }
  | _ => none }
def CallsOnceWrongFalsely : Prop := callsOnceRow.holds Try.pinned (OpenSpec.ofChange callsOnceWrong)

/-- 'detentlaw11.CallsFull': WHATEVER THE INPUT: true; the input reads as it did. -/
def callsFullSpec : ChangeSpec := { name := "callsFull", fn := fun _ => fun
  | [d1, d2, d3] => { results := [.lit (.bool true)], args := [d1, d2, d3] }
  | _ => none }
def callsFullRow : OpenClaim := { program := "ytnnliimjemmekaa", sum := "2e0a264c582608897b4179f6e089908e95d6b6763a717422bdd60e046a0cbe8a", func := "detent/detentlaw11.CallsFull", spec := "callsFull", unfollowed := true, recurses := true, apart := false }
def CallsFullSaid : Prop := callsFullRow.holds Try.pinned (OpenSpec.ofChange callsFullSpec)

/-- ITS FALSE NEIGHBOUR: 'it returns false'. Refute it at one input. -/
def callsFullWrong : ChangeSpec := { name := "callsFull", fn := fun _ => fun
  | [d1, d2, d3] => { results := [.lit (.bool false)], args := [d1, d2, d3] }
  | _ => none }
def CallsFullWrongFalsely : Prop := callsFullRow.holds Try.pinned (OpenSpec.ofChange callsFullWrong)

/-- 'detentlaw11.CallsNil': WHATEVER THE INPUT: true; the input reads as it did. -/
def callsNilSpec : ChangeSpec := { name := "callsNil", fn := fun _ => fun
  | [d1, d2] => { results := [.lit (.bool true)], args := [d1, d2] }
  | _ => none }
def callsNilRow : OpenClaim := { program := "ytnnliimjemmekaa", sum := "2e0a264c582608897b4179f6e089908e95d6b6763a717422bdd60e046a0cbe8a", func := "detent/detentlaw11.CallsNil", spec := "callsNil", unfollowed := true, recurses := true, apart := false }
def CallsNilSaid : Prop := callsNilRow.holds Try.pinned (OpenSpec.ofChange callsNilSpec)

/-- ITS FALSE NEIGHBOUR: 'it returns false'. Refute it at one input. -/
def callsNilWrong : ChangeSpec := { name := "callsNil", fn := fun _ => fun
  | [d1, d2] => { results := [.lit (.bool false)], args := [d1, d2] }
  | _ => none }
def CallsNilWrongFalsely : Prop := callsNilRow.holds Try.pinned (OpenSpec.ofChange callsNilWrong)

/- THE SECOND FORM. 'bulk': how many values and letters a reading holds, each counted each time it is reached (what is shared counts as often as it is met; a slice's spare places count too). A statement '..UptoSaid' is the law's where the arguments, and the package variables that the reading takes, are together of bulk at most 1048576: NARROWER than '..Said'. Prove '..Said' where nothing that the law and all that it calls make is longer than what came in: it says more and counts as full. Else prove '..UptoSaid'. A law counts once. -/
mutual
def uptoBulk {H : Type} : DataW H → Nat
  | .lit (.string bytes) => bytes.length + 1
  | .lit _ => 1
  | .nil => 1
  | .ptr d => uptoBulk d + 1
  | .slice elems spare => uptoBulkAll elems + uptoBulkAll spare + 1
  | .agg parts => uptoBulkAll parts + 1
  | .iface _ d => uptoBulk d + 1
  | .map entries => uptoBulkEntries entries + 1
  | .held _ => 1
def uptoBulkAll {H : Type} : List (DataW H) → Nat
  | [] => 0
  | d :: r => uptoBulk d + uptoBulkAll r
def uptoBulkEntries {H : Type} : List (Lit × DataW H) → Nat
  | [] => 0
  | x :: r => uptoBulkEntry x + uptoBulkEntries r
def uptoBulkEntry {H : Type} : Lit × DataW H → Nat
  | (.string bytes, d) => bytes.length + uptoBulk d + 1
  | (_, d) => uptoBulk d + 1
 end
def uptoSmall : (H : Type) → List (DataW H) → Bool := fun _ ds => decide (uptoBulkAll ds ≤ 1048576)
def OpenSpec.upto (s : _root_.Go.ChangeSpec) : _root_.Go.OpenSpec := { _root_.Go.OpenSpec.ofChange s with cond := some uptoSmall }

/-- 'detentlaw11.CallsPlays', WHERE WHAT IT READS IS OF BULK AT MOST 1048576: true; the input reads as it did. -/
def callsPlaysUptoRow : OpenClaim := { program := "ytnnliimjemmekaa", sum := "2e0a264c582608897b4179f6e089908e95d6b6763a717422bdd60e046a0cbe8a", func := "detent/detentlaw11.CallsPlays", spec := "callsPlays", unfollowed := true, recurses := true, apart := false, narrowed := true }
def CallsPlaysUptoSaid : Prop := callsPlaysUptoRow.holds Try.pinned (OpenSpec.upto callsPlaysSpec)

/-- 'detentlaw11.CallsOnce', WHERE WHAT IT READS IS OF BULK AT MOST 1048576: true; the input reads as it did. -/
def callsOnceUptoRow : OpenClaim := { program := "ytnnliimjemmekaa", sum := "2e0a264c582608897b4179f6e089908e95d6b6763a717422bdd60e046a0cbe8a", func := "detent/detentlaw11.CallsOnce", spec := "callsOnce", unfollowed := true, recurses := true, apart := false, narrowed := true }
def CallsOnceUptoSaid : Prop := callsOnceUptoRow.holds Try.pinned (OpenSpec.upto callsOnceSpec)

/-- 'detentlaw11.CallsFull', WHERE WHAT IT READS IS OF BULK AT MOST 1048576: true; the input reads as it did. -/
def callsFullUptoRow : OpenClaim := { program := "ytnnliimjemmekaa", sum := "2e0a264c582608897b4179f6e089908e95d6b6763a717422bdd60e046a0cbe8a", func := "detent/detentlaw11.CallsFull", spec := "callsFull", unfollowed := true, recurses := true, apart := false, narrowed := true }
def CallsFullUptoSaid : Prop := callsFullUptoRow.holds Try.pinned (OpenSpec.upto callsFullSpec)

/-- 'detentlaw11.CallsNil', WHERE WHAT IT READS IS OF BULK AT MOST 1048576: true; the input reads as it did. -/
def callsNilUptoRow : OpenClaim := { program := "ytnnliimjemmekaa", sum := "2e0a264c582608897b4179f6e089908e95d6b6763a717422bdd60e046a0cbe8a", func := "detent/detentlaw11.CallsNil", spec := "callsNil", unfollowed := true, recurses := true, apart := false, narrowed := true }
def CallsNilUptoSaid : Prop := callsNilUptoRow.holds Try.pinned (OpenSpec.upto callsNilSpec)

end Rows
end Go.Proofs.Ytnnliimjemmekaa
