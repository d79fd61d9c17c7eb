/-
  No cell of these rows narrows 'for every input' (looked for: loops, veiled, ifaces, maps, wideKeys, modest, calm, conditions, laid).
  DERIVED. THE GIVEN ROWS OF THIS SEAT. 5 by the template 'for every input the law returns true; each argument reads behind the call as it read before'; 0 by the template 'total and deterministic' (their statements: YticdlknlihogcaaTotals.lean).
  GIVEN WITH THE SEED: the statements are not yours to turn. If you find one false, say at which input.
  Laid BY PROGRAM, IN A SANDBOX (cutbox-rows.mjs): the forced cells as the released guide's own fill.sh prints them over the translation 1ceefc6bbd6d0c4c… (all of the seat's roots in one cut). By AI agents, Wed Nov 11 2026. No macro, syntax, notation, axiom, sorry.
-/
import Derived.Test.YticdlknlihogcaaChecked
import GoSem.Claim
import GoSem.ClaimJoined
import GoSem.ClaimMapViews
import Derived.JoinedTies
import Derived.KernelRfl
namespace Go.Proofs.Yticdlknlihogcaa
/- THE CELL 'sum', in the pinned program and in every row, IS THE sha256 OF THE DUMP (.gsa) THAT YticdlknlihogcaaProg.lean LOADS. Nothing in Lean hashes anything: it is a label: what it is worth is what the hold of that sum in a sandbox is worth. -/
noncomputable def Try.pinned : Pinned := { name := "yticdlknlihogcaa", sum := "1ceefc6bbd6d0c4c99a3b55a3848c2bece2f528623a1e35c68769a3718ec3181", checked := Try.checked }
namespace Rows
def none {H : Type} : Left H := { results := [], args := [] }

/-- 'detentlaw09.SectPlays': WHATEVER THE INPUT: true; the input reads as it did. -/
def sectPlaysSpec : ChangeSpec := { name := "sectPlays", fn := fun _ => fun
  | [d1, d2] => { results := [.lit (.bool true)], args := [d1, d2] }
  | _ => none }
def sectPlaysRow : OpenClaim := { program := "yticdlknlihogcaa", sum := "1ceefc6bbd6d0c4c99a3b55a3848c2bece2f528623a1e35c68769a3718ec3181", func := "detent/detentlaw09.SectPlays", spec := "sectPlays", unfollowed := true, recurses := true, apart := false }
def SectPlaysSaid : Prop := sectPlaysRow.holds Try.pinned (OpenSpec.ofChange sectPlaysSpec)

/-- ITS FALSE NEIGHBOUR: 'it returns false'. Refute it at one input. -/
def sectPlaysWrong : ChangeSpec := { name := "sectPlays", fn := fun _ => fun
  | [d1, d2] => { results := [.lit (.bool false)], args := [d1, d2] }
  | _ => none }
def SectPlaysWrongFalsely : Prop := sectPlaysRow.holds Try.pinned (OpenSpec.ofChange sectPlaysWrong)

/-- 'detentlaw09.SectNests': WHATEVER THE INPUT: true; the input reads as it did. -/
def sectNestsSpec : ChangeSpec := { name := "sectNests", fn := fun _ => fun
  | [d1, d2] => { results := [.lit (.bool true)], args := [d1, d2] }
  | _ => none }
def sectNestsRow : OpenClaim := { program := "yticdlknlihogcaa", sum := "1ceefc6bbd6d0c4c99a3b55a3848c2bece2f528623a1e35c68769a3718ec3181", func := "detent/detentlaw09.SectNests", spec := "sectNests", unfollowed := true, recurses := true, apart := false }
def SectNestsSaid : Prop := sectNestsRow.holds Try.pinned (OpenSpec.ofChange sectNestsSpec)

/-- ITS FALSE NEIGHBOUR: 'it returns false'. Refute it at one input. -/
def sectNestsWrong : ChangeSpec := { name := "sectNests", fn := fun _ => fun
  | [d1, d2] => { results := [.lit (.bool false)], args := [d1, d2] }
  | _ => none }
def SectNestsWrongFalsely : Prop := sectNestsRow.holds Try.pinned (OpenSpec.ofChange sectNestsWrong)

/-- 'detentlaw09.SectStays': WHATEVER THE INPUT: true; the input reads as it did. -/
def sectStaysSpec : ChangeSpec := { name := "sectStays", fn := fun _ => fun
  | [d1, d2] => { results := [.lit (.bool true)], args := [d1, d2] }
  | _ => none }
def sectStaysRow : OpenClaim := { program := "yticdlknlihogcaa", sum := "1ceefc6bbd6d0c4c99a3b55a3848c2bece2f528623a1e35c68769a3718ec3181", func := "detent/detentlaw09.SectStays", spec := "sectStays", unfollowed := true, recurses := true, apart := false }
def SectStaysSaid : Prop := sectStaysRow.holds Try.pinned (OpenSpec.ofChange sectStaysSpec)

/-- ITS FALSE NEIGHBOUR: 'it returns false'. Refute it at one input. -/
def sectStaysWrong : ChangeSpec := { name := "sectStays", fn := fun _ => fun
  | [d1, d2] => { results := [.lit (.bool false)], args := [d1, d2] }
  | _ => none }
def SectStaysWrongFalsely : Prop := sectStaysRow.holds Try.pinned (OpenSpec.ofChange sectStaysWrong)

/-- 'detentlaw09.SectMany': WHATEVER THE INPUT: true; the input reads as it did. -/
def sectManySpec : ChangeSpec := { name := "sectMany", fn := fun _ => fun
  | [d] => { results := [.lit (.bool true)], args := [d] }
  | _ => none }
def sectManyRow : OpenClaim := { program := "yticdlknlihogcaa", sum := "1ceefc6bbd6d0c4c99a3b55a3848c2bece2f528623a1e35c68769a3718ec3181", func := "detent/detentlaw09.SectMany", spec := "sectMany", unfollowed := true, recurses := true, apart := false }
def SectManySaid : Prop := sectManyRow.holds Try.pinned (OpenSpec.ofChange sectManySpec)

/-- ITS FALSE NEIGHBOUR: 'it returns false'. Refute it at one input. -/
def sectManyWrong : ChangeSpec := { name := "sectMany", fn := fun _ => fun
  | [d] => { results := [.lit (.bool false)], args := [d] }
  | _ => none }
def SectManyWrongFalsely : Prop := sectManyRow.holds Try.pinned (OpenSpec.ofChange sectManyWrong)

/-- 'detentlaw09.SectNil': WHATEVER THE INPUT: true; the input reads as it did. -/
def sectNilSpec : ChangeSpec := { name := "sectNil", fn := fun _ => fun
  | [d] => { results := [.lit (.bool true)], args := [d] }
  | _ => none }
def sectNilRow : OpenClaim := { program := "yticdlknlihogcaa", sum := "1ceefc6bbd6d0c4c99a3b55a3848c2bece2f528623a1e35c68769a3718ec3181", func := "detent/detentlaw09.SectNil", spec := "sectNil", unfollowed := true, recurses := true, apart := false }
def SectNilSaid : Prop := sectNilRow.holds Try.pinned (OpenSpec.ofChange sectNilSpec)

/-- ITS FALSE NEIGHBOUR: 'it returns false'. Refute it at one input. -/
def sectNilWrong : ChangeSpec := { name := "sectNil", fn := fun _ => fun
  | [d] => { results := [.lit (.bool false)], args := [d] }
  | _ => none }
def SectNilWrongFalsely : Prop := sectNilRow.holds Try.pinned (OpenSpec.ofChange sectNilWrong)

/- THE SECOND FORM. 'bulk': how many values and letters a reading holds, each counted each time it is reached (what is shared counts as often as it is met; a slice's spare places count too). A statement '..UptoSaid' is the law's where the arguments, and the package variables that the reading takes, are together of bulk at most 1048576: NARROWER than '..Said'. Prove '..Said' where nothing that the law and all that it calls make is longer than what came in: it says more and counts as full. Else prove '..UptoSaid'. A law counts once. -/
mutual
def uptoBulk {H : Type} : DataW H → Nat
  | .lit (.string bytes) => bytes.length + 1
  | .lit _ => 1
  | .nil => 1
  | .ptr d => uptoBulk d + 1
  | .slice elems spare => uptoBulkAll elems + uptoBulkAll spare + 1
  | .agg parts => uptoBulkAll parts + 1
  | .iface _ d => uptoBulk d + 1
  | .map entries => uptoBulkEntries entries + 1
  | .held _ => 1
def uptoBulkAll {H : Type} : List (DataW H) → Nat
  | [] => 0
  | d :: r => uptoBulk d + uptoBulkAll r
def uptoBulkEntries {H : Type} : List (Lit × DataW H) → Nat
  | [] => 0
  | x :: r => uptoBulkEntry x + uptoBulkEntries r
def uptoBulkEntry {H : Type} : Lit × DataW H → Nat
  | (.string bytes, d) => bytes.length + uptoBulk d + 1
  | (_, d) => uptoBulk d + 1
 end
def uptoSmall : (H : Type) → List (DataW H) → Bool := fun _ ds => decide (uptoBulkAll ds ≤ 1048576)
def OpenSpec.upto (s : _root_.Go.ChangeSpec) : _root_.Go.OpenSpec := { _root_.Go.OpenSpec.ofChange s with cond := some uptoSmall }

/-- 'detentlaw09.SectPlays', WHERE WHAT IT READS IS OF BULK AT MOST 1048576: true; the input reads as it did. -/
def sectPlaysUptoRow : OpenClaim := { program := "yticdlknlihogcaa", sum := "1ceefc6bbd6d0c4c99a3b55a3848c2bece2f528623a1e35c68769a3718ec3181", func := "detent/detentlaw09.SectPlays", spec := "sectPlays", unfollowed := true, recurses := true, apart := false, narrowed := true }
def SectPlaysUptoSaid : Prop := sectPlaysUptoRow.holds Try.pinned (OpenSpec.upto sectPlaysSpec)

/-- 'detentlaw09.SectNests', WHERE WHAT IT READS IS OF BULK AT MOST 1048576: true; the input reads as it did. -/
def sectNestsUptoRow : OpenClaim := { program := "yticdlknlihogcaa", sum := "1ceefc6bbd6d0c4c99a3b55a3848c2bece2f528623a1e35c68769a3718ec3181", func := "detent/detentlaw09.SectNests", spec := "sectNests", unfollowed := true, recurses := true, apart := false, narrowed := true }
def SectNestsUptoSaid : Prop := sectNestsUptoRow.holds Try.pinned (OpenSpec.upto sectNestsSpec)

/-- 'detentlaw09.SectStays', WHERE WHAT IT READS IS OF BULK AT MOST 1048576: true; the input reads as it did. -/
def sectStaysUptoRow : OpenClaim := { program := "yticdlknlihogcaa", sum := "1ceefc6bbd6d0c4c99a3b55a3848c2bece2f528623a1e35c68769a3718ec3181", func := "detent/detentlaw09.SectStays", spec := "sectStays", unfollowed := true, recurses := true, apart := false, narrowed := true }
def SectStaysUptoSaid : Prop := sectStaysUptoRow.holds Try.pinned (OpenSpec.upto sectStaysSpec)

/-- 'detentlaw09.SectMany', WHERE WHAT IT READS IS OF BULK AT MOST 1048576: true; the input reads as it did. -/
def sectManyUptoRow : OpenClaim := { program := "yticdlknlihogcaa", sum := "1ceefc6bbd6d0c4c99a3b55a3848c2bece2f528623a1e35c68769a3718ec3181", func := "detent/detentlaw09.SectMany", spec := "sectMany", unfollowed := true, recurses := true, apart := false, narrowed := true }
def SectManyUptoSaid : Prop := sectManyUptoRow.holds Try.pinned (OpenSpec.upto sectManySpec)

/-- 'detentlaw09.SectNil', WHERE WHAT IT READS IS OF BULK AT MOST 1048576: true; the input reads as it did. -/
def sectNilUptoRow : OpenClaim := { program := "yticdlknlihogcaa", sum := "1ceefc6bbd6d0c4c99a3b55a3848c2bece2f528623a1e35c68769a3718ec3181", func := "detent/detentlaw09.SectNil", spec := "sectNil", unfollowed := true, recurses := true, apart := false, narrowed := true }
def SectNilUptoSaid : Prop := sectNilUptoRow.holds Try.pinned (OpenSpec.upto sectNilSpec)

end Rows
end Go.Proofs.Yticdlknlihogcaa
