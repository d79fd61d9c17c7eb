/-
  No cell of these rows narrows 'for every input' (looked for: loops, veiled, ifaces, maps, wideKeys, modest, calm, conditions, laid).
  DERIVED. THE GIVEN ROWS OF THIS SEAT. 5 by the template 'for every input the law returns true; each argument reads behind the call as it read before'; 0 by the template 'total and deterministic' (their statements: YtcdolkbljheniaaTotals.lean).
  GIVEN WITH THE SEED: the statements are not yours to turn. If you find one false, say at which input.
  Laid BY PROGRAM, IN A SANDBOX (cutbox-rows.mjs): the forced cells as the released guide's own fill.sh prints them over the translation 656bf715e5f3d67e… (all of the seat's roots in one cut). By AI agents, Wed Nov 11 2026. No macro, syntax, notation, axiom, sorry.
-/
import Derived.Test.YtcdolkbljheniaaChecked
import GoSem.Claim
import GoSem.ClaimJoined
import GoSem.ClaimMapViews
import Derived.JoinedTies
import Derived.KernelRfl
namespace Go.Proofs.Ytcdolkbljheniaa
/- THE CELL 'sum', in the pinned program and in every row, IS THE sha256 OF THE DUMP (.gsa) THAT YtcdolkbljheniaaProg.lean LOADS. Nothing in Lean hashes anything: it is a label: what it is worth is what the hold of that sum in a sandbox is worth. -/
noncomputable def Try.pinned : Pinned := { name := "ytcdolkbljheniaa", sum := "656bf715e5f3d67e22956f9de4c3acd133e17552156bf4e920d7b35dc111f554", checked := Try.checked }
namespace Rows
def none {H : Type} : Left H := { results := [], args := [] }

/-- 'detentlaw14.CopyPlays': WHATEVER THE INPUT: true; the input reads as it did. -/
def copyPlaysSpec : ChangeSpec := { name := "copyPlays", fn := fun _ => fun
  | [d1, d2, d3, d4, d5, d6, d7] => { results := [.lit (.bool true)], args := [d1, d2, d3, d4, d5, d6, d7] }
  | _ => none }
def copyPlaysRow : OpenClaim := { program := "ytcdolkbljheniaa", sum := "656bf715e5f3d67e22956f9de4c3acd133e17552156bf4e920d7b35dc111f554", func := "detent/detentlaw14.CopyPlays", spec := "copyPlays", unfollowed := true, recurses := true, apart := false }
def CopyPlaysSaid : Prop := copyPlaysRow.holds Try.pinned (OpenSpec.ofChange copyPlaysSpec)

/-- ITS FALSE NEIGHBOUR: 'it returns false'. Refute it at one input. -/
def copyPlaysWrong : ChangeSpec := { name := "copyPlays", fn := fun _ => fun
  | [d1, d2, d3, d4, d5, d6, d7] => { results := [.lit (.bool false)], args := [d1, d2, d3, d4, d5, d6, d7] }
  | _ => none }
def CopyPlaysWrongFalsely : Prop := copyPlaysRow.holds Try.pinned (OpenSpec.ofChange copyPlaysWrong)

/-- 'detentlaw14.CopyWhole': WHATEVER THE INPUT: true; the input reads as it did. -/
def copyWholeSpec : ChangeSpec := { name := "copyWhole", fn := fun _ => fun
  | [d1, d2, d3, d4, d5] => { results := [.lit (.bool true)], args := [d1, d2, d3, d4, d5] }
  | _ => none }
def copyWholeRow : OpenClaim := { program := "ytcdolkbljheniaa", sum := "656bf715e5f3d67e22956f9de4c3acd133e17552156bf4e920d7b35dc111f554", func := "detent/detentlaw14.CopyWhole", spec := "copyWhole", unfollowed := true, recurses := true, apart := false }
def CopyWholeSaid : Prop := copyWholeRow.holds Try.pinned (OpenSpec.ofChange copyWholeSpec)

/-- ITS FALSE NEIGHBOUR: 'it returns false'. Refute it at one input. -/
def copyWholeWrong : ChangeSpec := { name := "copyWhole", fn := fun _ => fun
  | [d1, d2, d3, d4, d5] => { results := [.lit (.bool false)], args := [d1, d2, d3, d4, d5] }
  | _ => none }
def CopyWholeWrongFalsely : Prop := copyWholeRow.holds Try.pinned (OpenSpec.ofChange copyWholeWrong)

/-- 'detentlaw14.CopyOuts': WHATEVER THE INPUT: true; the input reads as it did. -/
def copyOutsSpec : ChangeSpec := { name := "copyOuts", fn := fun _ => fun
  | [d1, d2, d3, d4, d5] => { results := [.lit (.bool true)], args := [d1, d2, d3, d4, d5] }
  | _ => none }
def copyOutsRow : OpenClaim := { program := "ytcdolkbljheniaa", sum := "656bf715e5f3d67e22956f9de4c3acd133e17552156bf4e920d7b35dc111f554", func := "detent/detentlaw14.CopyOuts", spec := "copyOuts", unfollowed := true, recurses := true, apart := false }
def CopyOutsSaid : Prop := copyOutsRow.holds Try.pinned (OpenSpec.ofChange copyOutsSpec)

/-- ITS FALSE NEIGHBOUR: 'it returns false'. Refute it at one input. -/
def copyOutsWrong : ChangeSpec := { name := "copyOuts", fn := fun _ => fun
  | [d1, d2, d3, d4, d5] => { results := [.lit (.bool false)], args := [d1, d2, d3, d4, d5] }
  | _ => none }
def CopyOutsWrongFalsely : Prop := copyOutsRow.holds Try.pinned (OpenSpec.ofChange copyOutsWrong)

/-- 'detentlaw14.CopyPaged': WHATEVER THE INPUT: true; the input reads as it did. -/
def copyPagedSpec : ChangeSpec := { name := "copyPaged", fn := fun _ => fun
  | [d1, d2, d3, d4] => { results := [.lit (.bool true)], args := [d1, d2, d3, d4] }
  | _ => none }
def copyPagedRow : OpenClaim := { program := "ytcdolkbljheniaa", sum := "656bf715e5f3d67e22956f9de4c3acd133e17552156bf4e920d7b35dc111f554", func := "detent/detentlaw14.CopyPaged", spec := "copyPaged", unfollowed := true, recurses := true, apart := false }
def CopyPagedSaid : Prop := copyPagedRow.holds Try.pinned (OpenSpec.ofChange copyPagedSpec)

/-- ITS FALSE NEIGHBOUR: 'it returns false'. Refute it at one input. -/
def copyPagedWrong : ChangeSpec := { name := "copyPaged", fn := fun _ => fun
  | [d1, d2, d3, d4] => { results := [.lit (.bool false)], args := [d1, d2, d3, d4] }
  | _ => none }
def CopyPagedWrongFalsely : Prop := copyPagedRow.holds Try.pinned (OpenSpec.ofChange copyPagedWrong)

/-- 'detentlaw14.CopyNil': WHATEVER THE INPUT: true; the input reads as it did. -/
def copyNilSpec : ChangeSpec := { name := "copyNil", fn := fun _ => fun
  | [d1, d2, d3] => { results := [.lit (.bool true)], args := [d1, d2, d3] }
  | _ => none }
def copyNilRow : OpenClaim := { program := "ytcdolkbljheniaa", sum := "656bf715e5f3d67e22956f9de4c3acd133e17552156bf4e920d7b35dc111f554", func := "detent/detentlaw14.CopyNil", spec := "copyNil", unfollowed := true, recurses := true, apart := false }
def CopyNilSaid : Prop := copyNilRow.holds Try.pinned (OpenSpec.ofChange copyNilSpec)

/-- ITS FALSE NEIGHBOUR: 'it returns false'. Refute it at one input. -/
def copyNilWrong : ChangeSpec := { name := "copyNil", fn := fun _ => fun
  | [d1, d2, d3] => { results := [.lit (.bool false)], args := [d1, d2, d3] }
  | _ => none }
def CopyNilWrongFalsely : Prop := copyNilRow.holds Try.pinned (OpenSpec.ofChange copyNilWrong)

/- THE SECOND FORM. 'bulk': how many values and letters a reading holds, each counted each time it is reached (what is shared counts as often as it is met; a slice's spare places count too). A statement '..UptoSaid' is the law's where the arguments, and the package variables that the reading takes, are together of bulk at most 1048576: NARROWER than '..Said'. Prove '..Said' where nothing that the law and all that it calls make is longer than what came in: it says more and counts as full. Else prove '..UptoSaid'. A law counts once. -/
mutual
def uptoBulk {H : Type} : DataW H → Nat
  | .lit (.string bytes) => bytes.length + 1
  | .lit _ => 1
  | .nil => 1
  | .ptr d => uptoBulk d + 1
  | .slice elems spare => uptoBulkAll elems + uptoBulkAll spare + 1
  | .agg parts => uptoBulkAll parts + 1
  | .iface _ d => uptoBulk d + 1
  | .map entries => uptoBulkEntries entries + 1
  | .held _ => 1
def uptoBulkAll {H : Type} : List (DataW H) → Nat
  | [] => 0
  | d :: r => uptoBulk d + uptoBulkAll r
def uptoBulkEntries {H : Type} : List (Lit × DataW H) → Nat
  | [] => 0
  | x :: r => uptoBulkEntry x + uptoBulkEntries r
def uptoBulkEntry {H : Type} : Lit × DataW H → Nat
  | (.string bytes, d) => bytes.length + uptoBulk d + 1
  | (_, d) => uptoBulk d + 1
 end
def uptoSmall : (H : Type) → List (DataW H) → Bool := fun _ ds => decide (uptoBulkAll ds ≤ 1048576)
def OpenSpec.upto (s : _root_.Go.ChangeSpec) : _root_.Go.OpenSpec := { _root_.Go.OpenSpec.ofChange s with cond := some uptoSmall }

/-- 'detentlaw14.CopyPlays', WHERE WHAT IT READS IS OF BULK AT MOST 1048576: true; the input reads as it did. -/
def copyPlaysUptoRow : OpenClaim := { program := "ytcdolkbljheniaa", sum := "656bf715e5f3d67e22956f9de4c3acd133e17552156bf4e920d7b35dc111f554", func := "detent/detentlaw14.CopyPlays", spec := "copyPlays", unfollowed := true, recurses := true, apart := false, narrowed := true }
def CopyPlaysUptoSaid : Prop := copyPlaysUptoRow.holds Try.pinned (OpenSpec.upto copyPlaysSpec)

/-- 'detentlaw14.CopyWhole', WHERE WHAT IT READS IS OF BULK AT MOST 1048576: true; the input reads as it did. -/
def copyWholeUptoRow : OpenClaim := { program := "ytcdolkbljheniaa", sum := "656bf715e5f3d67e22956f9de4c3acd133e17552156bf4e920d7b35dc111f554", func := "detent/detentlaw14.CopyWhole", spec := "copyWhole", unfollowed := true, recurses := true, apart := false, narrowed := true }
def CopyWholeUptoSaid : Prop := copyWholeUptoRow.holds Try.pinned (OpenSpec.upto copyWholeSpec)

/-- 'detentlaw14.CopyOuts', WHERE WHAT IT READS IS OF BULK AT MOST 1048576: true; the input reads as it did. -/
def copyOutsUptoRow : OpenClaim := { program := "ytcdolkbljheniaa", sum := "656bf715e5f3d67e22956f9de4c3acd133e17552156bf4e920d7b35dc111f554", func := "detent/detentlaw14.CopyOuts", spec := "copyOuts", unfollowed := true, recurses := true, apart := false, narrowed := true }
def CopyOutsUptoSaid : Prop := copyOutsUptoRow.holds Try.pinned (OpenSpec.upto copyOutsSpec)

/-- 'detentlaw14.CopyPaged', WHERE WHAT IT READS IS OF BULK AT MOST 1048576: true; the input reads as it did. -/
def copyPagedUptoRow : OpenClaim := { program := "ytcdolkbljheniaa", sum := "656bf715e5f3d67e22956f9de4c3acd133e17552156bf4e920d7b35dc111f554", func := "detent/detentlaw14.CopyPaged", spec := "copyPaged", unfollowed := true, recurses := true, apart := false, narrowed := true }
def CopyPagedUptoSaid : Prop := copyPagedUptoRow.holds Try.pinned (OpenSpec.upto copyPagedSpec)

/-- 'detentlaw14.CopyNil', WHERE WHAT IT READS IS OF BULK AT MOST 1048576: true; the input reads as it did. -/
def copyNilUptoRow : OpenClaim := { program := "ytcdolkbljheniaa", sum := "656bf715e5f3d67e22956f9de4c3acd133e17552156bf4e920d7b35dc111f554", func := "detent/detentlaw14.CopyNil", spec := "copyNil", unfollowed := true, recurses := true, apart := false, narrowed := true }
def CopyNilUptoSaid : Prop := copyNilUptoRow.holds Try.pinned (OpenSpec.upto copyNilSpec)

end Rows
end Go.Proofs.Ytcdolkbljheniaa
