/-
  No cell of these rows narrows 'for every input' (looked for: loops, veiled, ifaces, maps, wideKeys, modest, calm, conditions, laid).
  DERIVED. THE GIVEN ROWS OF THIS SEAT. 5 by the template 'for every input the law returns true; each argument reads behind the call as it read before'; 0 by the template 'total and deterministic' (their statements: YtalhlopjaijhcaaGreatTotals.lean).
  GIVEN WITH THE SEED: the statements are not yours to turn. If you find one false, say at which input.
  Laid BY PROGRAM, IN A SANDBOX (cutbox-rows.mjs): the forced cells as the released guide's own fill.sh prints them over the translation 7ed73459045b8236… (all of the seat's roots in one cut). By AI agents, Wed Nov 11 2026. No macro, syntax, notation, axiom, sorry.
-/
import Derived.Test.YtalhlopjaijhcaaGreatChecked
import GoSem.Claim
import GoSem.ClaimJoined
import GoSem.ClaimMapViews
import Derived.JoinedTies
import Derived.KernelRfl
namespace Go.Proofs.YtalhlopjaijhcaaGreat
/- THE CELL 'sum', in the pinned program and in every row, IS THE sha256 OF THE DUMP (.gsa) THAT YtalhlopjaijhcaaGreatProg.lean LOADS. Nothing in Lean hashes anything: it is a label: what it is worth is what the hold of that sum in a sandbox is worth. -/
noncomputable def Tryz.pinned : Pinned := { name := "ytalhlopjaijhcaagreat", sum := "7ed73459045b82368f4e86424ea22be1aa5afce61ae402f95bff0bab1bd6584d", checked := Tryz.checked }
namespace Rows
def none {H : Type} : Left H := { results := [], args := [] }

/-- 'detentlaw22.XmapPlays': WHATEVER THE INPUT: true; the input reads as it did. -/
def xmapPlaysSpec : ChangeSpec := { name := "xmapPlays", fn := fun _ => fun
  | [d1, d2, d3, d4] => { results := [.lit (.bool true)], args := [d1, d2, d3, d4] }
  | _ => none }
def xmapPlaysRow : OpenClaim := { program := "ytalhlopjaijhcaagreat", sum := "7ed73459045b82368f4e86424ea22be1aa5afce61ae402f95bff0bab1bd6584d", func := "detent/detentlaw22.XmapPlays", spec := "xmapPlays", inPlace := ["slices.overlaps[detent/buckets.entry[detent/arena.Handle]]"], unfollowed := true, recurses := true, plainKeys := false, apart := false }
def XmapPlaysSaid : Prop := xmapPlaysRow.holds Tryz.pinned (OpenSpec.ofChange xmapPlaysSpec)

/-- ITS FALSE NEIGHBOUR: 'it returns false'. Refute it at one input. -/
def xmapPlaysWrong : ChangeSpec := { name := "xmapPlays", fn := fun _ => fun
  | [d1, d2, d3, d4] => { results := [.lit (.bool false)], args := [d1, d2, d3, d4] }
  | _ => none }
def XmapPlaysWrongFalsely : Prop := xmapPlaysRow.holds Tryz.pinned (OpenSpec.ofChange xmapPlaysWrong)

/-- 'detentlaw22.XmapOldest': WHATEVER THE INPUT: true; the input reads as it did. -/
def xmapOldestSpec : ChangeSpec := { name := "xmapOldest", fn := fun _ => fun
  | [d1, d2, d3] => { results := [.lit (.bool true)], args := [d1, d2, d3] }
  | _ => none }
def xmapOldestRow : OpenClaim := { program := "ytalhlopjaijhcaagreat", sum := "7ed73459045b82368f4e86424ea22be1aa5afce61ae402f95bff0bab1bd6584d", func := "detent/detentlaw22.XmapOldest", spec := "xmapOldest", inPlace := ["slices.overlaps[detent/buckets.entry[detent/arena.Handle]]"], unfollowed := true, recurses := true, plainKeys := false, apart := false }
def XmapOldestSaid : Prop := xmapOldestRow.holds Tryz.pinned (OpenSpec.ofChange xmapOldestSpec)

/-- ITS FALSE NEIGHBOUR: 'it returns false'. Refute it at one input. -/
def xmapOldestWrong : ChangeSpec := { name := "xmapOldest", fn := fun _ => fun
  | [d1, d2, d3] => { results := [.lit (.bool false)], args := [d1, d2, d3] }
  | _ => none }
def XmapOldestWrongFalsely : Prop := xmapOldestRow.holds Tryz.pinned (OpenSpec.ofChange xmapOldestWrong)

/-- 'detentlaw22.XmapKeeps': WHATEVER THE INPUT: true; the input reads as it did. -/
def xmapKeepsSpec : ChangeSpec := { name := "xmapKeeps", fn := fun _ => fun
  | [d1, d2, d3, d4] => { results := [.lit (.bool true)], args := [d1, d2, d3, d4] }
  | _ => none }
def xmapKeepsRow : OpenClaim := { program := "ytalhlopjaijhcaagreat", sum := "7ed73459045b82368f4e86424ea22be1aa5afce61ae402f95bff0bab1bd6584d", func := "detent/detentlaw22.XmapKeeps", spec := "xmapKeeps", inPlace := ["slices.overlaps[detent/buckets.entry[detent/arena.Handle]]"], unfollowed := true, recurses := true, plainKeys := false, apart := false }
def XmapKeepsSaid : Prop := xmapKeepsRow.holds Tryz.pinned (OpenSpec.ofChange xmapKeepsSpec)

/-- ITS FALSE NEIGHBOUR: 'it returns false'. Refute it at one input. -/
def xmapKeepsWrong : ChangeSpec := { name := "xmapKeeps", fn := fun _ => fun
  | [d1, d2, d3, d4] => { results := [.lit (.bool false)], args := [d1, d2, d3, d4] }
  | _ => none }
def XmapKeepsWrongFalsely : Prop := xmapKeepsRow.holds Tryz.pinned (OpenSpec.ofChange xmapKeepsWrong)

/-- 'detentlaw22.XmapArrays': WHATEVER THE INPUT: true; the input reads as it did. -/
def xmapArraysSpec : ChangeSpec := { name := "xmapArrays", fn := fun _ => fun
  | [d1, d2, d3] => { results := [.lit (.bool true)], args := [d1, d2, d3] }
  | _ => none }
def xmapArraysRow : OpenClaim := { program := "ytalhlopjaijhcaagreat", sum := "7ed73459045b82368f4e86424ea22be1aa5afce61ae402f95bff0bab1bd6584d", func := "detent/detentlaw22.XmapArrays", spec := "xmapArrays", inPlace := ["slices.overlaps[detent/buckets.entry[detent/arena.Handle]]"], unfollowed := true, recurses := true, plainKeys := false, apart := false }
def XmapArraysSaid : Prop := xmapArraysRow.holds Tryz.pinned (OpenSpec.ofChange xmapArraysSpec)

/-- ITS FALSE NEIGHBOUR: 'it returns false'. Refute it at one input. -/
def xmapArraysWrong : ChangeSpec := { name := "xmapArrays", fn := fun _ => fun
  | [d1, d2, d3] => { results := [.lit (.bool false)], args := [d1, d2, d3] }
  | _ => none }
def XmapArraysWrongFalsely : Prop := xmapArraysRow.holds Tryz.pinned (OpenSpec.ofChange xmapArraysWrong)

/-- 'detentlaw22.XmapNil': WHATEVER THE INPUT: true; the input reads as it did. -/
def xmapNilSpec : ChangeSpec := { name := "xmapNil", fn := fun _ => fun
  | [d1, d2, d3] => { results := [.lit (.bool true)], args := [d1, d2, d3] }
  | _ => none }
def xmapNilRow : OpenClaim := { program := "ytalhlopjaijhcaagreat", sum := "7ed73459045b82368f4e86424ea22be1aa5afce61ae402f95bff0bab1bd6584d", func := "detent/detentlaw22.XmapNil", spec := "xmapNil", inPlace := ["slices.overlaps[detent/buckets.entry[detent/arena.Handle]]"], unfollowed := true, recurses := true, plainKeys := false, apart := false }
def XmapNilSaid : Prop := xmapNilRow.holds Tryz.pinned (OpenSpec.ofChange xmapNilSpec)

/-- ITS FALSE NEIGHBOUR: 'it returns false'. Refute it at one input. -/
def xmapNilWrong : ChangeSpec := { name := "xmapNil", fn := fun _ => fun
  | [d1, d2, d3] => { results := [.lit (.bool false)], args := [d1, d2, d3] }
  | _ => none }
def XmapNilWrongFalsely : Prop := xmapNilRow.holds Tryz.pinned (OpenSpec.ofChange xmapNilWrong)

/- THE SECOND FORM. 'bulk': how many values and letters a reading holds, each counted each time it is reached (what is shared counts as often as it is met; a slice's spare places count too). A statement '..UptoSaid' is the law's where the arguments, and the package variables that the reading takes, are together of bulk at most 1048576: NARROWER than '..Said'. Prove '..Said' where nothing that the law and all that it calls make is longer than what came in: it says more and counts as full. Else prove '..UptoSaid'. A law counts once. -/
mutual
def uptoBulk {H : Type} : DataW H → Nat
  | .lit (.string bytes) => bytes.length + 1
  | .lit _ => 1
  | .nil => 1
  | .ptr d => uptoBulk d + 1
  | .slice elems spare => uptoBulkAll elems + uptoBulkAll spare + 1
  | .agg parts => uptoBulkAll parts + 1
  | .iface _ d => uptoBulk d + 1
  | .map entries => uptoBulkEntries entries + 1
  | .held _ => 1
def uptoBulkAll {H : Type} : List (DataW H) → Nat
  | [] => 0
  | d :: r => uptoBulk d + uptoBulkAll r
def uptoBulkEntries {H : Type} : List (Lit × DataW H) → Nat
  | [] => 0
  | x :: r => uptoBulkEntry x + uptoBulkEntries r
def uptoBulkEntry {H : Type} : Lit × DataW H → Nat
  | (.string bytes, d) => bytes.length + uptoBulk d + 1
  | (_, d) => uptoBulk d + 1
 end
def uptoSmall : (H : Type) → List (DataW H) → Bool := fun _ ds => decide (uptoBulkAll ds ≤ 1048576)
def OpenSpec.upto (s : _root_.Go.ChangeSpec) : _root_.Go.OpenSpec := { _root_.Go.OpenSpec.ofChange s with cond := some uptoSmall }

/-- 'detentlaw22.XmapPlays', WHERE WHAT IT READS IS OF BULK AT MOST 1048576: true; the input reads as it did. -/
def xmapPlaysUptoRow : OpenClaim := { program := "ytalhlopjaijhcaagreat", sum := "7ed73459045b82368f4e86424ea22be1aa5afce61ae402f95bff0bab1bd6584d", func := "detent/detentlaw22.XmapPlays", spec := "xmapPlays", inPlace := ["slices.overlaps[detent/buckets.entry[detent/arena.Handle]]"], unfollowed := true, recurses := true, plainKeys := false, apart := false, narrowed := true }
def XmapPlaysUptoSaid : Prop := xmapPlaysUptoRow.holds Tryz.pinned (OpenSpec.upto xmapPlaysSpec)

/-- 'detentlaw22.XmapOldest', WHERE WHAT IT READS IS OF BULK AT MOST 1048576: true; the input reads as it did. -/
def xmapOldestUptoRow : OpenClaim := { program := "ytalhlopjaijhcaagreat", sum := "7ed73459045b82368f4e86424ea22be1aa5afce61ae402f95bff0bab1bd6584d", func := "detent/detentlaw22.XmapOldest", spec := "xmapOldest", inPlace := ["slices.overlaps[detent/buckets.entry[detent/arena.Handle]]"], unfollowed := true, recurses := true, plainKeys := false, apart := false, narrowed := true }
def XmapOldestUptoSaid : Prop := xmapOldestUptoRow.holds Tryz.pinned (OpenSpec.upto xmapOldestSpec)

/-- 'detentlaw22.XmapKeeps', WHERE WHAT IT READS IS OF BULK AT MOST 1048576: true; the input reads as it did. -/
def xmapKeepsUptoRow : OpenClaim := { program := "ytalhlopjaijhcaagreat", sum := "7ed73459045b82368f4e86424ea22be1aa5afce61ae402f95bff0bab1bd6584d", func := "detent/detentlaw22.XmapKeeps", spec := "xmapKeeps", inPlace := ["slices.overlaps[detent/buckets.entry[detent/arena.Handle]]"], unfollowed := true, recurses := true, plainKeys := false, apart := false, narrowed := true }
def XmapKeepsUptoSaid : Prop := xmapKeepsUptoRow.holds Tryz.pinned (OpenSpec.upto xmapKeepsSpec)

/-- 'detentlaw22.XmapArrays', WHERE WHAT IT READS IS OF BULK AT MOST 1048576: true; the input reads as it did. -/
def xmapArraysUptoRow : OpenClaim := { program := "ytalhlopjaijhcaagreat", sum := "7ed73459045b82368f4e86424ea22be1aa5afce61ae402f95bff0bab1bd6584d", func := "detent/detentlaw22.XmapArrays", spec := "xmapArrays", inPlace := ["slices.overlaps[detent/buckets.entry[detent/arena.Handle]]"], unfollowed := true, recurses := true, plainKeys := false, apart := false, narrowed := true }
def XmapArraysUptoSaid : Prop := xmapArraysUptoRow.holds Tryz.pinned (OpenSpec.upto xmapArraysSpec)

/-- 'detentlaw22.XmapNil', WHERE WHAT IT READS IS OF BULK AT MOST 1048576: true; the input reads as it did. -/
def xmapNilUptoRow : OpenClaim := { program := "ytalhlopjaijhcaagreat", sum := "7ed73459045b82368f4e86424ea22be1aa5afce61ae402f95bff0bab1bd6584d", func := "detent/detentlaw22.XmapNil", spec := "xmapNil", inPlace := ["slices.overlaps[detent/buckets.entry[detent/arena.Handle]]"], unfollowed := true, recurses := true, plainKeys := false, apart := false, narrowed := true }
def XmapNilUptoSaid : Prop := xmapNilUptoRow.holds Tryz.pinned (OpenSpec.upto xmapNilSpec)

end Rows
end Go.Proofs.YtalhlopjaijhcaaGreat
