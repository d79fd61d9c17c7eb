/-
  No cell of these rows narrows 'for every input' (looked for: loops, veiled, ifaces, maps, wideKeys, modest, calm, conditions, laid).
  DERIVED. THE GIVEN ROWS OF THIS SEAT. 4 by the template 'for every input the law returns true; each argument reads behind the call as it read before'; 0 by the template 'total and deterministic' (their statements: YtaccfjlpojglpaaTotals.lean).
  GIVEN WITH THE SEED: the statements are not yours to turn. If you find one false, say at which input.
  Laid BY PROGRAM, IN A SANDBOX (cutbox-rows.mjs): the forced cells as the released guide's own fill.sh prints them over the translation 9980dc6cc15f4bda… (all of the seat's roots in one cut). By AI agents, Wed Nov 11 2026. No macro, syntax, notation, axiom, sorry.
-/
import Derived.Test.YtaccfjlpojglpaaChecked
import GoSem.Claim
import GoSem.ClaimJoined
import GoSem.ClaimMapViews
import Derived.JoinedTies
import Derived.KernelRfl
namespace Go.Proofs.Ytaccfjlpojglpaa
/- THE CELL 'sum', in the pinned program and in every row, IS THE sha256 OF THE DUMP (.gsa) THAT YtaccfjlpojglpaaProg.lean LOADS. Nothing in Lean hashes anything: it is a label: what it is worth is what the hold of that sum in a sandbox is worth. -/
noncomputable def Try.pinned : Pinned := { name := "ytaccfjlpojglpaa", sum := "9980dc6cc15f4bda0871310b5c361b1522bd144fa48a81e64829b0c2edfbd35f", checked := Try.checked }
namespace Rows
def none {H : Type} : Left H := { results := [], args := [] }

/-- 'detentlaw21.BucketsPlay': WHATEVER THE INPUT: true; the input reads as it did. -/
def bucketsPlaySpec : ChangeSpec := { name := "bucketsPlay", fn := fun _ => fun
  | [d1, d2, d3] => { results := [.lit (.bool true)], args := [d1, d2, d3] }
  | _ => none }
def bucketsPlayRow : OpenClaim := { program := "ytaccfjlpojglpaa", sum := "9980dc6cc15f4bda0871310b5c361b1522bd144fa48a81e64829b0c2edfbd35f", func := "detent/detentlaw21.BucketsPlay", spec := "bucketsPlay", inPlace := ["slices.overlaps[detent/buckets.entry[int]]"], unfollowed := true, recurses := true, apart := false }
def BucketsPlaySaid : Prop := bucketsPlayRow.holds Try.pinned (OpenSpec.ofChange bucketsPlaySpec)

/-- ITS FALSE NEIGHBOUR: 'it returns false'. Refute it at one input. -/
def bucketsPlayWrong : ChangeSpec := { name := "bucketsPlay", fn := fun _ => fun
  | [d1, d2, d3] => { results := [.lit (.bool false)], args := [d1, d2, d3] }
  | _ => none }
def BucketsPlayWrongFalsely : Prop := bucketsPlayRow.holds Try.pinned (OpenSpec.ofChange bucketsPlayWrong)

/-- 'detentlaw21.BucketsFind': WHATEVER THE INPUT: true; the input reads as it did. -/
def bucketsFindSpec : ChangeSpec := { name := "bucketsFind", fn := fun _ => fun
  | [d1, d2, d3, d4] => { results := [.lit (.bool true)], args := [d1, d2, d3, d4] }
  | _ => none }
def bucketsFindRow : OpenClaim := { program := "ytaccfjlpojglpaa", sum := "9980dc6cc15f4bda0871310b5c361b1522bd144fa48a81e64829b0c2edfbd35f", func := "detent/detentlaw21.BucketsFind", spec := "bucketsFind", inPlace := ["slices.overlaps[detent/buckets.entry[string]]", "slices.overlaps[detent/buckets.entry[int]]"], unfollowed := true, recurses := true, apart := false }
def BucketsFindSaid : Prop := bucketsFindRow.holds Try.pinned (OpenSpec.ofChange bucketsFindSpec)

/-- ITS FALSE NEIGHBOUR: 'it returns false'. Refute it at one input. -/
def bucketsFindWrong : ChangeSpec := { name := "bucketsFind", fn := fun _ => fun
  | [d1, d2, d3, d4] => { results := [.lit (.bool false)], args := [d1, d2, d3, d4] }
  | _ => none }
def BucketsFindWrongFalsely : Prop := bucketsFindRow.holds Try.pinned (OpenSpec.ofChange bucketsFindWrong)

/-- 'detentlaw21.BucketsSpread': WHATEVER THE INPUT: true; the input reads as it did. -/
def bucketsSpreadSpec : ChangeSpec := { name := "bucketsSpread", fn := fun _ => fun
  | [d1, d2] => { results := [.lit (.bool true)], args := [d1, d2] }
  | _ => none }
def bucketsSpreadRow : OpenClaim := { program := "ytaccfjlpojglpaa", sum := "9980dc6cc15f4bda0871310b5c361b1522bd144fa48a81e64829b0c2edfbd35f", func := "detent/detentlaw21.BucketsSpread", spec := "bucketsSpread", inPlace := ["slices.overlaps[detent/buckets.entry[bool]]", "slices.overlaps[detent/buckets.entry[int]]"], unfollowed := true, recurses := true, apart := false }
def BucketsSpreadSaid : Prop := bucketsSpreadRow.holds Try.pinned (OpenSpec.ofChange bucketsSpreadSpec)

/-- ITS FALSE NEIGHBOUR: 'it returns false'. Refute it at one input. -/
def bucketsSpreadWrong : ChangeSpec := { name := "bucketsSpread", fn := fun _ => fun
  | [d1, d2] => { results := [.lit (.bool false)], args := [d1, d2] }
  | _ => none }
def BucketsSpreadWrongFalsely : Prop := bucketsSpreadRow.holds Try.pinned (OpenSpec.ofChange bucketsSpreadWrong)

/-- 'detentlaw21.BucketsNil': WHATEVER THE INPUT: true; the input reads as it did. -/
def bucketsNilSpec : ChangeSpec := { name := "bucketsNil", fn := fun _ => fun
  | [d1, d2] => { results := [.lit (.bool true)], args := [d1, d2] }
  | _ => none }
def bucketsNilRow : OpenClaim := { program := "ytaccfjlpojglpaa", sum := "9980dc6cc15f4bda0871310b5c361b1522bd144fa48a81e64829b0c2edfbd35f", func := "detent/detentlaw21.BucketsNil", spec := "bucketsNil", inPlace := ["slices.overlaps[detent/buckets.entry[int]]"], unfollowed := true, recurses := true, apart := false }
def BucketsNilSaid : Prop := bucketsNilRow.holds Try.pinned (OpenSpec.ofChange bucketsNilSpec)

/-- ITS FALSE NEIGHBOUR: 'it returns false'. Refute it at one input. -/
def bucketsNilWrong : ChangeSpec := { name := "bucketsNil", fn := fun _ => fun
  | [d1, d2] => { results := [.lit (.bool false)], args := [d1, d2] }
  | _ => none }
def BucketsNilWrongFalsely : Prop := bucketsNilRow.holds Try.pinned (OpenSpec.ofChange bucketsNilWrong)

/- THE SECOND FORM. 'bulk': how many values and letters a reading holds, each counted each time it is reached (what is shared counts as often as it is met; a slice's spare places count too). A statement '..UptoSaid' is the law's where the arguments, and the package variables that the reading takes, are together of bulk at most 1048576: NARROWER than '..Said'. Prove '..Said' where nothing that the law and all that it calls make is longer than what came in: it says more and counts as full. Else prove '..UptoSaid'. A law counts once. -/
mutual
def uptoBulk {H : Type} : DataW H → Nat
  | .lit (.string bytes) => bytes.length + 1
  | .lit _ => 1
  | .nil => 1
  | .ptr d => uptoBulk d + 1
  | .slice elems spare => uptoBulkAll elems + uptoBulkAll spare + 1
  | .agg parts => uptoBulkAll parts + 1
  | .iface _ d => uptoBulk d + 1
  | .map entries => uptoBulkEntries entries + 1
  | .held _ => 1
def uptoBulkAll {H : Type} : List (DataW H) → Nat
  | [] => 0
  | d :: r => uptoBulk d + uptoBulkAll r
def uptoBulkEntries {H : Type} : List (Lit × DataW H) → Nat
  | [] => 0
  | x :: r => uptoBulkEntry x + uptoBulkEntries r
def uptoBulkEntry {H : Type} : Lit × DataW H → Nat
  | (.string bytes, d) => bytes.length + uptoBulk d + 1
  | (_, d) => uptoBulk d + 1
 end
def uptoSmall : (H : Type) → List (DataW H) → Bool := fun _ ds => decide (uptoBulkAll ds ≤ 1048576)
def OpenSpec.upto (s : _root_.Go.ChangeSpec) : _root_.Go.OpenSpec := { _root_.Go.OpenSpec.ofChange s with cond := some uptoSmall }

/-- 'detentlaw21.BucketsPlay', WHERE WHAT IT READS IS OF BULK AT MOST 1048576: true; the input reads as it did. -/
def bucketsPlayUptoRow : OpenClaim := { program := "ytaccfjlpojglpaa", sum := "9980dc6cc15f4bda0871310b5c361b1522bd144fa48a81e64829b0c2edfbd35f", func := "detent/detentlaw21.BucketsPlay", spec := "bucketsPlay", inPlace := ["slices.overlaps[detent/buckets.entry[int]]"], unfollowed := true, recurses := true, apart := false, narrowed := true }
def BucketsPlayUptoSaid : Prop := bucketsPlayUptoRow.holds Try.pinned (OpenSpec.upto bucketsPlaySpec)

/-- 'detentlaw21.BucketsFind', WHERE WHAT IT READS IS OF BULK AT MOST 1048576: true; the input reads as it did. -/
def bucketsFindUptoRow : OpenClaim := { program := "ytaccfjlpojglpaa", sum := "9980dc6cc15f4bda0871310b5c361b1522bd144fa48a81e64829b0c2edfbd35f", func := "detent/detentlaw21.BucketsFind", spec := "bucketsFind", inPlace := ["slices.overlaps[detent/buckets.entry[string]]", "slices.overlaps[detent/buckets.entry[int]]"], unfollowed := true, recurses := true, apart := false, narrowed := true }
def BucketsFindUptoSaid : Prop := bucketsFindUptoRow.holds Try.pinned (OpenSpec.upto bucketsFindSpec)

/-- 'detentlaw21.BucketsSpread', WHERE WHAT IT READS IS OF BULK AT MOST 1048576: true; the input reads as it did. -/
def bucketsSpreadUptoRow : OpenClaim := { program := "ytaccfjlpojglpaa", sum := "9980dc6cc15f4bda0871310b5c361b1522bd144fa48a81e64829b0c2edfbd35f", func := "detent/detentlaw21.BucketsSpread", spec := "bucketsSpread", inPlace := ["slices.overlaps[detent/buckets.entry[bool]]", "slices.overlaps[detent/buckets.entry[int]]"], unfollowed := true, recurses := true, apart := false, narrowed := true }
def BucketsSpreadUptoSaid : Prop := bucketsSpreadUptoRow.holds Try.pinned (OpenSpec.upto bucketsSpreadSpec)

/-- 'detentlaw21.BucketsNil', WHERE WHAT IT READS IS OF BULK AT MOST 1048576: true; the input reads as it did. -/
def bucketsNilUptoRow : OpenClaim := { program := "ytaccfjlpojglpaa", sum := "9980dc6cc15f4bda0871310b5c361b1522bd144fa48a81e64829b0c2edfbd35f", func := "detent/detentlaw21.BucketsNil", spec := "bucketsNil", inPlace := ["slices.overlaps[detent/buckets.entry[int]]"], unfollowed := true, recurses := true, apart := false, narrowed := true }
def BucketsNilUptoSaid : Prop := bucketsNilUptoRow.holds Try.pinned (OpenSpec.upto bucketsNilSpec)

end Rows
end Go.Proofs.Ytaccfjlpojglpaa
