/-
  No cell of these rows narrows 'for every input' (looked for: loops, veiled, ifaces, maps, wideKeys, modest, calm, conditions, laid).
  DERIVED. THE GIVEN ROWS OF THIS SEAT. 4 by the template 'for every input the law returns true; each argument reads behind the call as it read before'; 0 by the template 'total and deterministic' (their statements: YtlffcccicpdnfaaTotals.lean).
  GIVEN WITH THE SEED: the statements are not yours to turn. If you find one false, say at which input.
  Laid BY PROGRAM, IN A SANDBOX (cutbox-rows.mjs): the forced cells as the released guide's own fill.sh prints them over the translation 53511211d3872ea3… (all of the seat's roots in one cut). By AI agents, Wed Nov 11 2026. No macro, syntax, notation, axiom, sorry.
-/
import Derived.Test.YtlffcccicpdnfaaChecked
import GoSem.Claim
import GoSem.ClaimJoined
import GoSem.ClaimMapViews
import Derived.JoinedTies
import Derived.KernelRfl
namespace Go.Proofs.Ytlffcccicpdnfaa
/- THE CELL 'sum', in the pinned program and in every row, IS THE sha256 OF THE DUMP (.gsa) THAT YtlffcccicpdnfaaProg.lean LOADS. Nothing in Lean hashes anything: it is a label: what it is worth is what the hold of that sum in a sandbox is worth. -/
noncomputable def Try.pinned : Pinned := { name := "ytlffcccicpdnfaa", sum := "53511211d3872ea3347ba8fc77f5971aeceb61c80789e3c88cd1e1ed84a17d58", checked := Try.checked }
namespace Rows
def none {H : Type} : Left H := { results := [], args := [] }

/-- 'detentlaw18.FrameSets': WHATEVER THE INPUT: true; the input reads as it did. -/
def frameSetsSpec : ChangeSpec := { name := "frameSets", fn := fun _ => fun
  | [d] => { results := [.lit (.bool true)], args := [d] }
  | _ => none }
def frameSetsRow : OpenClaim := { program := "ytlffcccicpdnfaa", sum := "53511211d3872ea3347ba8fc77f5971aeceb61c80789e3c88cd1e1ed84a17d58", func := "detent/detentlaw18.FrameSets", spec := "frameSets", unfollowed := true, recurses := true, apart := false }
def FrameSetsSaid : Prop := frameSetsRow.holds Try.pinned (OpenSpec.ofChange frameSetsSpec)

/-- ITS FALSE NEIGHBOUR: 'it returns false'. Refute it at one input. -/
def frameSetsWrong : ChangeSpec := { name := "frameSets", fn := fun _ => fun
  | [d] => { results := [.lit (.bool false)], args := [d] }
  | _ => none }
def FrameSetsWrongFalsely : Prop := frameSetsRow.holds Try.pinned (OpenSpec.ofChange frameSetsWrong)

/-- 'detentlaw18.FrameBytes': WHATEVER THE INPUT: true; the input reads as it did. -/
def frameBytesSpec : ChangeSpec := { name := "frameBytes", fn := fun _ => fun
  | [d1, d2, d3, d4, d5] => { results := [.lit (.bool true)], args := [d1, d2, d3, d4, d5] }
  | _ => none }
def frameBytesRow : OpenClaim := { program := "ytlffcccicpdnfaa", sum := "53511211d3872ea3347ba8fc77f5971aeceb61c80789e3c88cd1e1ed84a17d58", func := "detent/detentlaw18.FrameBytes", spec := "frameBytes", unfollowed := true, recurses := true, apart := false }
def FrameBytesSaid : Prop := frameBytesRow.holds Try.pinned (OpenSpec.ofChange frameBytesSpec)

/-- ITS FALSE NEIGHBOUR: 'it returns false'. Refute it at one input. -/
def frameBytesWrong : ChangeSpec := { name := "frameBytes", fn := fun _ => fun
  | [d1, d2, d3, d4, d5] => { results := [.lit (.bool false)], args := [d1, d2, d3, d4, d5] }
  | _ => none }
def FrameBytesWrongFalsely : Prop := frameBytesRow.holds Try.pinned (OpenSpec.ofChange frameBytesWrong)

/-- 'detentlaw18.FrameRefs': WHATEVER THE INPUT: true; the input reads as it did. -/
def frameRefsSpec : ChangeSpec := { name := "frameRefs", fn := fun _ => fun
  | [d1, d2] => { results := [.lit (.bool true)], args := [d1, d2] }
  | _ => none }
def frameRefsRow : OpenClaim := { program := "ytlffcccicpdnfaa", sum := "53511211d3872ea3347ba8fc77f5971aeceb61c80789e3c88cd1e1ed84a17d58", func := "detent/detentlaw18.FrameRefs", spec := "frameRefs", unfollowed := true, recurses := true, apart := false }
def FrameRefsSaid : Prop := frameRefsRow.holds Try.pinned (OpenSpec.ofChange frameRefsSpec)

/-- ITS FALSE NEIGHBOUR: 'it returns false'. Refute it at one input. -/
def frameRefsWrong : ChangeSpec := { name := "frameRefs", fn := fun _ => fun
  | [d1, d2] => { results := [.lit (.bool false)], args := [d1, d2] }
  | _ => none }
def FrameRefsWrongFalsely : Prop := frameRefsRow.holds Try.pinned (OpenSpec.ofChange frameRefsWrong)

/-- 'detentlaw18.FrameNil': WHATEVER THE INPUT: true; the input reads as it did. -/
def frameNilSpec : ChangeSpec := { name := "frameNil", fn := fun _ => fun
  | [d1, d2, d3, d4] => { results := [.lit (.bool true)], args := [d1, d2, d3, d4] }
  | _ => none }
def frameNilRow : OpenClaim := { program := "ytlffcccicpdnfaa", sum := "53511211d3872ea3347ba8fc77f5971aeceb61c80789e3c88cd1e1ed84a17d58", func := "detent/detentlaw18.FrameNil", spec := "frameNil", unfollowed := true, recurses := true, apart := false }
def FrameNilSaid : Prop := frameNilRow.holds Try.pinned (OpenSpec.ofChange frameNilSpec)

/-- ITS FALSE NEIGHBOUR: 'it returns false'. Refute it at one input. -/
def frameNilWrong : ChangeSpec := { name := "frameNil", fn := fun _ => fun
  | [d1, d2, d3, d4] => { results := [.lit (.bool false)], args := [d1, d2, d3, d4] }
  | _ => none }
def FrameNilWrongFalsely : Prop := frameNilRow.holds Try.pinned (OpenSpec.ofChange frameNilWrong)

/- THE SECOND FORM. 'bulk': how many values and letters a reading holds, each counted each time it is reached (what is shared counts as often as it is met; a slice's spare places count too). A statement '..UptoSaid' is the law's where the arguments, and the package variables that the reading takes, are together of bulk at most 1048576: NARROWER than '..Said'. Prove '..Said' where nothing that the law and all that it calls make is longer than what came in: it says more and counts as full. Else prove '..UptoSaid'. A law counts once. -/
mutual
def uptoBulk {H : Type} : DataW H → Nat
  | .lit (.string bytes) => bytes.length + 1
  | .lit _ => 1
  | .nil => 1
  | .ptr d => uptoBulk d + 1
  | .slice elems spare => uptoBulkAll elems + uptoBulkAll spare + 1
  | .agg parts => uptoBulkAll parts + 1
  | .iface _ d => uptoBulk d + 1
  | .map entries => uptoBulkEntries entries + 1
  | .held _ => 1
def uptoBulkAll {H : Type} : List (DataW H) → Nat
  | [] => 0
  | d :: r => uptoBulk d + uptoBulkAll r
def uptoBulkEntries {H : Type} : List (Lit × DataW H) → Nat
  | [] => 0
  | x :: r => uptoBulkEntry x + uptoBulkEntries r
def uptoBulkEntry {H : Type} : Lit × DataW H → Nat
  | (.string bytes, d) => bytes.length + uptoBulk d + 1
  | (_, d) => uptoBulk d + 1
 end
def uptoSmall : (H : Type) → List (DataW H) → Bool := fun _ ds => decide (uptoBulkAll ds ≤ 1048576)
def OpenSpec.upto (s : _root_.Go.ChangeSpec) : _root_.Go.OpenSpec := { _root_.Go.OpenSpec.ofChange s with cond := some uptoSmall }

/-- 'detentlaw18.FrameSets', WHERE WHAT IT READS IS OF BULK AT MOST 1048576: true; the input reads as it did. -/
def frameSetsUptoRow : OpenClaim := { program := "ytlffcccicpdnfaa", sum := "53511211d3872ea3347ba8fc77f5971aeceb61c80789e3c88cd1e1ed84a17d58", func := "detent/detentlaw18.FrameSets", spec := "frameSets", unfollowed := true, recurses := true, apart := false, narrowed := true }
def FrameSetsUptoSaid : Prop := frameSetsUptoRow.holds Try.pinned (OpenSpec.upto frameSetsSpec)

/-- 'detentlaw18.FrameBytes', WHERE WHAT IT READS IS OF BULK AT MOST 1048576: true; the input reads as it did. -/
def frameBytesUptoRow : OpenClaim := { program := "ytlffcccicpdnfaa", sum := "53511211d3872ea3347ba8fc77f5971aeceb61c80789e3c88cd1e1ed84a17d58", func := "detent/detentlaw18.FrameBytes", spec := "frameBytes", unfollowed := true, recurses := true, apart := false, narrowed := true }
def FrameBytesUptoSaid : Prop := frameBytesUptoRow.holds Try.pinned (OpenSpec.upto frameBytesSpec)

/-- 'detentlaw18.FrameRefs', WHERE WHAT IT READS IS OF BULK AT MOST 1048576: true; the input reads as it did. -/
def frameRefsUptoRow : OpenClaim := { program := "ytlffcccicpdnfaa", sum := "53511211d3872ea3347ba8fc77f5971aeceb61c80789e3c88cd1e1ed84a17d58", func := "detent/detentlaw18.FrameRefs", spec := "frameRefs", unfollowed := true, recurses := true, apart := false, narrowed := true }
def FrameRefsUptoSaid : Prop := frameRefsUptoRow.holds Try.pinned (OpenSpec.upto frameRefsSpec)

/-- 'detentlaw18.FrameNil', WHERE WHAT IT READS IS OF BULK AT MOST 1048576: true; the input reads as it did. -/
def frameNilUptoRow : OpenClaim := { program := "ytlffcccicpdnfaa", sum := "53511211d3872ea3347ba8fc77f5971aeceb61c80789e3c88cd1e1ed84a17d58", func := "detent/detentlaw18.FrameNil", spec := "frameNil", unfollowed := true, recurses := true, apart := false, narrowed := true }
def FrameNilUptoSaid : Prop := frameNilUptoRow.holds Try.pinned (OpenSpec.upto frameNilSpec)

end Rows
end Go.Proofs.Ytlffcccicpdnfaa
