/-
  No cell of these rows narrows 'for every input' (looked for: loops, veiled, ifaces, maps, wideKeys, modest, calm, conditions, laid).
  DERIVED. THE GIVEN ROWS OF THIS SEAT. 7 by the template 'for every input the law returns true; each argument reads behind the call as it read before'; 0 by the template 'total and deterministic' (their statements: YtnbfficaadlphaaTotals.lean).
  GIVEN WITH THE SEED: the statements are not yours to turn. If you find one false, say at which input.
  Laid BY PROGRAM, IN A SANDBOX (cutbox-rows.mjs): the forced cells as the released guide's own fill.sh prints them over the translation 535ac5e7e1a06122… (all of the seat's roots in one cut). By AI agents, Wed Nov 11 2026. No macro, syntax, notation, axiom, sorry.
-/
import Derived.Test.YtnbfficaadlphaaChecked
import GoSem.Claim
import GoSem.ClaimJoined
import GoSem.ClaimMapViews
import Derived.JoinedTies
import Derived.KernelRfl
namespace Go.Proofs.Ytnbfficaadlphaa
/- THE CELL 'sum', in the pinned program and in every row, IS THE sha256 OF THE DUMP (.gsa) THAT YtnbfficaadlphaaProg.lean LOADS. Nothing in Lean hashes anything: it is a label: what it is worth is what the hold of that sum in a sandbox is worth. -/
noncomputable def Try.pinned : Pinned := { name := "ytnbfficaadlphaa", sum := "535ac5e7e1a06122c119542a984d84689c9cbadfbed9f783bcc45822bb6f64a1", checked := Try.checked }
namespace Rows
def none {H : Type} : Left H := { results := [], args := [] }

/-- 'detentlaw06.LevelGrans': WHATEVER THE INPUT: true; the input reads as it did. -/
def levelGransSpec : ChangeSpec := { name := "levelGrans", fn := fun _ => fun
  | [d1, d2] => { results := [.lit (.bool true)], args := [d1, d2] }
  | _ => none }
def levelGransRow : OpenClaim := { program := "ytnbfficaadlphaa", sum := "535ac5e7e1a06122c119542a984d84689c9cbadfbed9f783bcc45822bb6f64a1", func := "detent/detentlaw06.LevelGrans", spec := "levelGrans", apart := false }
def LevelGransSaid : Prop := levelGransRow.holds Try.pinned (OpenSpec.ofChange levelGransSpec)

/-- ITS FALSE NEIGHBOUR: 'it returns false'. Refute it at one input. -/
def levelGransWrong : ChangeSpec := { name := "levelGrans", fn := fun _ => fun
  | [d1, d2] => { results := [.lit (.bool false)], args := [d1, d2] }
  | _ => none }
def LevelGransWrongFalsely : Prop := levelGransRow.holds Try.pinned (OpenSpec.ofChange levelGransWrong)

/-- 'detentlaw06.LevelPlaces': WHATEVER THE INPUT: true; the input reads as it did. -/
def levelPlacesSpec : ChangeSpec := { name := "levelPlaces", fn := fun _ => fun
  | [d1, d2] => { results := [.lit (.bool true)], args := [d1, d2] }
  | _ => none }
def levelPlacesRow : OpenClaim := { program := "ytnbfficaadlphaa", sum := "535ac5e7e1a06122c119542a984d84689c9cbadfbed9f783bcc45822bb6f64a1", func := "detent/detentlaw06.LevelPlaces", spec := "levelPlaces", apart := false }
def LevelPlacesSaid : Prop := levelPlacesRow.holds Try.pinned (OpenSpec.ofChange levelPlacesSpec)

/-- ITS FALSE NEIGHBOUR: 'it returns false'. Refute it at one input. -/
def levelPlacesWrong : ChangeSpec := { name := "levelPlaces", fn := fun _ => fun
  | [d1, d2] => { results := [.lit (.bool false)], args := [d1, d2] }
  | _ => none }
def LevelPlacesWrongFalsely : Prop := levelPlacesRow.holds Try.pinned (OpenSpec.ofChange levelPlacesWrong)

/-- 'detentlaw06.LevelTimes': WHATEVER THE INPUT: true; the input reads as it did. -/
def levelTimesSpec : ChangeSpec := { name := "levelTimes", fn := fun _ => fun
  | [d1, d2, d3] => { results := [.lit (.bool true)], args := [d1, d2, d3] }
  | _ => none }
def levelTimesRow : OpenClaim := { program := "ytnbfficaadlphaa", sum := "535ac5e7e1a06122c119542a984d84689c9cbadfbed9f783bcc45822bb6f64a1", func := "detent/detentlaw06.LevelTimes", spec := "levelTimes", apart := false }
def LevelTimesSaid : Prop := levelTimesRow.holds Try.pinned (OpenSpec.ofChange levelTimesSpec)

/-- ITS FALSE NEIGHBOUR: 'it returns false'. Refute it at one input. -/
def levelTimesWrong : ChangeSpec := { name := "levelTimes", fn := fun _ => fun
  | [d1, d2, d3] => { results := [.lit (.bool false)], args := [d1, d2, d3] }
  | _ => none }
def LevelTimesWrongFalsely : Prop := levelTimesRow.holds Try.pinned (OpenSpec.ofChange levelTimesWrong)

/-- 'detentlaw06.LevelNear': WHATEVER THE INPUT: true; the input reads as it did. -/
def levelNearSpec : ChangeSpec := { name := "levelNear", fn := fun _ => fun
  | [d1, d2] => { results := [.lit (.bool true)], args := [d1, d2] }
  | _ => none }
def levelNearRow : OpenClaim := { program := "ytnbfficaadlphaa", sum := "535ac5e7e1a06122c119542a984d84689c9cbadfbed9f783bcc45822bb6f64a1", func := "detent/detentlaw06.LevelNear", spec := "levelNear", apart := false }
def LevelNearSaid : Prop := levelNearRow.holds Try.pinned (OpenSpec.ofChange levelNearSpec)

/-- ITS FALSE NEIGHBOUR: 'it returns false'. Refute it at one input. -/
def levelNearWrong : ChangeSpec := { name := "levelNear", fn := fun _ => fun
  | [d1, d2] => { results := [.lit (.bool false)], args := [d1, d2] }
  | _ => none }
def LevelNearWrongFalsely : Prop := levelNearRow.holds Try.pinned (OpenSpec.ofChange levelNearWrong)

/-- 'detentlaw06.LevelMeets': WHATEVER THE INPUT: true; the input reads as it did. -/
def levelMeetsSpec : ChangeSpec := { name := "levelMeets", fn := fun _ => fun
  | [d1, d2, d3] => { results := [.lit (.bool true)], args := [d1, d2, d3] }
  | _ => none }
def levelMeetsRow : OpenClaim := { program := "ytnbfficaadlphaa", sum := "535ac5e7e1a06122c119542a984d84689c9cbadfbed9f783bcc45822bb6f64a1", func := "detent/detentlaw06.LevelMeets", spec := "levelMeets", apart := false }
def LevelMeetsSaid : Prop := levelMeetsRow.holds Try.pinned (OpenSpec.ofChange levelMeetsSpec)

/-- ITS FALSE NEIGHBOUR: 'it returns false'. Refute it at one input. -/
def levelMeetsWrong : ChangeSpec := { name := "levelMeets", fn := fun _ => fun
  | [d1, d2, d3] => { results := [.lit (.bool false)], args := [d1, d2, d3] }
  | _ => none }
def LevelMeetsWrongFalsely : Prop := levelMeetsRow.holds Try.pinned (OpenSpec.ofChange levelMeetsWrong)

/-- 'detentlaw06.LevelApart': WHATEVER THE INPUT: true; the input reads as it did. -/
def levelApartSpec : ChangeSpec := { name := "levelApart", fn := fun _ => fun
  | [d1, d2, d3, d4] => { results := [.lit (.bool true)], args := [d1, d2, d3, d4] }
  | _ => none }
def levelApartRow : OpenClaim := { program := "ytnbfficaadlphaa", sum := "535ac5e7e1a06122c119542a984d84689c9cbadfbed9f783bcc45822bb6f64a1", func := "detent/detentlaw06.LevelApart", spec := "levelApart", apart := false }
def LevelApartSaid : Prop := levelApartRow.holds Try.pinned (OpenSpec.ofChange levelApartSpec)

/-- ITS FALSE NEIGHBOUR: 'it returns false'. Refute it at one input. -/
def levelApartWrong : ChangeSpec := { name := "levelApart", fn := fun _ => fun
  | [d1, d2, d3, d4] => { results := [.lit (.bool false)], args := [d1, d2, d3, d4] }
  | _ => none }
def LevelApartWrongFalsely : Prop := levelApartRow.holds Try.pinned (OpenSpec.ofChange levelApartWrong)

/-- 'detentlaw06.LevelDues': WHATEVER THE INPUT: true; the input reads as it did. -/
def levelDuesSpec : ChangeSpec := { name := "levelDues", fn := fun _ => fun
  | [d1, d2] => { results := [.lit (.bool true)], args := [d1, d2] }
  | _ => none }
def levelDuesRow : OpenClaim := { program := "ytnbfficaadlphaa", sum := "535ac5e7e1a06122c119542a984d84689c9cbadfbed9f783bcc45822bb6f64a1", func := "detent/detentlaw06.LevelDues", spec := "levelDues", unfollowed := true, recurses := true, apart := false }
def LevelDuesSaid : Prop := levelDuesRow.holds Try.pinned (OpenSpec.ofChange levelDuesSpec)

/-- ITS FALSE NEIGHBOUR: 'it returns false'. Refute it at one input. -/
def levelDuesWrong : ChangeSpec := { name := "levelDues", fn := fun _ => fun
  | [d1, d2] => { results := [.lit (.bool false)], args := [d1, d2] }
  | _ => none }
def LevelDuesWrongFalsely : Prop := levelDuesRow.holds Try.pinned (OpenSpec.ofChange levelDuesWrong)

/- THE SECOND FORM. 'bulk': how many values and letters a reading holds, each counted each time it is reached (what is shared counts as often as it is met; a slice's spare places count too). A statement '..UptoSaid' is the law's where the arguments, and the package variables that the reading takes, are together of bulk at most 1048576: NARROWER than '..Said'. Prove '..Said' where nothing that the law and all that it calls make is longer than what came in: it says more and counts as full. Else prove '..UptoSaid'. A law counts once. -/
mutual
def uptoBulk {H : Type} : DataW H → Nat
  | .lit (.string bytes) => bytes.length + 1
  | .lit _ => 1
  | .nil => 1
  | .ptr d => uptoBulk d + 1
  | .slice elems spare => uptoBulkAll elems + uptoBulkAll spare + 1
  | .agg parts => uptoBulkAll parts + 1
  | .iface _ d => uptoBulk d + 1
  | .map entries => uptoBulkEntries entries + 1
  | .held _ => 1
def uptoBulkAll {H : Type} : List (DataW H) → Nat
  | [] => 0
  | d :: r => uptoBulk d + uptoBulkAll r
def uptoBulkEntries {H : Type} : List (Lit × DataW H) → Nat
  | [] => 0
  | x :: r => uptoBulkEntry x + uptoBulkEntries r
def uptoBulkEntry {H : Type} : Lit × DataW H → Nat
  | (.string bytes, d) => bytes.length + uptoBulk d + 1
  | (_, d) => uptoBulk d + 1
 end
def uptoSmall : (H : Type) → List (DataW H) → Bool := fun _ ds => decide (uptoBulkAll ds ≤ 1048576)
def OpenSpec.upto (s : _root_.Go.ChangeSpec) : _root_.Go.OpenSpec := { _root_.Go.OpenSpec.ofChange s with cond := some uptoSmall }

/-- 'detentlaw06.LevelGrans', WHERE WHAT IT READS IS OF BULK AT MOST 1048576: true; the input reads as it did. -/
def levelGransUptoRow : OpenClaim := { program := "ytnbfficaadlphaa", sum := "535ac5e7e1a06122c119542a984d84689c9cbadfbed9f783bcc45822bb6f64a1", func := "detent/detentlaw06.LevelGrans", spec := "levelGrans", apart := false, narrowed := true }
def LevelGransUptoSaid : Prop := levelGransUptoRow.holds Try.pinned (OpenSpec.upto levelGransSpec)

/-- 'detentlaw06.LevelPlaces', WHERE WHAT IT READS IS OF BULK AT MOST 1048576: true; the input reads as it did. -/
def levelPlacesUptoRow : OpenClaim := { program := "ytnbfficaadlphaa", sum := "535ac5e7e1a06122c119542a984d84689c9cbadfbed9f783bcc45822bb6f64a1", func := "detent/detentlaw06.LevelPlaces", spec := "levelPlaces", apart := false, narrowed := true }
def LevelPlacesUptoSaid : Prop := levelPlacesUptoRow.holds Try.pinned (OpenSpec.upto levelPlacesSpec)

/-- 'detentlaw06.LevelTimes', WHERE WHAT IT READS IS OF BULK AT MOST 1048576: true; the input reads as it did. -/
def levelTimesUptoRow : OpenClaim := { program := "ytnbfficaadlphaa", sum := "535ac5e7e1a06122c119542a984d84689c9cbadfbed9f783bcc45822bb6f64a1", func := "detent/detentlaw06.LevelTimes", spec := "levelTimes", apart := false, narrowed := true }
def LevelTimesUptoSaid : Prop := levelTimesUptoRow.holds Try.pinned (OpenSpec.upto levelTimesSpec)

/-- 'detentlaw06.LevelNear', WHERE WHAT IT READS IS OF BULK AT MOST 1048576: true; the input reads as it did. -/
def levelNearUptoRow : OpenClaim := { program := "ytnbfficaadlphaa", sum := "535ac5e7e1a06122c119542a984d84689c9cbadfbed9f783bcc45822bb6f64a1", func := "detent/detentlaw06.LevelNear", spec := "levelNear", apart := false, narrowed := true }
def LevelNearUptoSaid : Prop := levelNearUptoRow.holds Try.pinned (OpenSpec.upto levelNearSpec)

/-- 'detentlaw06.LevelMeets', WHERE WHAT IT READS IS OF BULK AT MOST 1048576: true; the input reads as it did. -/
def levelMeetsUptoRow : OpenClaim := { program := "ytnbfficaadlphaa", sum := "535ac5e7e1a06122c119542a984d84689c9cbadfbed9f783bcc45822bb6f64a1", func := "detent/detentlaw06.LevelMeets", spec := "levelMeets", apart := false, narrowed := true }
def LevelMeetsUptoSaid : Prop := levelMeetsUptoRow.holds Try.pinned (OpenSpec.upto levelMeetsSpec)

/-- 'detentlaw06.LevelApart', WHERE WHAT IT READS IS OF BULK AT MOST 1048576: true; the input reads as it did. -/
def levelApartUptoRow : OpenClaim := { program := "ytnbfficaadlphaa", sum := "535ac5e7e1a06122c119542a984d84689c9cbadfbed9f783bcc45822bb6f64a1", func := "detent/detentlaw06.LevelApart", spec := "levelApart", apart := false, narrowed := true }
def LevelApartUptoSaid : Prop := levelApartUptoRow.holds Try.pinned (OpenSpec.upto levelApartSpec)

/-- 'detentlaw06.LevelDues', WHERE WHAT IT READS IS OF BULK AT MOST 1048576: true; the input reads as it did. -/
def levelDuesUptoRow : OpenClaim := { program := "ytnbfficaadlphaa", sum := "535ac5e7e1a06122c119542a984d84689c9cbadfbed9f783bcc45822bb6f64a1", func := "detent/detentlaw06.LevelDues", spec := "levelDues", unfollowed := true, recurses := true, apart := false, narrowed := true }
def LevelDuesUptoSaid : Prop := levelDuesUptoRow.holds Try.pinned (OpenSpec.upto levelDuesSpec)

end Rows
end Go.Proofs.Ytnbfficaadlphaa
