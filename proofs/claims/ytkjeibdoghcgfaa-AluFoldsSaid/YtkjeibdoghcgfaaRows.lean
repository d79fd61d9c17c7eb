/-
  No cell of these rows narrows 'for every input' (looked for: loops, veiled, ifaces, maps, wideKeys, modest, calm, conditions, laid).
  DERIVED. THE GIVEN ROWS OF THIS SEAT. 6 by the template 'for every input the law returns true; each argument reads behind the call as it read before'; 0 by the template 'total and deterministic' (their statements: YtkjeibdoghcgfaaTotals.lean).
  GIVEN WITH THE SEED: the statements are not yours to turn. If you find one false, say at which input.
  Laid BY PROGRAM, IN A SANDBOX (cutbox-rows.mjs): the forced cells as the released guide's own fill.sh prints them over the translation 310ae5d7fc1bf20d… (all of the seat's roots in one cut). By AI agents, Wed Nov 11 2026. No macro, syntax, notation, axiom, sorry.
-/
import Derived.Test.YtkjeibdoghcgfaaChecked
import GoSem.Claim
import GoSem.ClaimJoined
import GoSem.ClaimMapViews
import Derived.JoinedTies
import Derived.KernelRfl
namespace Go.Proofs.Ytkjeibdoghcgfaa
/- THE CELL 'sum', in the pinned program and in every row, IS THE sha256 OF THE DUMP (.gsa) THAT YtkjeibdoghcgfaaProg.lean LOADS. Nothing in Lean hashes anything: it is a label: what it is worth is what the hold of that sum in a sandbox is worth. -/
noncomputable def Try.pinned : Pinned := { name := "ytkjeibdoghcgfaa", sum := "310ae5d7fc1bf20d54b115f67fe70c585f74165bebc398f6f78e3edf2deac579", checked := Try.checked }
namespace Rows
def none {H : Type} : Left H := { results := [], args := [] }

/-- 'detentlaw16.AluSums': WHATEVER THE INPUT: true; the input reads as it did. -/
def aluSumsSpec : ChangeSpec := { name := "aluSums", fn := fun _ => fun
  | [d1, d2, d3] => { results := [.lit (.bool true)], args := [d1, d2, d3] }
  | _ => none }
def aluSumsRow : OpenClaim := { program := "ytkjeibdoghcgfaa", sum := "310ae5d7fc1bf20d54b115f67fe70c585f74165bebc398f6f78e3edf2deac579", func := "detent/detentlaw16.AluSums", spec := "aluSums", unfollowed := true, recurses := true, apart := false }
def AluSumsSaid : Prop := aluSumsRow.holds Try.pinned (OpenSpec.ofChange aluSumsSpec)

/-- ITS FALSE NEIGHBOUR: 'it returns false'. Refute it at one input. -/
def aluSumsWrong : ChangeSpec := { name := "aluSums", fn := fun _ => fun
  | [d1, d2, d3] => { results := [.lit (.bool false)], args := [d1, d2, d3] }
  | _ => none }
def AluSumsWrongFalsely : Prop := aluSumsRow.holds Try.pinned (OpenSpec.ofChange aluSumsWrong)

/-- 'detentlaw16.AluJumps': WHATEVER THE INPUT: true; the input reads as it did. -/
def aluJumpsSpec : ChangeSpec := { name := "aluJumps", fn := fun _ => fun
  | [d1, d2, d3] => { results := [.lit (.bool true)], args := [d1, d2, d3] }
  | _ => none }
def aluJumpsRow : OpenClaim := { program := "ytkjeibdoghcgfaa", sum := "310ae5d7fc1bf20d54b115f67fe70c585f74165bebc398f6f78e3edf2deac579", func := "detent/detentlaw16.AluJumps", spec := "aluJumps", unfollowed := true, recurses := true, apart := false }
def AluJumpsSaid : Prop := aluJumpsRow.holds Try.pinned (OpenSpec.ofChange aluJumpsSpec)

/-- ITS FALSE NEIGHBOUR: 'it returns false'. Refute it at one input. -/
def aluJumpsWrong : ChangeSpec := { name := "aluJumps", fn := fun _ => fun
  | [d1, d2, d3] => { results := [.lit (.bool false)], args := [d1, d2, d3] }
  | _ => none }
def AluJumpsWrongFalsely : Prop := aluJumpsRow.holds Try.pinned (OpenSpec.ofChange aluJumpsWrong)

/-- 'detentlaw16.AluDivides': WHATEVER THE INPUT: true; the input reads as it did. -/
def aluDividesSpec : ChangeSpec := { name := "aluDivides", fn := fun _ => fun
  | [d1, d2] => { results := [.lit (.bool true)], args := [d1, d2] }
  | _ => none }
def aluDividesRow : OpenClaim := { program := "ytkjeibdoghcgfaa", sum := "310ae5d7fc1bf20d54b115f67fe70c585f74165bebc398f6f78e3edf2deac579", func := "detent/detentlaw16.AluDivides", spec := "aluDivides", unfollowed := true, recurses := true, apart := false }
def AluDividesSaid : Prop := aluDividesRow.holds Try.pinned (OpenSpec.ofChange aluDividesSpec)

/-- ITS FALSE NEIGHBOUR: 'it returns false'. Refute it at one input. -/
def aluDividesWrong : ChangeSpec := { name := "aluDivides", fn := fun _ => fun
  | [d1, d2] => { results := [.lit (.bool false)], args := [d1, d2] }
  | _ => none }
def AluDividesWrongFalsely : Prop := aluDividesRow.holds Try.pinned (OpenSpec.ofChange aluDividesWrong)

/-- 'detentlaw16.AluOpposites': WHATEVER THE INPUT: true; the input reads as it did. -/
def aluOppositesSpec : ChangeSpec := { name := "aluOpposites", fn := fun _ => fun
  | [d1, d2] => { results := [.lit (.bool true)], args := [d1, d2] }
  | _ => none }
def aluOppositesRow : OpenClaim := { program := "ytkjeibdoghcgfaa", sum := "310ae5d7fc1bf20d54b115f67fe70c585f74165bebc398f6f78e3edf2deac579", func := "detent/detentlaw16.AluOpposites", spec := "aluOpposites", unfollowed := true, recurses := true, apart := false }
def AluOppositesSaid : Prop := aluOppositesRow.holds Try.pinned (OpenSpec.ofChange aluOppositesSpec)

/-- ITS FALSE NEIGHBOUR: 'it returns false'. Refute it at one input. -/
def aluOppositesWrong : ChangeSpec := { name := "aluOpposites", fn := fun _ => fun
  | [d1, d2] => { results := [.lit (.bool false)], args := [d1, d2] }
  | _ => none }
def AluOppositesWrongFalsely : Prop := aluOppositesRow.holds Try.pinned (OpenSpec.ofChange aluOppositesWrong)

/-- 'detentlaw16.AluFolds': WHATEVER THE INPUT: true; the input reads as it did. -/
def aluFoldsSpec : ChangeSpec := { name := "aluFolds", fn := fun _ => fun
  | [d1, d2, d3] => { results := [.lit (.bool true)], args := [d1, d2, d3] }
  | _ => none }
def aluFoldsRow : OpenClaim := { program := "ytkjeibdoghcgfaa", sum := "310ae5d7fc1bf20d54b115f67fe70c585f74165bebc398f6f78e3edf2deac579", func := "detent/detentlaw16.AluFolds", spec := "aluFolds", unfollowed := true, recurses := true, apart := false }
def AluFoldsSaid : Prop := aluFoldsRow.holds Try.pinned (OpenSpec.ofChange aluFoldsSpec)

/-- ITS FALSE NEIGHBOUR: 'it returns false'. Refute it at one input. -/
def aluFoldsWrong : ChangeSpec := { name := "aluFolds", fn := fun _ => fun
  | [d1, d2, d3] => { results := [.lit (.bool false)], args := [d1, d2, d3] }
  | _ => none }
def AluFoldsWrongFalsely : Prop := aluFoldsRow.holds Try.pinned (OpenSpec.ofChange aluFoldsWrong)

/-- 'detentlaw16.AluWords': WHATEVER THE INPUT: true; the input reads as it did. -/
def aluWordsSpec : ChangeSpec := { name := "aluWords", fn := fun _ => fun
  | [d1, d2] => { results := [.lit (.bool true)], args := [d1, d2] }
  | _ => none }
def aluWordsRow : OpenClaim := { program := "ytkjeibdoghcgfaa", sum := "310ae5d7fc1bf20d54b115f67fe70c585f74165bebc398f6f78e3edf2deac579", func := "detent/detentlaw16.AluWords", spec := "aluWords", unfollowed := true, recurses := true, apart := false }
def AluWordsSaid : Prop := aluWordsRow.holds Try.pinned (OpenSpec.ofChange aluWordsSpec)

/-- ITS FALSE NEIGHBOUR: 'it returns false'. Refute it at one input. -/
def aluWordsWrong : ChangeSpec := { name := "aluWords", fn := fun _ => fun
  | [d1, d2] => { results := [.lit (.bool false)], args := [d1, d2] }
  | _ => none }
def AluWordsWrongFalsely : Prop := aluWordsRow.holds Try.pinned (OpenSpec.ofChange aluWordsWrong)

/- THE SECOND FORM. 'bulk': how many values and letters a reading holds, each counted each time it is reached (what is shared counts as often as it is met; a slice's spare places count too). A statement '..UptoSaid' is the law's where the arguments, and the package variables that the reading takes, are together of bulk at most 1048576: NARROWER than '..Said'. Prove '..Said' where nothing that the law and all that it calls make is longer than what came in: it says more and counts as full. Else prove '..UptoSaid'. A law counts once. -/
mutual
def uptoBulk {H : Type} : DataW H → Nat
  | .lit (.string bytes) => bytes.length + 1
  | .lit _ => 1
  | .nil => 1
  | .ptr d => uptoBulk d + 1
  | .slice elems spare => uptoBulkAll elems + uptoBulkAll spare + 1
  | .agg parts => uptoBulkAll parts + 1
  | .iface _ d => uptoBulk d + 1
  | .map entries => uptoBulkEntries entries + 1
  | .held _ => 1
def uptoBulkAll {H : Type} : List (DataW H) → Nat
  | [] => 0
  | d :: r => uptoBulk d + uptoBulkAll r
def uptoBulkEntries {H : Type} : List (Lit × DataW H) → Nat
  | [] => 0
  | x :: r => uptoBulkEntry x + uptoBulkEntries r
def uptoBulkEntry {H : Type} : Lit × DataW H → Nat
  | (.string bytes, d) => bytes.length + uptoBulk d + 1
  | (_, d) => uptoBulk d + 1
 end
def uptoSmall : (H : Type) → List (DataW H) → Bool := fun _ ds => decide (uptoBulkAll ds ≤ 1048576)
def OpenSpec.upto (s : _root_.Go.ChangeSpec) : _root_.Go.OpenSpec := { _root_.Go.OpenSpec.ofChange s with cond := some uptoSmall }

/-- 'detentlaw16.AluSums', WHERE WHAT IT READS IS OF BULK AT MOST 1048576: true; the input reads as it did. -/
def aluSumsUptoRow : OpenClaim := { program := "ytkjeibdoghcgfaa", sum := "310ae5d7fc1bf20d54b115f67fe70c585f74165bebc398f6f78e3edf2deac579", func := "detent/detentlaw16.AluSums", spec := "aluSums", unfollowed := true, recurses := true, apart := false, narrowed := true }
def AluSumsUptoSaid : Prop := aluSumsUptoRow.holds Try.pinned (OpenSpec.upto aluSumsSpec)

/-- 'detentlaw16.AluJumps', WHERE WHAT IT READS IS OF BULK AT MOST 1048576: true; the input reads as it did. -/
def aluJumpsUptoRow : OpenClaim := { program := "ytkjeibdoghcgfaa", sum := "310ae5d7fc1bf20d54b115f67fe70c585f74165bebc398f6f78e3edf2deac579", func := "detent/detentlaw16.AluJumps", spec := "aluJumps", unfollowed := true, recurses := true, apart := false, narrowed := true }
def AluJumpsUptoSaid : Prop := aluJumpsUptoRow.holds Try.pinned (OpenSpec.upto aluJumpsSpec)

/-- 'detentlaw16.AluDivides', WHERE WHAT IT READS IS OF BULK AT MOST 1048576: true; the input reads as it did. -/
def aluDividesUptoRow : OpenClaim := { program := "ytkjeibdoghcgfaa", sum := "310ae5d7fc1bf20d54b115f67fe70c585f74165bebc398f6f78e3edf2deac579", func := "detent/detentlaw16.AluDivides", spec := "aluDivides", unfollowed := true, recurses := true, apart := false, narrowed := true }
def AluDividesUptoSaid : Prop := aluDividesUptoRow.holds Try.pinned (OpenSpec.upto aluDividesSpec)

/-- 'detentlaw16.AluOpposites', WHERE WHAT IT READS IS OF BULK AT MOST 1048576: true; the input reads as it did. -/
def aluOppositesUptoRow : OpenClaim := { program := "ytkjeibdoghcgfaa", sum := "310ae5d7fc1bf20d54b115f67fe70c585f74165bebc398f6f78e3edf2deac579", func := "detent/detentlaw16.AluOpposites", spec := "aluOpposites", unfollowed := true, recurses := true, apart := false, narrowed := true }
def AluOppositesUptoSaid : Prop := aluOppositesUptoRow.holds Try.pinned (OpenSpec.upto aluOppositesSpec)

/-- 'detentlaw16.AluFolds', WHERE WHAT IT READS IS OF BULK AT MOST 1048576: true; the input reads as it did. -/
def aluFoldsUptoRow : OpenClaim := { program := "ytkjeibdoghcgfaa", sum := "310ae5d7fc1bf20d54b115f67fe70c585f74165bebc398f6f78e3edf2deac579", func := "detent/detentlaw16.AluFolds", spec := "aluFolds", unfollowed := true, recurses := true, apart := false, narrowed := true }
def AluFoldsUptoSaid : Prop := aluFoldsUptoRow.holds Try.pinned (OpenSpec.upto aluFoldsSpec)

/-- 'detentlaw16.AluWords', WHERE WHAT IT READS IS OF BULK AT MOST 1048576: true; the input reads as it did. -/
def aluWordsUptoRow : OpenClaim := { program := "ytkjeibdoghcgfaa", sum := "310ae5d7fc1bf20d54b115f67fe70c585f74165bebc398f6f78e3edf2deac579", func := "detent/detentlaw16.AluWords", spec := "aluWords", unfollowed := true, recurses := true, apart := false, narrowed := true }
def AluWordsUptoSaid : Prop := aluWordsUptoRow.holds Try.pinned (OpenSpec.upto aluWordsSpec)

end Rows
end Go.Proofs.Ytkjeibdoghcgfaa
