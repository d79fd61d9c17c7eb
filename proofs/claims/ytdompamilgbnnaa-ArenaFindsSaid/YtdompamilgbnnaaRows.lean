/-
  No cell of these rows narrows 'for every input' (looked for: loops, veiled, ifaces, maps, wideKeys, modest, calm, conditions, laid).
  DERIVED. THE GIVEN ROWS OF THIS SEAT. 5 by the template 'for every input the law returns true; each argument reads behind the call as it read before'; 0 by the template 'total and deterministic' (their statements: YtdompamilgbnnaaTotals.lean).
  GIVEN WITH THE SEED: the statements are not yours to turn. If you find one false, say at which input.
  Laid BY PROGRAM, IN A SANDBOX (cutbox-rows.mjs): the forced cells as the released guide's own fill.sh prints them over the translation cc19f7514042cc36… (all of the seat's roots in one cut). By AI agents, Wed Nov 11 2026. No macro, syntax, notation, axiom, sorry.
-/
import Derived.Test.YtdompamilgbnnaaChecked
import GoSem.Claim
import GoSem.ClaimJoined
import GoSem.ClaimMapViews
import Derived.JoinedTies
import Derived.KernelRfl
namespace Go.Proofs.Ytdompamilgbnnaa
/- THE CELL 'sum', in the pinned program and in every row, IS THE sha256 OF THE DUMP (.gsa) THAT YtdompamilgbnnaaProg.lean LOADS. Nothing in Lean hashes anything: it is a label: what it is worth is what the hold of that sum in a sandbox is worth. -/
noncomputable def Try.pinned : Pinned := { name := "ytdompamilgbnnaa", sum := "cc19f7514042cc366cd5d11a326d592aa851e7d225a7153cffc1d65d71d4dfd2", checked := Try.checked }
namespace Rows
def none {H : Type} : Left H := { results := [], args := [] }

/-- 'detentlaw03.ArenaPlays': WHATEVER THE INPUT: true; the input reads as it did. -/
def arenaPlaysSpec : ChangeSpec := { name := "arenaPlays", fn := fun _ => fun
  | [d1, d2] => { results := [.lit (.bool true)], args := [d1, d2] }
  | _ => none }
def arenaPlaysRow : OpenClaim := { program := "ytdompamilgbnnaa", sum := "cc19f7514042cc366cd5d11a326d592aa851e7d225a7153cffc1d65d71d4dfd2", func := "detent/detentlaw03.ArenaPlays", spec := "arenaPlays", unfollowed := true, recurses := true, apart := false }
def ArenaPlaysSaid : Prop := arenaPlaysRow.holds Try.pinned (OpenSpec.ofChange arenaPlaysSpec)

/-- ITS FALSE NEIGHBOUR: 'it returns false'. Refute it at one input. -/
def arenaPlaysWrong : ChangeSpec := { name := "arenaPlays", fn := fun _ => fun
  | [d1, d2] => { results := [.lit (.bool false)], args := [d1, d2] }
  | _ => none }
def ArenaPlaysWrongFalsely : Prop := arenaPlaysRow.holds Try.pinned (OpenSpec.ofChange arenaPlaysWrong)

/-- 'detentlaw03.ArenaWears': WHATEVER THE INPUT: true; the input reads as it did. -/
def arenaWearsSpec : ChangeSpec := { name := "arenaWears", fn := fun _ => fun
  | [d] => { results := [.lit (.bool true)], args := [d] }
  | _ => none }
def arenaWearsRow : OpenClaim := { program := "ytdompamilgbnnaa", sum := "cc19f7514042cc366cd5d11a326d592aa851e7d225a7153cffc1d65d71d4dfd2", func := "detent/detentlaw03.ArenaWears", spec := "arenaWears", unfollowed := true, recurses := true, apart := false }
def ArenaWearsSaid : Prop := arenaWearsRow.holds Try.pinned (OpenSpec.ofChange arenaWearsSpec)

/-- ITS FALSE NEIGHBOUR: 'it returns false'. Refute it at one input. -/
def arenaWearsWrong : ChangeSpec := { name := "arenaWears", fn := fun _ => fun
  | [d] => { results := [.lit (.bool false)], args := [d] }
  | _ => none }
def ArenaWearsWrongFalsely : Prop := arenaWearsRow.holds Try.pinned (OpenSpec.ofChange arenaWearsWrong)

/-- 'detentlaw03.ArenaFinds': WHATEVER THE INPUT: true; the input reads as it did. -/
def arenaFindsSpec : ChangeSpec := { name := "arenaFinds", fn := fun _ => fun
  | [d1, d2, d3] => { results := [.lit (.bool true)], args := [d1, d2, d3] }
  | _ => none }
def arenaFindsRow : OpenClaim := { program := "ytdompamilgbnnaa", sum := "cc19f7514042cc366cd5d11a326d592aa851e7d225a7153cffc1d65d71d4dfd2", func := "detent/detentlaw03.ArenaFinds", spec := "arenaFinds", unfollowed := true, recurses := true, apart := false }
def ArenaFindsSaid : Prop := arenaFindsRow.holds Try.pinned (OpenSpec.ofChange arenaFindsSpec)

/-- ITS FALSE NEIGHBOUR: 'it returns false'. Refute it at one input. -/
def arenaFindsWrong : ChangeSpec := { name := "arenaFinds", fn := fun _ => fun
  | [d1, d2, d3] => { results := [.lit (.bool false)], args := [d1, d2, d3] }
  | _ => none }
def ArenaFindsWrongFalsely : Prop := arenaFindsRow.holds Try.pinned (OpenSpec.ofChange arenaFindsWrong)

/-- 'detentlaw03.ArenaMany': WHATEVER THE INPUT: true; the input reads as it did. -/
def arenaManySpec : ChangeSpec := { name := "arenaMany", fn := fun _ => fun
  | [d1, d2] => { results := [.lit (.bool true)], args := [d1, d2] }
  | _ => none }
def arenaManyRow : OpenClaim := { program := "ytdompamilgbnnaa", sum := "cc19f7514042cc366cd5d11a326d592aa851e7d225a7153cffc1d65d71d4dfd2", func := "detent/detentlaw03.ArenaMany", spec := "arenaMany", unfollowed := true, recurses := true, apart := false }
def ArenaManySaid : Prop := arenaManyRow.holds Try.pinned (OpenSpec.ofChange arenaManySpec)

/-- ITS FALSE NEIGHBOUR: 'it returns false'. Refute it at one input. -/
def arenaManyWrong : ChangeSpec := { name := "arenaMany", fn := fun _ => fun
  | [d1, d2] => { results := [.lit (.bool false)], args := [d1, d2] }
  | _ => none }
def ArenaManyWrongFalsely : Prop := arenaManyRow.holds Try.pinned (OpenSpec.ofChange arenaManyWrong)

/-- 'detentlaw03.ArenaNil': WHATEVER THE INPUT: true; the input reads as it did. -/
def arenaNilSpec : ChangeSpec := { name := "arenaNil", fn := fun _ => fun
  | [d1, d2] => { results := [.lit (.bool true)], args := [d1, d2] }
  | _ => none }
def arenaNilRow : OpenClaim := { program := "ytdompamilgbnnaa", sum := "cc19f7514042cc366cd5d11a326d592aa851e7d225a7153cffc1d65d71d4dfd2", func := "detent/detentlaw03.ArenaNil", spec := "arenaNil", unfollowed := true, recurses := true, apart := false }
def ArenaNilSaid : Prop := arenaNilRow.holds Try.pinned (OpenSpec.ofChange arenaNilSpec)

/-- ITS FALSE NEIGHBOUR: 'it returns false'. Refute it at one input. -/
def arenaNilWrong : ChangeSpec := { name := "arenaNil", fn := fun _ => fun
  | [d1, d2] => { results := [.lit (.bool false)], args := [d1, d2] }
  | _ => none }
def ArenaNilWrongFalsely : Prop := arenaNilRow.holds Try.pinned (OpenSpec.ofChange arenaNilWrong)

/- THE SECOND FORM. 'bulk': how many values and letters a reading holds, each counted each time it is reached (what is shared counts as often as it is met; a slice's spare places count too). A statement '..UptoSaid' is the law's where the arguments, and the package variables that the reading takes, are together of bulk at most 1048576: NARROWER than '..Said'. Prove '..Said' where nothing that the law and all that it calls make is longer than what came in: it says more and counts as full. Else prove '..UptoSaid'. A law counts once. -/
mutual
def uptoBulk {H : Type} : DataW H → Nat
  | .lit (.string bytes) => bytes.length + 1
  | .lit _ => 1
  | .nil => 1
  | .ptr d => uptoBulk d + 1
  | .slice elems spare => uptoBulkAll elems + uptoBulkAll spare + 1
  | .agg parts => uptoBulkAll parts + 1
  | .iface _ d => uptoBulk d + 1
  | .map entries => uptoBulkEntries entries + 1
  | .held _ => 1
def uptoBulkAll {H : Type} : List (DataW H) → Nat
  | [] => 0
  | d :: r => uptoBulk d + uptoBulkAll r
def uptoBulkEntries {H : Type} : List (Lit × DataW H) → Nat
  | [] => 0
  | x :: r => uptoBulkEntry x + uptoBulkEntries r
def uptoBulkEntry {H : Type} : Lit × DataW H → Nat
  | (.string bytes, d) => bytes.length + uptoBulk d + 1
  | (_, d) => uptoBulk d + 1
 end
def uptoSmall : (H : Type) → List (DataW H) → Bool := fun _ ds => decide (uptoBulkAll ds ≤ 1048576)
def OpenSpec.upto (s : _root_.Go.ChangeSpec) : _root_.Go.OpenSpec := { _root_.Go.OpenSpec.ofChange s with cond := some uptoSmall }

/-- 'detentlaw03.ArenaPlays', WHERE WHAT IT READS IS OF BULK AT MOST 1048576: true; the input reads as it did. -/
def arenaPlaysUptoRow : OpenClaim := { program := "ytdompamilgbnnaa", sum := "cc19f7514042cc366cd5d11a326d592aa851e7d225a7153cffc1d65d71d4dfd2", func := "detent/detentlaw03.ArenaPlays", spec := "arenaPlays", unfollowed := true, recurses := true, apart := false, narrowed := true }
def ArenaPlaysUptoSaid : Prop := arenaPlaysUptoRow.holds Try.pinned (OpenSpec.upto arenaPlaysSpec)

/-- 'detentlaw03.ArenaWears', WHERE WHAT IT READS IS OF BULK AT MOST 1048576: true; the input reads as it did. -/
def arenaWearsUptoRow : OpenClaim := { program := "ytdompamilgbnnaa", sum := "cc19f7514042cc366cd5d11a326d592aa851e7d225a7153cffc1d65d71d4dfd2", func := "detent/detentlaw03.ArenaWears", spec := "arenaWears", unfollowed := true, recurses := true, apart := false, narrowed := true }
def ArenaWearsUptoSaid : Prop := arenaWearsUptoRow.holds Try.pinned (OpenSpec.upto arenaWearsSpec)

/-- 'detentlaw03.ArenaFinds', WHERE WHAT IT READS IS OF BULK AT MOST 1048576: true; the input reads as it did. -/
def arenaFindsUptoRow : OpenClaim := { program := "ytdompamilgbnnaa", sum := "cc19f7514042cc366cd5d11a326d592aa851e7d225a7153cffc1d65d71d4dfd2", func := "detent/detentlaw03.ArenaFinds", spec := "arenaFinds", unfollowed := true, recurses := true, apart := false, narrowed := true }
def ArenaFindsUptoSaid : Prop := arenaFindsUptoRow.holds Try.pinned (OpenSpec.upto arenaFindsSpec)

/-- 'detentlaw03.ArenaMany', WHERE WHAT IT READS IS OF BULK AT MOST 1048576: true; the input reads as it did. -/
def arenaManyUptoRow : OpenClaim := { program := "ytdompamilgbnnaa", sum := "cc19f7514042cc366cd5d11a326d592aa851e7d225a7153cffc1d65d71d4dfd2", func := "detent/detentlaw03.ArenaMany", spec := "arenaMany", unfollowed := true, recurses := true, apart := false, narrowed := true }
def ArenaManyUptoSaid : Prop := arenaManyUptoRow.holds Try.pinned (OpenSpec.upto arenaManySpec)

/-- 'detentlaw03.ArenaNil', WHERE WHAT IT READS IS OF BULK AT MOST 1048576: true; the input reads as it did. -/
def arenaNilUptoRow : OpenClaim := { program := "ytdompamilgbnnaa", sum := "cc19f7514042cc366cd5d11a326d592aa851e7d225a7153cffc1d65d71d4dfd2", func := "detent/detentlaw03.ArenaNil", spec := "arenaNil", unfollowed := true, recurses := true, apart := false, narrowed := true }
def ArenaNilUptoSaid : Prop := arenaNilUptoRow.holds Try.pinned (OpenSpec.upto arenaNilSpec)

end Rows
end Go.Proofs.Ytdompamilgbnnaa
