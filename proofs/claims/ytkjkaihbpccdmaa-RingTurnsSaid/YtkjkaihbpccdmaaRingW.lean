/-
  What the law RingPlays is told of its calls.
-/
import Derived.Test.YtkjkaihbpccdmaaRIK
namespace Go.Proofs.Ytkjkaihbpccdmaa
open Go.RowKit

/-- A call that came in: its parts, in three cells from o on. -/
def ActAt (W : World) (b o : Nat) : Prop := ∃ K I aL cL zs, W.cell? ⟨b, o, none⟩ = some (.int .i64 K) ∧ W.cell? ⟨b, o + 1, none⟩ = some (.int .i64 I) ∧ W.cell? ⟨b, o + 2, none⟩ = some (.slice aL zs.length cL) ∧
  zs.length ≤ cL ∧ cL ≤ 9223372036854775807 ∧ rI.IAt W aL zs
def ActsAt (W : World) (a : Option Addr) (len : Nat) : Prop := len = 0 ∨ ∃ b off, a = some ⟨b, off, none⟩ ∧ ∀ i, i < len → ActAt W b (off + i * 3)
end Go.Proofs.Ytkjkaihbpccdmaa
