/-
  SectMany: several that enter at once.
-/
import Derived.Test.YtlmepjpkaionbaaDoorSeV
namespace Go.Proofs.YtlmepjpkaionbaaDoor
open Go.RowKit

theorem intsAt_take {w : World} {a : Option Addr} {zs : List Int} (h : Mk.IntsAt w a zs) (k : Nat) : Mk.IntsAt w a (zs.take k) := by
  rcases h with rfl | ⟨b, off, rfl, hc⟩
  · exact .inl (by simp)
  · refine .inr ⟨b, off, rfl, fun i hi => ?_⟩
    rw [List.length_take] at hi
    rw [hc i (by omega), List.getElem?_take_of_lt (by omega)]
theorem intsAt_lt {w : World} {a : Option Addr} {zs : List Int} (h : Mk.IntsAt w a zs) {b : Nat} (hb : w.heap.size ≤ b) : zs = [] ∨ ∀ y, a = some y → y.block ≠ b := by
  by_cases h0 : zs = []
  · exact .inl h0
  · refine .inr fun y hy => ?_
    rcases h with h | ⟨g, off, e, hc⟩
    · exact absurd h h0
    · rw [e] at hy
      cases hy
      have := cell_lt (hc 0 (List.length_pos_iff.2 h0))
      simp only at this ⊢
      omega

end Go.Proofs.YtlmepjpkaionbaaDoor
