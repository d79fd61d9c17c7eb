/-
  CallsOnce: what opens a slice of Booleans.
-/
import Derived.Test.YtnnliimjemmekaaCbU
namespace Go.Proofs.Ytnnliimjemmekaa
open Go.ChangeShapes Go.WideShapes Go.ChangeAt Go.RowKit

theorem BoolsAt.bel {w w' : World} {a : Option Addr} {n : Nat} {z : Nat → Bool} (h : BoolsAt w a n z) (hb : Below w.heap.size w w') : BoolsAt w' a n z := by
  rcases h with h | ⟨b, off, e, h⟩
  · exact .inl h
  · exact .inr ⟨b, off, e, fun i hi => (hb.cell (p := ⟨b, off + i, none⟩) (cell_lt (h i hi))).trans (h i hi)⟩
theorem bools_opened {H : Type} {enc : TypeId × Value → H} {W : World} {a : Option Addr} {len cap : Nat} {d : DataW H} {p : List MemPlace} (h : DataW.Trod enc Try.prog W 0 (fun _ => true) true 54 (.slice a len cap) d p) :
    len ≤ 9223372036854775807 ∧ ∃ z, BoolsAt W a len z := by
  obtain ⟨fuel, hf⟩ := h
  rcases Go.Deep.open_bools Try.underlying54 Try.underlying4 (by kernel_rfl) hf with ⟨hcs, _⟩ | ⟨x, l, c, B, hcs, _, hl, hm, _, hcell⟩
  · simp [Value.cells] at hcs
    obtain ⟨rfl, rfl, rfl⟩ := hcs
    exact ⟨by decide, fun _ => false, .inl rfl⟩
  · simp [Value.cells] at hcs
    obtain ⟨rfl, rfl, rfl⟩ := hcs
    unfold maxLen at hm
    refine ⟨by omega, ?_⟩
    by_cases h0 : len = 0
    · exact ⟨fun _ => false, .inl h0⟩
    · obtain ⟨b, off, spot⟩ := x
      have hc := hcell 0 (by omega)
      have hspot : spot = none := by simpa [Addr.add] using World.cell?_spot hc
      subst hspot
      refine ⟨fun i => B i, .inr ⟨b, off, rfl, fun i hi => ?_⟩⟩
      have := hcell i (by omega)
      rw [addr_add] at this
      exact this
end Go.Proofs.Ytnnliimjemmekaa
