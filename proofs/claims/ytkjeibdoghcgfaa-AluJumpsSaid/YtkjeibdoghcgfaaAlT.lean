/-
  What the rows of stage 16 share: openers.
-/
import Derived.Test.YtkjeibdoghcgfaaBaseT
import Derived.Test.YtkjeibdoghcgfaaAlH
namespace Go.Proofs.Ytkjeibdoghcgfaa
open Go.ChangeShapes Go.WideShapes Go.ChangeAt Go.RowKit

theorem fit_of {a : Int} (h : (Lit.int .i64 a).wf = true) : fit a := by
  have h2 : -9223372036854775808 ≤ a ∧ a ≤ 9223372036854775807 := by simpa [Lit.wf, IntKind.min, IntKind.max, IntKind.signed, IntKind.bits] using h
  exact h2
/-- A word that came in, as a number below 2^64. -/
theorem u64_of {a : Int} (h : (Lit.int .u64 a).wf = true) : a = ((a.toNat : Nat) : Int) ∧ W64 a.toNat := by
  have h2 : 0 ≤ a ∧ a ≤ 18446744073709551615 := by simpa [Lit.wf, IntKind.min, IntKind.max, IntKind.signed, IntKind.bits] using h
  unfold W64
  omega

theorem words_opened {H : Type} {enc : TypeId × Value → H} {W : World} {a : Option Addr} {len cap : Nat} {d : DataW H} {p : List MemPlace} (h : DataW.Trod enc Try.prog W 0 (fun _ => true) true 35 (.slice a len cap) d p) :
    ∃ z : Nat → Nat, len ≤ cap ∧ cap ≤ 9223372036854775807 ∧ WordsAt W a len z := by
  obtain ⟨fuel, hf⟩ := h
  rcases open_ints Try.underlying35 Try.underlying22 (by kernel_rfl) hf with ⟨hcs, _⟩ | ⟨x, l, c, zs, hcs, _, hl, hm, hz, _, hcell, hwf⟩
  · simp [Value.cells] at hcs
    obtain ⟨rfl, rfl, rfl⟩ := hcs
    exact ⟨fun _ => 0, Nat.le_refl _, by decide, fun _ => by decide, .inl rfl⟩
  · simp [Value.cells] at hcs
    obtain ⟨rfl, rfl, rfl⟩ := hcs
    have hz : zs.length = cap := by simpa using hz
    unfold maxLen at hm
    have hw : ∀ i, zs.getD i 0 = (((zs.getD i 0).toNat : Nat) : Int) ∧ W64 (zs.getD i 0).toNat := fun i => by
      by_cases hi : i < zs.length
      · have : zs.getD i 0 ∈ zs := by simp [List.getD, List.getElem?_eq_getElem hi]
        exact u64_of (hwf _ this)
      · simp [List.getD, List.getElem?_eq_none (Nat.le_of_not_lt hi)]
    refine ⟨fun i => (zs.getD i 0).toNat, hl, hm, fun i => (hw i).2, ?_⟩
    by_cases h0 : len = 0
    · exact .inl h0
    · obtain ⟨b, off, spot⟩ := x
      have hc := hcell 0 (by omega)
      have hspot : spot = none := by simpa [Addr.add] using World.cell?_spot hc
      subst hspot
      refine .inr ⟨b, off, rfl, fun i hi => ?_⟩
      have hci := hcell i (by omega)
      rw [addr_add] at hci
      show _ = some (Value.int .u64 (((zs.getD i 0).toNat : Nat) : Int))
      rw [← (hw i).1]
      exact hci
end Go.Proofs.Ytkjeibdoghcgfaa
