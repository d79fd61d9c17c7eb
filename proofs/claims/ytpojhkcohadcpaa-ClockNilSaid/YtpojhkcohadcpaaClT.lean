/-
  What the rows of stage 5 share: openers.
-/
import Derived.Test.YtpojhkcohadcpaaBaseT
import Derived.Test.YtpojhkcohadcpaaClC
namespace Go.Proofs.Ytpojhkcohadcpaa
open Go.ChangeShapes Go.WideShapes Go.ChangeAt Go.RowKit

theorem wd_of {a : Int} (h : (Lit.int .u64 a).wf = true) : Wd a := by
  have h2 : 0 ≤ a ∧ a ≤ 18446744073709551615 := by simpa [Lit.wf, IntKind.min, IntKind.max, IntKind.signed, IntKind.bits] using h
  exact ⟨h2.1, h2.2⟩

theorem words_opened {H : Type} {enc : TypeId × Value → H} {W : World} {a : Option Addr} {len cap : Nat} {d : DataW H} {p : List MemPlace} (h : DataW.Trod enc Try.prog W 0 (fun _ => true) true 35 (.slice a len cap) d p) :
    ∃ z : Nat → Int, len ≤ cap ∧ cap ≤ 9223372036854775807 ∧ WordsAt W a len z := by
  obtain ⟨fuel, hf⟩ := h
  rcases open_ints Try.underlying35 Try.underlying22 (by kernel_rfl) hf with ⟨hcs, _⟩ | ⟨x, l, c, zs, hcs, _, hl, hm, hz, _, hcell, hwf⟩
  · simp [Value.cells] at hcs
    obtain ⟨rfl, rfl, rfl⟩ := hcs
    exact ⟨fun _ => 0, Nat.le_refl _, by decide, fun _ => ⟨by decide, by decide⟩, .inl rfl⟩
  · simp [Value.cells] at hcs
    obtain ⟨rfl, rfl, rfl⟩ := hcs
    have hz : zs.length = cap := by simpa using hz
    unfold maxLen at hm
    refine ⟨fun i => zs.getD i 0, hl, hm, fun i => ?_, ?_⟩
    · by_cases hi : i < zs.length
      · have : zs.getD i 0 ∈ zs := by simp [List.getD, List.getElem?_eq_getElem hi]
        exact wd_of (hwf _ this)
      · simp [List.getD, List.getElem?_eq_none (Nat.le_of_not_lt hi)]
        exact ⟨by decide, by decide⟩
    · by_cases h0 : len = 0
      · exact .inl h0
      · obtain ⟨b, off, spot⟩ := x
        have hc := hcell 0 (by omega)
        have hspot : spot = none := by simpa [Addr.add] using World.cell?_spot hc
        subst hspot
        refine .inr ⟨b, off, rfl, fun i hi => ?_⟩
        have hci := hcell i (by omega)
        rw [addr_add] at hci
        exact hci
end Go.Proofs.Ytpojhkcohadcpaa
