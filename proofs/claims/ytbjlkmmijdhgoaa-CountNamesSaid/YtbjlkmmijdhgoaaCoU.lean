/-
  What opens CountNames' argument.
-/
import Derived.Test.YtbjlkmmijdhgoaaCoT
import Derived.Test.YtbjlkmmijdhgoaaCoNames
import Derived.Deep.Strs
namespace Go.Proofs.Ytbjlkmmijdhgoaa
open Go.ChangeShapes Go.WideShapes Go.ChangeAt Go.RowKit

theorem names_opened {H : Type} {enc : TypeId × Value → H} {W : World} {a : Option Addr} {len cap : Nat} {d : DataW H} {p : List MemPlace} (h : DataW.Trod enc Try.prog W 0 (fun _ => true) true 64 (.slice a len cap) d p) :
    NamesAt W a len cap := by
  obtain ⟨fuel, hf⟩ := h
  rcases Go.Deep.open_strs Try.underlying64 Try.underlying9 (by kernel_rfl) hf with ⟨hcs, _⟩ | ⟨x, l, c, m, Sx, hcs, _, hl, hm, hmm, _, hcell⟩
  · simp [Value.cells] at hcs
    obtain ⟨rfl, rfl, rfl⟩ := hcs
    exact ⟨[], rfl, Nat.zero_le _, by decide, by simp, .inl rfl⟩
  · simp [Value.cells] at hcs
    obtain ⟨rfl, rfl, rfl⟩ := hcs
    simp at hmm
    unfold maxLen at hm
    refine ⟨(List.range len).map fun i => (Sx i).data.toList, by simp, by simpa using hl, hm, fun k hk => ?_, ?_⟩
    · obtain ⟨i, hi, rfl⟩ := List.mem_map.1 hk
      have hi : i < len := by simpa using hi
      have := (hcell i (by omega)).2
      show (Sx i).data.toList.length ≤ maxLen
      rw [Array.length_toList]
      exact this
    · by_cases h0 : len = 0
      · exact .inl (by simp [h0])
      · obtain ⟨b, off, spot⟩ := x
        have hc := (hcell 0 (by omega)).1
        have hspot : spot = none := by simpa [Addr.add] using World.cell?_spot hc
        subst hspot
        refine .inr ⟨b, off, rfl, fun i k hi => ?_⟩
        have hlt : i < len := by
          have := (List.getElem?_eq_some_iff.1 hi).1
          simpa using this
        obtain rfl : (Sx i).data.toList = k := by simpa [hlt] using hi
        have := (hcell i (by omega)).1
        rw [addr_add] at this
        rw [this]
end Go.Proofs.Ytbjlkmmijdhgoaa
