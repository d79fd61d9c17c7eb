/-
  What opens CountKeys' calls.
-/
import Derived.Test.YtbjlkmmijdhgoaaCoT
import Derived.Test.YtbjlkmmijdhgoaaCoKeys
namespace Go.Proofs.Ytbjlkmmijdhgoaa
open Go.ChangeShapes Go.WideShapes Go.ChangeAt Go.RowKit

theorem acts_opened {H : Type} {enc : TypeId × Value → H} {W : World} {a : Option Addr} {len cap : Nat} {d : DataW H} {p : List MemPlace} (h : DataW.Trod enc Try.prog W 0 (fun _ => true) true 43 (.slice a len cap) d p) :
    len ≤ 9223372036854775807 ∧ ActsAt W a len := by
  obtain ⟨fuel, hf⟩ := h
  rcases Go.Deep.open_slice Try.underlying43 hf with ⟨hcs, _⟩ | ⟨x, l, c, m, n, D, Q, hcs, _, hl, hm, hmm, _, hi⟩
  · simp [Value.cells] at hcs
    obtain ⟨rfl, rfl, rfl⟩ := hcs
    exact ⟨by decide, .inl rfl⟩
  · simp [Value.cells] at hcs
    obtain ⟨rfl, rfl, rfl⟩ := hcs
    simp at hmm
    unfold maxLen at hm
    refine ⟨by omega, ?_⟩
    by_cases h0 : len = 0
    · exact .inl h0
    · have key : ∀ i, i < len → ∃ U k : Int, W.cell? (x.add (i * 2)) = some (.int .i64 U) ∧ W.cell? ((x.add (i * 2)).add 1) = some (.int .i64 k) ∧ cI.wfK k := by
        intro i hlt
        obtain ⟨cs, hc, ht⟩ := hi i (by omega)
        rw [show Try.prog.cellsOf 49 = 2 by kernel_rfl] at hc
        obtain ⟨n', hfa⟩ := fields_at Try.underlying49 (by kernel_rfl) (by kernel_rfl) (by rw [show Try.prog.cellsOf 49 = 2 by kernel_rfl]; exact hc) ht
        obtain ⟨v0, y0, c0, t0⟩ := hfa 0 _ rfl
        obtain ⟨v1, y1, c1, t1⟩ := hfa 1 _ rfl
        obtain ⟨U, e0, _, _⟩ := DataW.trod_int Try.underlying3 t0
        obtain ⟨k, e1, _, hw⟩ := DataW.trod_int Try.underlying3 t1
        cases e0
        cases e1
        exact ⟨U, k, by rw [show (x.add (i * 2)).add 0 = x.add (i * 2) from rfl] at c0; exact c0, c1, hw⟩
      obtain ⟨b, off, spot⟩ := x
      obtain ⟨U, k, hk, _⟩ := key 0 (by omega)
      have hspot : spot = none := by simpa [Addr.add] using World.cell?_spot hk
      subst hspot
      refine .inr ⟨b, off, rfl, fun i hlt => ?_⟩
      obtain ⟨U, k, h1, h2, h3⟩ := key i hlt
      rw [addr_add] at h1
      rw [addr_add, addr_add] at h2
      exact ⟨U, k, h1, h2, h3⟩
end Go.Proofs.Ytbjlkmmijdhgoaa
