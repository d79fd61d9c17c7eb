/-
  What the rows of stage 6 share: openers.
-/
import Derived.Test.YtnbfficaadlphaaBaseT
import Derived.Test.YtnbfficaadlphaaLvH
namespace Go.Proofs.Ytnbfficaadlphaa
open Go.ChangeShapes Go.WideShapes Go.ChangeAt Go.RowKit

theorem wd_of {a : Int} (h : (Lit.int .u64 a).wf = true) : Wd a := by
  have h2 : 0 ≤ a ∧ a ≤ 18446744073709551615 := by simpa [Lit.wf, IntKind.min, IntKind.max, IntKind.signed, IntKind.bits] using h
  exact ⟨h2.1, h2.2⟩

theorem spots_opened {H : Type} {enc : TypeId × Value → H} {W : World} {a : Option Addr} {len cap : Nat} {d : DataW H} {p : List MemPlace} (h : DataW.Trod enc Try.prog W 0 (fun _ => true) true 45 (.slice a len cap) d p) :
    ∃ z : Nat → Int × Int × Int × Int, len ≤ cap ∧ cap ≤ 9223372036854775807 ∧ SpotsAt W a len z := by
  obtain ⟨fuel, hf⟩ := h
  rcases Go.Deep.open_slice Try.underlying45 hf with ⟨hcs, _⟩ | ⟨x, l, c, m, n, D, Q, hcs, _, hl, hm, hmm, _, hi⟩
  · simp [Value.cells] at hcs
    obtain ⟨rfl, rfl, rfl⟩ := hcs
    exact ⟨fun _ => (0, 0, 0, 0), Nat.le_refl _, by decide, ⟨.inl rfl⟩⟩
  · simp [Value.cells] at hcs
    obtain ⟨rfl, rfl, rfl⟩ := hcs
    simp at hmm
    unfold maxLen at hm
    by_cases h0 : len = 0
    · exact ⟨fun _ => (0, 0, 0, 0), hl, hm, ⟨.inl h0⟩⟩
    · have key : ∀ i, i < len → ∃ y : Int × Int × Int × Int, W.cell? (x.add (i * 4)) = some (.int .i64 y.1) ∧ W.cell? ((x.add (i * 4)).add 1) = some (.int .i64 y.2.1) ∧ W.cell? ((x.add (i * 4)).add 2) = some (.int .u64 y.2.2.1) ∧ W.cell? ((x.add (i * 4)).add 3) = some (.int .u64 y.2.2.2) := by
        intro i hlt
        obtain ⟨cs, hc, ht⟩ := hi i (by omega)
        rw [show Try.prog.cellsOf 29 = 4 by kernel_rfl] at hc
        obtain ⟨n', hfa⟩ := fields_at Try.underlying29 (by kernel_rfl) (by kernel_rfl) (by rw [show Try.prog.cellsOf 29 = 4 by kernel_rfl]; exact hc) ht
        obtain ⟨v0, y0, c0, t0⟩ := hfa 0 _ rfl
        obtain ⟨v1, y1, c1, t1⟩ := hfa 1 _ rfl
        obtain ⟨v2, y2, c2, t2⟩ := hfa 2 _ rfl
        obtain ⟨v3, y3, c3, t3⟩ := hfa 3 _ rfl
        obtain ⟨A, e0, _, _⟩ := DataW.trod_int Try.underlying3 t0
        obtain ⟨B, e1, _, _⟩ := DataW.trod_int Try.underlying3 t1
        obtain ⟨C, e2, _, _⟩ := DataW.trod_int Try.underlying22 t2
        obtain ⟨D, e3, _, _⟩ := DataW.trod_int Try.underlying22 t3
        cases e0
        cases e1
        cases e2
        cases e3
        exact ⟨(A, B, C, D), by rw [show (x.add (i * 4)).add 0 = x.add (i * 4) from rfl] at c0; exact c0, c1, c2, c3⟩
      have pick : ∃ f : Nat → Int × Int × Int × Int, ∀ i, i < len → W.cell? (x.add (i * 4)) = some (.int .i64 (f i).1) ∧ W.cell? ((x.add (i * 4)).add 1) = some (.int .i64 (f i).2.1) ∧ W.cell? ((x.add (i * 4)).add 2) = some (.int .u64 (f i).2.2.1) ∧ W.cell? ((x.add (i * 4)).add 3) = some (.int .u64 (f i).2.2.2) := by
        refine ⟨fun i => if h : i < len then (key i h).choose else (0, 0, 0, 0), fun i h => ?_⟩
        simp only [h, dif_pos]
        exact (key i h).choose_spec
      obtain ⟨f, hf⟩ := pick
      obtain ⟨b, off, spot⟩ := x
      have hspot : spot = none := by simpa [Addr.add] using World.cell?_spot (hf 0 (by omega)).1
      subst hspot
      refine ⟨f, hl, hm, ⟨.inr ⟨b, off, rfl, fun i hlt => ?_⟩⟩⟩
      obtain ⟨h1, h2, h3, h4⟩ := hf i hlt
      rw [addr_add] at h1
      rw [addr_add, addr_add] at h2 h3 h4
      exact ⟨h1, h2, h3, h4⟩
end Go.Proofs.Ytnbfficaadlphaa
