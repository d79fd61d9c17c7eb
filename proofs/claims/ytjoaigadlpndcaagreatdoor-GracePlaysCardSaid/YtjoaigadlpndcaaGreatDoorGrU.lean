/-
  What the cards share: what opens an argument; what the table's row tells.
-/
import Derived.Test.YtjoaigadlpndcaaGreatDoorCards
import Derived.Test.YtjoaigadlpndcaaGreatDoorTie
import Derived.Test.YtjoaigadlpndcaaGreatDoorGrK
namespace Go.Proofs.YtjoaigadlpndcaaGreatDoor
open Go.ChangeShapes Go.WideShapes Go.ChangeAt Go.RowKit

/-- A call that came in: in four cells from o on. -/
def ActAt (W : World) (b o : Nat) : Prop := ∃ K R C Id, W.cell? ⟨b, o, none⟩ = some (.int .i64 K) ∧ W.cell? ⟨b, o + 1, none⟩ = some (.int .i64 R) ∧ W.cell? ⟨b, o + 2, none⟩ = some (.int .i64 C) ∧ W.cell? ⟨b, o + 3, none⟩ = some (.int .i64 Id)
def ActsAt (W : World) (a : Option Addr) (len : Nat) : Prop := len = 0 ∨ ∃ b off, a = some ⟨b, off, none⟩ ∧ ∀ i, i < len → ActAt W b (off + i * 4)
theorem ActsAt.ch {w w' : World} {a : Option Addr} {len : Nat} (h : ActsAt w a len) (hc : Ch [] w w') : ActsAt w' a len := by
  rcases h with h | ⟨b, off, e, h⟩
  · exact .inl h
  · refine .inr ⟨b, off, e, fun i hi => ?_⟩
    obtain ⟨K, R, C, Id, h0, h1, h2, h3⟩ := h i hi
    exact ⟨K, R, C, Id, (hc.cell (p := ⟨b, off + i * 4, none⟩) (cell_lt h0) (by simp)).trans h0, (hc.cell (p := ⟨b, off + i * 4 + 1, none⟩) (cell_lt h1) (by simp)).trans h1, (hc.cell (p := ⟨b, off + i * 4 + 2, none⟩) (cell_lt h2) (by simp)).trans h2, (hc.cell (p := ⟨b, off + i * 4 + 3, none⟩) (cell_lt h3) (by simp)).trans h3⟩
theorem acts_opened {H : Type} {enc : TypeId × Value → H} {W : World} {a : Option Addr} {len cap : Nat} {d : DataW H} {p : List MemPlace} (h : DataW.Trod enc Tryz.prog W 0 (fun _ => true) true 22 (.slice a len cap) d p) :
    len ≤ 9223372036854775807 ∧ ActsAt W a len := by
  obtain ⟨fuel, hf⟩ := h
  rcases Go.Deep.open_slice Tryz.underlying22 hf with ⟨hcs, _⟩ | ⟨x, l, c, m, n, D, Q, hcs, _, hl, hm, hmm, _, hi⟩
  · simp [Value.cells] at hcs
    obtain ⟨rfl, rfl, rfl⟩ := hcs
    exact ⟨by decide, .inl rfl⟩
  · simp [Value.cells] at hcs
    obtain ⟨rfl, rfl, rfl⟩ := hcs
    simp at hmm
    unfold maxLen at hm
    refine ⟨by omega, ?_⟩
    by_cases h0 : len = 0
    · exact .inl h0
    · have key : ∀ i, i < len → ∃ K R C Id, W.cell? (x.add (i * 4)) = some (.int .i64 K) ∧ W.cell? ((x.add (i * 4)).add 1) = some (.int .i64 R) ∧ W.cell? ((x.add (i * 4)).add 2) = some (.int .i64 C) ∧ W.cell? ((x.add (i * 4)).add 3) = some (.int .i64 Id) := by
        intro i hlt
        obtain ⟨cs, hc, ht⟩ := hi i (by omega)
        rw [show Tryz.prog.cellsOf 39 = 4 by kernel_rfl] at hc
        obtain ⟨n', hfa⟩ := fields_at Tryz.underlying39 (by kernel_rfl) (by kernel_rfl) (by rw [show Tryz.prog.cellsOf 39 = 4 by kernel_rfl]; exact hc) ht
        obtain ⟨v0, y0, c0, t0⟩ := hfa 0 _ rfl
        obtain ⟨v1, y1, c1, t1⟩ := hfa 1 _ rfl
        obtain ⟨v2, y2, c2, t2⟩ := hfa 2 _ rfl
        obtain ⟨v3, y3, c3, t3⟩ := hfa 3 _ rfl
        obtain ⟨K, e0, _, _⟩ := DataW.trod_int Tryz.underlying3 t0
        obtain ⟨R, e1, _, _⟩ := DataW.trod_int Tryz.underlying3 t1
        obtain ⟨C, e2, _, _⟩ := DataW.trod_int Tryz.underlying3 t2
        obtain ⟨Id, e3, _, _⟩ := DataW.trod_int Tryz.underlying3 t3
        cases e0
        cases e1
        cases e2
        cases e3
        exact ⟨K, R, C, Id, by rw [show (x.add (i * 4)).add 0 = x.add (i * 4) from rfl] at c0; exact c0, c1, c2, c3⟩
      obtain ⟨b, off, spot⟩ := x
      obtain ⟨K, R, C, Id, hk, _⟩ := key 0 (by omega)
      have hspot : spot = none := by simpa [Addr.add] using World.cell?_spot hk
      subst hspot
      refine .inr ⟨b, off, rfl, fun i hlt => ?_⟩
      obtain ⟨K, R, C, Id, h1, h2, h3, h4⟩ := key i hlt
      rw [addr_add] at h1
      rw [addr_add, addr_add] at h2 h3 h4
      exact ⟨K, R, C, Id, h1, h2, h3, h4⟩
end Go.Proofs.YtjoaigadlpndcaaGreatDoor
