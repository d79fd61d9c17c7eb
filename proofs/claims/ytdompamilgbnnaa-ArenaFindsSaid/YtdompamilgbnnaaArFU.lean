/-
  What opens ArenaFinds' arguments.
-/
import Derived.Test.YtdompamilgbnnaaArT
import Derived.Test.YtdompamilgbnnaaAL
namespace Go.Proofs.Ytdompamilgbnnaa
open Go.ChangeShapes Go.WideShapes Go.ChangeAt Go.RowKit

/-- The things that a slice at a reads as; the numbers. -/
def ThingsAt (W : World) (a : Option Addr) (len : Nat) : Prop := len = 0 ∨ ∃ b off, a = some ⟨b, off, none⟩ ∧ ∀ i, i < len → ∃ y : Th, W.cell? ⟨b, off + i * 2, none⟩ = some (.int .i64 y.1) ∧ W.cell? ⟨b, off + i * 2 + 1, none⟩ = some (.string y.2)
def IntsAt (W : World) (a : Option Addr) (len : Nat) : Prop := len = 0 ∨ ∃ b off, a = some ⟨b, off, none⟩ ∧ ∀ i, i < len → ∃ F, W.cell? ⟨b, off + i, none⟩ = some (.int .i64 F)

theorem things_opened {H : Type} {enc : TypeId × Value → H} {W : World} {a : Option Addr} {len cap : Nat} {d : DataW H} {p : List MemPlace} (h : DataW.Trod enc Try.prog W 0 (fun _ => true) true 55 (.slice a len cap) d p) :
    len ≤ 9223372036854775807 ∧ ThingsAt W a len := by
  obtain ⟨fuel, hf⟩ := h
  rcases Go.Deep.open_slice Try.underlying55 hf with ⟨hcs, _⟩ | ⟨x, l, c, m, n, D, Q, hcs, _, hl, hm, hmm, _, hi⟩
  · simp [Value.cells] at hcs
    obtain ⟨rfl, rfl, rfl⟩ := hcs
    exact ⟨by decide, .inl rfl⟩
  · simp [Value.cells] at hcs
    obtain ⟨rfl, rfl, rfl⟩ := hcs
    simp at hmm
    unfold maxLen at hm
    refine ⟨by omega, ?_⟩
    by_cases h0 : len = 0
    · exact .inl h0
    · have key : ∀ i, i < len → ∃ y : Th, W.cell? (x.add (i * 2)) = some (.int .i64 y.1) ∧ W.cell? ((x.add (i * 2)).add 1) = some (.string y.2) := by
        intro i hlt
        obtain ⟨cs, hc, ht⟩ := hi i (by omega)
        rw [show Try.prog.cellsOf 61 = 2 by kernel_rfl] at hc
        obtain ⟨n', hfa⟩ := fields_at Try.underlying61 (by kernel_rfl) (by kernel_rfl) (by rw [show Try.prog.cellsOf 61 = 2 by kernel_rfl]; exact hc) ht
        obtain ⟨v0, y0, c0, t0⟩ := hfa 0 _ rfl
        obtain ⟨v1, y1, c1, t1⟩ := hfa 1 _ rfl
        obtain ⟨K, e0, _, _⟩ := DataW.trod_int Try.underlying3 t0
        obtain ⟨s, e1, _, _⟩ := DataW.trod_string Try.underlying9 t1
        cases e0
        cases e1
        exact ⟨(K, s), by rw [show (x.add (i * 2)).add 0 = x.add (i * 2) from rfl] at c0; exact c0, c1⟩
      obtain ⟨b, off, spot⟩ := x
      obtain ⟨y, hk, _⟩ := key 0 (by omega)
      have hspot : spot = none := by simpa [Addr.add] using World.cell?_spot hk
      subst hspot
      refine .inr ⟨b, off, rfl, fun i hlt => ?_⟩
      obtain ⟨y, h1, h2⟩ := key i hlt
      rw [addr_add] at h1
      rw [addr_add, addr_add] at h2
      exact ⟨y, h1, h2⟩

theorem ints_opened {H : Type} {enc : TypeId × Value → H} {W : World} {a : Option Addr} {len cap : Nat} {d : DataW H} {p : List MemPlace} (h : DataW.Trod enc Try.prog W 0 (fun _ => true) true 56 (.slice a len cap) d p) :
    len ≤ 9223372036854775807 ∧ IntsAt W a len := by
  obtain ⟨fuel, hf⟩ := h
  rcases open_ints Try.underlying56 Try.underlying3 (by kernel_rfl) hf with ⟨hcs, _⟩ | ⟨x, l, c, zs, hcs, _, hl, hm, hz, _, hcell, _⟩
  · simp [Value.cells] at hcs
    obtain ⟨rfl, rfl, rfl⟩ := hcs
    exact ⟨by decide, .inl rfl⟩
  · simp [Value.cells] at hcs
    obtain ⟨rfl, rfl, rfl⟩ := hcs
    have hz : zs.length = cap := by simpa using hz
    unfold maxLen at hm
    refine ⟨by omega, ?_⟩
    by_cases h0 : len = 0
    · exact .inl h0
    · obtain ⟨b, off, spot⟩ := x
      have hc := hcell 0 (by omega)
      have hspot : spot = none := by simpa [Addr.add] using World.cell?_spot hc
      subst hspot
      refine .inr ⟨b, off, rfl, fun i hi => ⟨zs.getD i 0, ?_⟩⟩
      have hci := hcell i (by omega)
      rw [addr_add] at hci
      exact hci
end Go.Proofs.Ytdompamilgbnnaa
