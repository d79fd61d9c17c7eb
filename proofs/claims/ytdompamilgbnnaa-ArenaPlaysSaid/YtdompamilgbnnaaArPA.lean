/-
  What the law ArenaPlays is told of its calls; what opens them.
-/
import Derived.Test.YtdompamilgbnnaaArT
namespace Go.Proofs.Ytdompamilgbnnaa
open Go.ChangeShapes Go.WideShapes Go.ChangeAt Go.RowKit

/-- A call that came in: its four numbers, in four cells from o on. -/
def ActAt (W : World) (b o : Nat) : Prop := ∃ K s g x, W.cell? ⟨b, o, none⟩ = some (.int .i64 K) ∧ W.cell? ⟨b, o + 1, none⟩ = some (.int .i64 s) ∧ W.cell? ⟨b, o + 2, none⟩ = some (.int .i64 g) ∧ W.cell? ⟨b, o + 3, none⟩ = some (.int .i64 x)
def ActsAt (W : World) (a : Option Addr) (len : Nat) : Prop := len = 0 ∨ ∃ b off, a = some ⟨b, off, none⟩ ∧ ∀ i, i < len → ActAt W b (off + i * 4)

theorem acts_opened {H : Type} {enc : TypeId × Value → H} {W : World} {a : Option Addr} {len cap : Nat} {d : DataW H} {p : List MemPlace} (h : DataW.Trod enc Try.prog W 0 (fun _ => true) true 22 (.slice a len cap) d p) :
    len ≤ 9223372036854775807 ∧ ActsAt W a len := by
  obtain ⟨fuel, hf⟩ := h
  rcases Go.Deep.open_slice Try.underlying22 hf with ⟨hcs, _⟩ | ⟨x, l, c, m, n, D, Q, hcs, _, hl, hm, hmm, _, hi⟩
  · simp [Value.cells] at hcs
    obtain ⟨rfl, rfl, rfl⟩ := hcs
    exact ⟨by decide, .inl rfl⟩
  · simp [Value.cells] at hcs
    obtain ⟨rfl, rfl, rfl⟩ := hcs
    simp at hmm
    unfold maxLen at hm
    refine ⟨by omega, ?_⟩
    by_cases h0 : len = 0
    · exact .inl h0
    · have key : ∀ i, i < len → ∃ K s g y, W.cell? (x.add (i * 4)) = some (.int .i64 K) ∧ W.cell? ((x.add (i * 4)).add 1) = some (.int .i64 s) ∧ W.cell? ((x.add (i * 4)).add 2) = some (.int .i64 g) ∧ W.cell? ((x.add (i * 4)).add 3) = some (.int .i64 y) := by
        intro i hlt
        obtain ⟨cs, hc, ht⟩ := hi i (by omega)
        rw [show Try.prog.cellsOf 31 = 4 by kernel_rfl] at hc
        obtain ⟨n', hfa⟩ := fields_at Try.underlying31 (by kernel_rfl) (by kernel_rfl) (by rw [show Try.prog.cellsOf 31 = 4 by kernel_rfl]; exact hc) ht
        obtain ⟨v0, y0, c0, t0⟩ := hfa 0 _ rfl
        obtain ⟨v1, y1, c1, t1⟩ := hfa 1 _ rfl
        obtain ⟨v2, y2, c2, t2⟩ := hfa 2 _ rfl
        obtain ⟨v3, y3, c3, t3⟩ := hfa 3 _ rfl
        obtain ⟨K, e0, _, _⟩ := DataW.trod_int Try.underlying3 t0
        obtain ⟨s, e1, _, _⟩ := DataW.trod_int Try.underlying3 t1
        obtain ⟨g, e2, _, _⟩ := DataW.trod_int Try.underlying3 t2
        obtain ⟨y, e3, _, _⟩ := DataW.trod_int Try.underlying3 t3
        cases e0
        cases e1
        cases e2
        cases e3
        exact ⟨K, s, g, y, by rw [show (x.add (i * 4)).add 0 = x.add (i * 4) from rfl] at c0; exact c0, c1, c2, c3⟩
      obtain ⟨b, off, spot⟩ := x
      obtain ⟨K, s, g, y, hk, _⟩ := key 0 (by omega)
      have hspot : spot = none := by simpa [Addr.add] using World.cell?_spot hk
      subst hspot
      refine .inr ⟨b, off, rfl, fun i hlt => ?_⟩
      obtain ⟨K, s, g, y, h1, h2, h3, h4⟩ := key i hlt
      rw [addr_add] at h1
      rw [addr_add, addr_add] at h2 h3 h4
      exact ⟨K, s, g, y, h1, h2, h3, h4⟩
end Go.Proofs.Ytdompamilgbnnaa
