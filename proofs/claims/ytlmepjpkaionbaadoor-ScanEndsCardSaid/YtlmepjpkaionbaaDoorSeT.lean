/-
  What the rows of stage 9 share: openers.
-/
import Derived.Test.YtlmepjpkaionbaaDoorBaseT
import Derived.Test.YtlmepjpkaionbaaDoorSeK
namespace Go.Proofs.YtlmepjpkaionbaaDoor
open Go.ChangeShapes Go.WideShapes Go.ChangeAt Go.RowKit

theorem ints_opened {H : Type} {enc : TypeId × Value → H} {W : World} {a : Option Addr} {len cap : Nat} {d : DataW H} {p : List MemPlace} (h : DataW.Trod enc Tryd.prog W 0 (fun _ => true) true 54 (.slice a len cap) d p) :
    ∃ l : List Int, len = l.length ∧ len ≤ cap ∧ cap ≤ 9223372036854775807 ∧ Mk.IntsAt W a l := by
  obtain ⟨fuel, hf⟩ := h
  rcases open_ints Tryd.underlying54 Tryd.underlying3 (by kernel_rfl) hf with ⟨hcs, _⟩ | ⟨x, l, c, zs, hcs, _, hl, hm, hz, _, hcell, _⟩
  · simp [Value.cells] at hcs
    obtain ⟨rfl, rfl, rfl⟩ := hcs
    exact ⟨[], rfl, Nat.le_refl _, by decide, .inl rfl⟩
  · simp [Value.cells] at hcs
    obtain ⟨rfl, rfl, rfl⟩ := hcs
    have hz : zs.length = cap := by simpa using hz
    unfold maxLen at hm
    refine ⟨zs.take len, by rw [List.length_take]; omega, hl, hm, ?_⟩
    by_cases h0 : len = 0
    · subst h0; exact .inl (by simp)
    · obtain ⟨b, off, spot⟩ := x
      have hc := hcell 0 (by omega)
      have hspot : spot = none := by simpa [Addr.add] using World.cell?_spot hc
      subst hspot
      refine .inr ⟨b, off, rfl, fun i hi => ?_⟩
      rw [List.length_take] at hi
      have hi2 : i < len := by omega
      have hci := hcell i (by omega)
      have e : (⟨b, off, none⟩ : Addr).add i = ⟨b, off + i, none⟩ := by unfold Addr.add; split <;> simp_all
      rw [e] at hci
      rw [hci]
      simp [hi2]
theorem ints_take {w : World} {a : Option Addr} {zs : List Int} (h : Mk.IntsAt w a zs) (k : Nat) : Mk.IntsAt w a (zs.take k) := by
  rcases h with rfl | ⟨b, off, rfl, hc⟩
  · exact .inl (by simp)
  · refine .inr ⟨b, off, rfl, fun i hi => ?_⟩
    rw [List.length_take] at hi
    rw [hc i (by omega), List.getElem?_take_of_lt (by omega)]

/-- A call that came in: who, and whether it leaves, in two cells from o on. -/
def ActAt (W : World) (b o : Nat) : Prop := ∃ R O, W.cell? ⟨b, o, none⟩ = some (.int .i64 R) ∧ W.cell? ⟨b, o + 1, none⟩ = some (.bool O)
def ActsAt (W : World) (a : Option Addr) (len : Nat) : Prop := len = 0 ∨ ∃ b off, a = some ⟨b, off, none⟩ ∧ ∀ i, i < len → ActAt W b (off + i * 2)
theorem ActsAt.ch {W W' : World} {a : Option Addr} {len : Nat} (h : ActsAt W a len) (hc : Ch [] W W') : ActsAt W' a len := by
  rcases h with h | ⟨b, off, e, h⟩
  · exact .inl h
  · refine .inr ⟨b, off, e, fun i hi => ?_⟩
    obtain ⟨R, O, c0, c1⟩ := h i hi
    exact ⟨R, O, (hc.cell (p := ⟨b, off + i * 2, none⟩) (cell_lt c0) (by simp)).trans c0, (hc.cell (p := ⟨b, off + i * 2 + 1, none⟩) (cell_lt c1) (by simp)).trans c1⟩
theorem acts_opened {H : Type} {enc : TypeId × Value → H} {W : World} {a : Option Addr} {len cap : Nat} {d : DataW H} {p : List MemPlace} (h : DataW.Trod enc Tryd.prog W 0 (fun _ => true) true 22 (.slice a len cap) d p) :
    len ≤ 9223372036854775807 ∧ ActsAt W a len := by
  obtain ⟨fuel, hf⟩ := h
  rcases Go.Deep.open_slice Tryd.underlying22 hf with ⟨hcs, _⟩ | ⟨x, l, c, m, n, D, Q, hcs, _, hl, hm, hmm, _, hi⟩
  · simp [Value.cells] at hcs
    obtain ⟨rfl, rfl, rfl⟩ := hcs
    exact ⟨by decide, .inl rfl⟩
  · simp [Value.cells] at hcs
    obtain ⟨rfl, rfl, rfl⟩ := hcs
    simp at hmm
    unfold maxLen at hm
    refine ⟨by omega, ?_⟩
    by_cases h0 : len = 0
    · exact .inl h0
    · have key : ∀ i, i < len → ∃ R O, W.cell? (x.add (i * 2)) = some (.int .i64 R) ∧ W.cell? ((x.add (i * 2)).add 1) = some (.bool O) := by
        intro i hlt
        obtain ⟨cs, hc, ht⟩ := hi i (by omega)
        rw [show Tryd.prog.cellsOf 31 = 2 by kernel_rfl] at hc
        obtain ⟨n', hfa⟩ := fields_at Tryd.underlying31 (by kernel_rfl) (by kernel_rfl) (by rw [show Tryd.prog.cellsOf 31 = 2 by kernel_rfl]; exact hc) ht
        obtain ⟨v0, y0, c0, t0⟩ := hfa 0 _ rfl
        obtain ⟨v1, y1, c1, t1⟩ := hfa 1 _ rfl
        obtain ⟨R, e0, _, _⟩ := DataW.trod_int Tryd.underlying3 t0
        obtain ⟨O, e1, _⟩ := DataW.trod_bool Tryd.underlying4 t1
        cases e0
        cases e1
        exact ⟨R, O, by rw [show (x.add (i * 2)).add 0 = x.add (i * 2) from rfl] at c0; exact c0, c1⟩
      obtain ⟨b, off, spot⟩ := x
      obtain ⟨R, O, hk, _⟩ := key 0 (by omega)
      have hspot : spot = none := by simpa [Addr.add] using World.cell?_spot hk
      subst hspot
      refine .inr ⟨b, off, rfl, fun i hlt => ?_⟩
      obtain ⟨R, O, h1, h2⟩ := key i hlt
      rw [addr_add] at h1
      rw [addr_add, addr_add] at h2
      exact ⟨R, O, h1, h2⟩
end Go.Proofs.YtlmepjpkaionbaaDoor
