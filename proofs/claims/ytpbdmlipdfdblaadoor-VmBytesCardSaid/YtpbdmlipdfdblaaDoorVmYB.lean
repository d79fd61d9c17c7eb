/-
  A law as its card calls it. (Written by gen/vm19x.py.)
-/
import Derived.Test.YtpbdmlipdfdblaaDoorVmX
import Derived.Test.YtpbdmlipdfdblaaDoorVmB2
namespace Go.Proofs.YtpbdmlipdfdblaaDoor
open Go.ChangeShapes Go.WideShapes Go.ChangeAt Go.RowKit

/-- Bytes that came in. -/
theorem bytes_opened {H : Type} {enc : TypeId × Value → H} {W : World} {a : Option Addr} {len cap : Nat} {d : DataW H} {p : List MemPlace} (h : DataW.Trod enc Tryd.prog W 0 (fun _ => true) true 57 (.slice a len cap) d p) :
    len ≤ cap ∧ ∃ l : List Nat, l.length = len ∧ (∀ x ∈ l, x < 256) ∧ BA W a l := by
  obtain ⟨fuel, hf⟩ := h
  rcases open_ints Tryd.underlying57 Tryd.underlying5 (by kernel_rfl) hf with ⟨hcs, _⟩ | ⟨x, l, c, zs, hcs, _, hl, hm, hz, _, hcell, hwf⟩
  · simp [Value.cells] at hcs
    obtain ⟨rfl, rfl, rfl⟩ := hcs
    exact ⟨Nat.le_refl _, [], rfl, (by intro x hx; cases hx), .inl rfl⟩
  · simp [Value.cells] at hcs
    obtain ⟨rfl, rfl, rfl⟩ := hcs
    have hz : zs.length = cap := by simpa using hz
    have hw : ∀ i, zs.getD i 0 = (((zs.getD i 0).toNat : Nat) : Int) ∧ (zs.getD i 0).toNat < 256 := fun i => by
      by_cases hi : i < zs.length
      · have : zs.getD i 0 ∈ zs := by simp [List.getD, List.getElem?_eq_getElem hi]
        exact u8_of (hwf _ this)
      · simp [List.getD, List.getElem?_eq_none (Nat.le_of_not_lt hi)]
    refine ⟨hl, (List.range len).map (fun i => (zs.getD i 0).toNat), by simp, fun y hy => ?_, ?_⟩
    · obtain ⟨i, _, rfl⟩ := List.mem_map.1 hy
      exact (hw i).2
    · by_cases h0 : len = 0
      · subst h0; exact .inl rfl
      · obtain ⟨b, off, spot⟩ := x
        have hc := hcell 0 (by omega)
        have hspot : spot = none := by simpa [Addr.add] using World.cell?_spot hc
        subst hspot
        refine .inr ⟨b, off, rfl, fun i hi => ?_⟩
        have hil : i < len := by simpa using hi
        have hci := hcell i (by omega)
        rw [addr_add] at hci
        rw [List.getElem_map, List.getElem_range, ← (hw i).1]
        exact hci

theorem bytes_card {v : Option Addr} {n c : Nat} {x y : Int} {W : World} (hT : Tb W) (h0 : n ≤ c) (h1 : ∃ l : List Nat, l.length = n ∧ (∀ x ∈ l, x < 256) ∧ BA W v l) :
    Calls Tryd.prog 5 #[.int .i64 x, .int .i64 y, .slice v n c] W fun e W' => e = .returned (.bool true) ∧ Below W.heap.size W W' := by
  obtain ⟨l, j1, j2, j3⟩ := h1
  exact (bytes_law19 j1 h0 j2 j3 hT).mono fun _ _ ⟨h1, h2⟩ => ⟨h1, h2.below _ (by simp) (Nat.le_refl _)⟩
end Go.Proofs.YtpbdmlipdfdblaaDoor
