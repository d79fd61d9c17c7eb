/-
  What the rows share: what opens an argument.
-/
import Derived.Test.YtnnliimjemmekaaBaseT
import Derived.Test.YtnnliimjemmekaaCbA
import Derived.Deep.Strs
namespace Go.Proofs.Ytnnliimjemmekaa
open Go.ChangeShapes Go.WideShapes Go.ChangeAt Go.RowKit

/-- WHAT THE WALK IS TOLD OF A SLICE OF NUMBERS THAT CAME IN. -/
theorem ints_opened {H : Type} {enc : TypeId × Value → H} {W : World} {a : Option Addr} {len cap : Nat} {d : DataW H} {p : List MemPlace} (h : DataW.Trod enc Try.prog W 0 (fun _ => true) true 31 (.slice a len cap) d p) :
    ∃ l : List Int, len = l.length ∧ len ≤ cap ∧ cap ≤ 9223372036854775807 ∧ IntsAt W a l := by
  obtain ⟨fuel, hf⟩ := h
  rcases open_ints Try.underlying31 Try.underlying3 (by kernel_rfl) hf with ⟨hcs, _⟩ | ⟨x, l, c, zs, hcs, _, hl, hm, hz, _, hcell, _⟩
  · simp [Value.cells] at hcs
    obtain ⟨rfl, rfl, rfl⟩ := hcs
    exact ⟨[], rfl, Nat.le_refl _, by decide, .inl rfl⟩
  · simp [Value.cells] at hcs
    obtain ⟨rfl, rfl, rfl⟩ := hcs
    have hz : zs.length = cap := by simpa using hz
    unfold maxLen at hm
    refine ⟨zs.take len, by rw [List.length_take]; omega, hl, hm, ?_⟩
    by_cases h0 : len = 0
    · subst h0; exact .inl (by simp)
    · obtain ⟨b, off, spot⟩ := x
      have hc := hcell 0 (by omega)
      have hspot : spot = none := by simpa [Addr.add] using World.cell?_spot hc
      subst hspot
      refine .inr ⟨b, off, rfl, fun i hi => ?_⟩
      rw [List.length_take] at hi
      have hi2 : i < len := by omega
      have hci := hcell i (by omega)
      rw [addr_add] at hci
      rw [hci, List.getElem?_take_of_lt hi2]
      simp [show i < zs.length by omega]
/-- A slice of Booleans. -/
def BoolsAt (w : World) (a : Option Addr) (n : Nat) (z : Nat → Bool) : Prop := n = 0 ∨ ∃ b off, a = some ⟨b, off, none⟩ ∧ ∀ i, i < n → w.cell? ⟨b, off + i, none⟩ = some (.bool (z i))

/-- A call that came in: in four cells from o on. -/
def ActAt (W : World) (b o : Nat) : Prop := ∃ K C Gn aL cL zs, W.cell? ⟨b, o, none⟩ = some (.int .i64 K) ∧ W.cell? ⟨b, o + 1, none⟩ = some (.int .i64 C) ∧ W.cell? ⟨b, o + 2, none⟩ = some (.int .i64 Gn) ∧ W.cell? ⟨b, o + 3, none⟩ = some (.slice aL zs.length cL) ∧
  zs.length ≤ cL ∧ cL ≤ 9223372036854775807 ∧ IntsAt W aL zs
def ActsAt (W : World) (a : Option Addr) (len : Nat) : Prop := len = 0 ∨ ∃ b off, a = some ⟨b, off, none⟩ ∧ ∀ i, i < len → ActAt W b (off + i * 4)
theorem acts_opened {H : Type} {enc : TypeId × Value → H} {W : World} {a : Option Addr} {len cap : Nat} {d : DataW H} {p : List MemPlace} (h : DataW.Trod enc Try.prog W 0 (fun _ => true) true 22 (.slice a len cap) d p) :
    len ≤ 9223372036854775807 ∧ ActsAt W a len := by
  obtain ⟨fuel, hf⟩ := h
  rcases Go.Deep.open_slice Try.underlying22 hf with ⟨hcs, _⟩ | ⟨x, l, c, m, n, D, Q, hcs, _, hl, hm, hmm, _, hi⟩
  · simp [Value.cells] at hcs
    obtain ⟨rfl, rfl, rfl⟩ := hcs
    exact ⟨by decide, .inl rfl⟩
  · simp [Value.cells] at hcs
    obtain ⟨rfl, rfl, rfl⟩ := hcs
    simp at hmm
    unfold maxLen at hm
    refine ⟨by omega, ?_⟩
    by_cases h0 : len = 0
    · exact .inl h0
    · have key : ∀ i, i < len → ∃ K C Gn aL cL zs, W.cell? (x.add (i * 4)) = some (.int .i64 K) ∧ W.cell? ((x.add (i * 4)).add 1) = some (.int .i64 C) ∧ W.cell? ((x.add (i * 4)).add 2) = some (.int .i64 Gn) ∧ W.cell? ((x.add (i * 4)).add 3) = some (.slice aL zs.length cL) ∧
          zs.length ≤ cL ∧ cL ≤ 9223372036854775807 ∧ IntsAt W aL zs := by
        intro i hlt
        obtain ⟨cs, hc, ht⟩ := hi i (by omega)
        rw [show Try.prog.cellsOf 33 = 4 by kernel_rfl] at hc
        obtain ⟨n', hfa⟩ := fields_at Try.underlying33 (by kernel_rfl) (by kernel_rfl) (by rw [show Try.prog.cellsOf 33 = 4 by kernel_rfl]; exact hc) ht
        obtain ⟨v0, y0, c0, t0⟩ := hfa 0 _ rfl
        obtain ⟨v1, y1, c1, t1⟩ := hfa 1 _ rfl
        obtain ⟨v2, y2, c2, t2⟩ := hfa 2 _ rfl
        obtain ⟨v3, y3, c3, t3⟩ := hfa 3 _ rfl
        obtain ⟨K, e0, _, _⟩ := DataW.trod_int Try.underlying3 t0
        obtain ⟨C, e1, _, _⟩ := DataW.trod_int Try.underlying3 t1
        obtain ⟨Gn, e2, _, _⟩ := DataW.trod_int Try.underlying3 t2
        cases e0
        cases e1
        cases e2
        have hv3 : ∃ aL nL cL, v3 = .slice aL nL cL := by
          rcases DataW.trod_slice Try.underlying31 t3 with ⟨e3, _⟩ | ⟨a3, l3, c3', _, _, _, _, e3, _⟩
          · cases e3; exact ⟨_, _, _, rfl⟩
          · cases e3; exact ⟨_, _, _, rfl⟩
        obtain ⟨aL, nL, cL, rfl⟩ := hv3
        obtain ⟨zs, rfl, h3, h4, h5⟩ := ints_opened (d := y3.1) (p := y3.2) ⟨n', t3⟩
        exact ⟨K, C, Gn, aL, cL, zs, by rw [show (x.add (i * 4)).add 0 = x.add (i * 4) from rfl] at c0; exact c0, c1, c2, c3, h3, h4, h5⟩
      obtain ⟨b, off, spot⟩ := x
      obtain ⟨K, C, Gn, aL, cL, zs, hk, _⟩ := key 0 (by omega)
      have hspot : spot = none := by simpa [Addr.add] using World.cell?_spot hk
      subst hspot
      refine .inr ⟨b, off, rfl, fun i hlt => ?_⟩
      obtain ⟨K, C, Gn, aL, cL, zs, h1, h2, h3, h4, h5⟩ := key i hlt
      rw [addr_add] at h1
      rw [addr_add, addr_add] at h2 h3 h4
      exact ⟨K, C, Gn, aL, cL, zs, h1, h2, h3, h4, h5⟩
end Go.Proofs.Ytnnliimjemmekaa
