/-
  What the rows share: what opens an argument.
-/
import Derived.Test.YtkjkaihbpccdmaaRows
import Derived.Test.YtkjkaihbpccdmaaRIK
import Derived.WalkKit
import Derived.ProofKit
import Derived.OpenShut
import Derived.Carry
import Derived.Deep.DeepHandedRow
import Derived.Deep.Slices
import Derived.Deep.Fields
import Derived.Deep.Grids
import Derived.Test.YtkjkaihbpccdmaaRingW
namespace Go.Proofs.Ytkjkaihbpccdmaa
open Go.ChangeShapes Go.WideShapes Go.ChangeAt Go.RowKit

theorem own : ownKnob Try.prog.godebug = none := by kernel_rfl
theorem laidOut : laidOutB Try.prog = true := by kernel_rfl

/-- WHAT THE WALK IS TOLD OF A SLICE OF NUMBERS THAT CAME IN. -/
theorem ints_opened {H : Type} {enc : TypeId × Value → H} {W : World} {a : Option Addr} {len cap : Nat} {d : DataW H} {p : List MemPlace} (h : DataW.Trod enc Try.prog W 0 (fun _ => true) true 28 (.slice a len cap) d p) :
    ∃ l : List Int, len = l.length ∧ len ≤ cap ∧ cap ≤ 9223372036854775807 ∧ rI.IAt W a l := by
  obtain ⟨fuel, hf⟩ := h
  rcases open_ints Try.underlying28 Try.underlying3 (by kernel_rfl) hf with ⟨hcs, _⟩ | ⟨x, l, c, zs, hcs, _, hl, hm, hz, _, hcell, _⟩
  · simp [Value.cells] at hcs
    obtain ⟨rfl, rfl, rfl⟩ := hcs
    exact ⟨[], rfl, Nat.le_refl _, by decide, .inl rfl⟩
  · simp [Value.cells] at hcs
    obtain ⟨rfl, rfl, rfl⟩ := hcs
    have hz : zs.length = cap := by simpa using hz
    unfold maxLen at hm
    refine ⟨zs.take len, by rw [List.length_take]; omega, hl, hm, ?_⟩
    by_cases h0 : len = 0
    · subst h0; exact .inl (by simp)
    · obtain ⟨b, off, spot⟩ := x
      have hc := hcell 0 (by omega)
      have hspot : spot = none := by simpa [Addr.add] using World.cell?_spot hc
      subst hspot
      refine .inr ⟨b, off, rfl, fun i hi => ?_⟩
      rw [List.length_take] at hi
      have hi2 : i < len := by omega
      have hci := hcell i (by omega)
      have e : (⟨b, off, none⟩ : Addr).add i = ⟨b, off + i, none⟩ := by unfold Addr.add; split <;> simp_all
      rw [e] at hci
      rw [hci]
      simp [show i < zs.length by omega]

/-- A struct of one-cell fields that is read: each field's cell, and that it is read. -/
theorem fields_at {H : Type} {enc : TypeId × Value → H} {P : Program} {w : World} {base : Nat} {spare : Nat → Bool} {held : Bool} {e : TypeId} {fs : Array Field} {fuel : Nat} {a : Addr} {cs : List Value} {x : DataW H × List MemPlace}
    (he : P.underlying e = some (.struct fs)) (hone : Go.Deep.oneCellFields P fs = true) (hC : P.cellsOf e = fs.size)
    (hc : w.cells? base a (P.cellsOf e) = some cs) (ht : DataW.trod enc P w base spare held fuel e cs = some x) :
    ∃ n, ∀ (j : Nat) (f : Field), fs[j]? = some f → ∃ v y, w.cell? (a.add j) = some v ∧ DataW.trod enc P w base spare held n f.type [v] = some y := by
  obtain ⟨ys, n, _, _, hlen, hyl, hf⟩ := DataW.trod_struct he ht
  obtain ⟨_, hcl, hat⟩ := World.cells?_some hc
  refine ⟨n, fun j f hj => ?_⟩
  have hlt : j < fs.size := (Array.getElem?_eq_some_iff.1 hj).1
  obtain ⟨ho, hk⟩ := Go.Deep.hone_of hone j f hj
  have h1 := hf j f hj
  have hjc : j < cs.length := by omega
  rw [ho, hk, List.drop_eq_getElem_cons hjc, List.take_succ_cons, List.take_zero, List.getElem?_eq_getElem (by omega)] at h1
  exact ⟨_, _, (hat j (by omega)).trans (List.getElem?_eq_getElem hjc), h1⟩

theorem addr_add (b off k : Nat) : (⟨b, off, none⟩ : Addr).add k = ⟨b, off + k, none⟩ := by unfold Addr.add; split <;> simp_all

theorem acts_opened {H : Type} {enc : TypeId × Value → H} {W : World} {a : Option Addr} {len cap : Nat} {d : DataW H} {p : List MemPlace} (h : DataW.Trod enc Try.prog W 0 (fun _ => true) true 22 (.slice a len cap) d p) :
    len ≤ 9223372036854775807 ∧ ActsAt W a len := by
  obtain ⟨fuel, hf⟩ := h
  rcases Go.Deep.open_slice Try.underlying22 hf with ⟨hcs, _⟩ | ⟨x, l, c, m, n, D, Q, hcs, _, hl, hm, hmm, _, hi⟩
  · simp [Value.cells] at hcs
    obtain ⟨rfl, rfl, rfl⟩ := hcs
    exact ⟨by decide, .inl rfl⟩
  · simp [Value.cells] at hcs
    obtain ⟨rfl, rfl, rfl⟩ := hcs
    simp at hmm
    unfold maxLen at hm
    refine ⟨by omega, ?_⟩
    by_cases h0 : len = 0
    · exact .inl h0
    · have key : ∀ i, i < len → ∃ K I aL cL zs, W.cell? (x.add (i * 3)) = some (.int .i64 K) ∧ W.cell? ((x.add (i * 3)).add 1) = some (.int .i64 I) ∧ W.cell? ((x.add (i * 3)).add 2) = some (.slice aL zs.length cL) ∧
          zs.length ≤ cL ∧ cL ≤ 9223372036854775807 ∧ rI.IAt W aL zs := by
        intro i hlt
        obtain ⟨cs, hc, ht⟩ := hi i (by omega)
        rw [show Try.prog.cellsOf 30 = 3 by kernel_rfl] at hc
        obtain ⟨n', hfa⟩ := fields_at Try.underlying30 (by kernel_rfl) (by kernel_rfl) (by rw [show Try.prog.cellsOf 30 = 3 by kernel_rfl]; exact hc) ht
        obtain ⟨v0, y0, c0, t0⟩ := hfa 0 _ rfl
        obtain ⟨v1, y1, c1, t1⟩ := hfa 1 _ rfl
        obtain ⟨v2, y2, c2, t2⟩ := hfa 2 _ rfl
        obtain ⟨K, e0, _, _⟩ := DataW.trod_int Try.underlying3 t0
        obtain ⟨I, e1, _, _⟩ := DataW.trod_int Try.underlying3 t1
        cases e0
        cases e1
        have hv2 : ∃ aL nL cL, v2 = .slice aL nL cL := by
          rcases DataW.trod_slice Try.underlying28 t2 with ⟨e2, _⟩ | ⟨a2, l2, c2', _, _, _, _, e2, _⟩
          · cases e2; exact ⟨_, _, _, rfl⟩
          · cases e2; exact ⟨_, _, _, rfl⟩
        obtain ⟨aL, nL, cL, rfl⟩ := hv2
        obtain ⟨zs, rfl, h3, h4, h5⟩ := ints_opened (d := y2.1) (p := y2.2) ⟨n', t2⟩
        exact ⟨K, I, aL, cL, zs, by rw [show (x.add (i * 3)).add 0 = x.add (i * 3) from rfl] at c0; exact c0, c1, c2, h3, h4, h5⟩
      obtain ⟨b, off, spot⟩ := x
      obtain ⟨K, I, aL, cL, zs, hk, _⟩ := key 0 (by omega)
      have hspot : spot = none := by simpa [Addr.add] using World.cell?_spot hk
      subst hspot
      refine .inr ⟨b, off, rfl, fun i hlt => ?_⟩
      obtain ⟨K, I, aL, cL, zs, h1, h2, h3, h4⟩ := key i hlt
      rw [addr_add] at h1
      rw [addr_add, addr_add] at h2 h3
      exact ⟨K, I, aL, cL, zs, h1, h2, h3, h4⟩
end Go.Proofs.Ytkjkaihbpccdmaa
