/-
  What the rows share: what opens an argument.
-/
import Derived.Test.YtdompamilgbnnaaRows
import Derived.Test.YtdompamilgbnnaaAIJ
import Derived.WalkKit
import Derived.ProofKit
import Derived.OpenShut
import Derived.Carry
import Derived.Deep.DeepHandedRow
import Derived.Deep.Slices
import Derived.Deep.Fields
import Derived.Deep.Grids
import Derived.Lib.SmallJoins
namespace Go.Proofs.Ytdompamilgbnnaa
open Go.ChangeShapes Go.WideShapes Go.ChangeAt Go.RowKit

theorem own : ownKnob Try.prog.godebug = none := by kernel_rfl
theorem laidOut : laidOutB Try.prog = true := by kernel_rfl

/-- A handle that comes in by value. -/
theorem handle_opened {H : Type} {enc : TypeId × Value → H} {W : World} {base : Nat} {v : Value} {d : DataW H} {p : List MemPlace} (hv : Value.okWide Try.prog W .any base 33 v) (h : DataW.Trod enc Try.prog W 0 (fun _ => true) true 33 v d p) :
    ∃ o : Int × Int, v = .agg #[.int .i64 o.1, .int .i64 o.2] := by
  obtain ⟨v0, v1, y0, y1, n, rfl, rfl, rfl, t0, t1⟩ := Go.Joins.open_agg2 Try.underlying33 (by kernel_rfl) (by kernel_rfl) hv h
  obtain ⟨K, e0, _, _⟩ := DataW.trod_int Try.underlying3 t0
  obtain ⟨I, e1, _, _⟩ := DataW.trod_int Try.underlying3 t1
  cases e0
  cases e1
  exact ⟨(K, I), rfl⟩

/-- A struct of one-cell fields that is read: each field's cell, and that it is read. -/
theorem fields_at {H : Type} {enc : TypeId × Value → H} {P : Program} {w : World} {base : Nat} {spare : Nat → Bool} {held : Bool} {e : TypeId} {fs : Array Field} {fuel : Nat} {a : Addr} {cs : List Value} {x : DataW H × List MemPlace}
    (he : P.underlying e = some (.struct fs)) (hone : Go.Deep.oneCellFields P fs = true) (hC : P.cellsOf e = fs.size)
    (hc : w.cells? base a (P.cellsOf e) = some cs) (ht : DataW.trod enc P w base spare held fuel e cs = some x) :
    ∃ n, ∀ (j : Nat) (f : Field), fs[j]? = some f → ∃ v y, w.cell? (a.add j) = some v ∧ DataW.trod enc P w base spare held n f.type [v] = some y := by
  obtain ⟨ys, n, _, _, hlen, hyl, hf⟩ := DataW.trod_struct he ht
  obtain ⟨_, hcl, hat⟩ := World.cells?_some hc
  refine ⟨n, fun j f hj => ?_⟩
  have hlt : j < fs.size := (Array.getElem?_eq_some_iff.1 hj).1
  obtain ⟨ho, hk⟩ := Go.Deep.hone_of hone j f hj
  have h1 := hf j f hj
  have hjc : j < cs.length := by omega
  rw [ho, hk, List.drop_eq_getElem_cons hjc, List.take_succ_cons, List.take_zero, List.getElem?_eq_getElem (by omega)] at h1
  exact ⟨_, _, (hat j (by omega)).trans (List.getElem?_eq_getElem hjc), h1⟩

theorem handles_opened {H : Type} {enc : TypeId × Value → H} {W : World} {a : Option Addr} {len cap : Nat} {d : DataW H} {p : List MemPlace} (h : DataW.Trod enc Try.prog W 0 (fun _ => true) true 50 (.slice a len cap) d p) :
    len ≤ cap ∧ cap ≤ 9223372036854775807 ∧ ∃ hs : List (Int × Int), len = hs.length ∧ aI.HAt W a hs := by
  obtain ⟨fuel, hf⟩ := h
  rcases Go.Deep.open_slice Try.underlying50 hf with ⟨hcs, _⟩ | ⟨x, l, c, m, n, D, Q, hcs, _, hl, hm, hmm, _, hi⟩
  · simp [Value.cells] at hcs
    obtain ⟨rfl, rfl, rfl⟩ := hcs
    exact ⟨Nat.le_refl _, by decide, [], rfl, .inl rfl⟩
  · simp [Value.cells] at hcs
    obtain ⟨rfl, rfl, rfl⟩ := hcs
    simp at hmm
    unfold maxLen at hm
    refine ⟨hl, hm, ?_⟩
    by_cases h0 : len = 0
    · exact ⟨[], h0, .inl rfl⟩
    · have key : ∀ i, i < len → ∃ y : Int × Int, W.cell? (x.add (i * 2)) = some (.int .i64 y.1) ∧ W.cell? ((x.add (i * 2)).add 1) = some (.int .i64 y.2) := by
        intro i hlt
        obtain ⟨cs, hc, ht⟩ := hi i (by omega)
        rw [show Try.prog.cellsOf 33 = 2 by kernel_rfl] at hc
        obtain ⟨n', hfa⟩ := fields_at Try.underlying33 (by kernel_rfl) (by kernel_rfl) (by rw [show Try.prog.cellsOf 33 = 2 by kernel_rfl]; exact hc) ht
        obtain ⟨v0, y0, c0, t0⟩ := hfa 0 _ rfl
        obtain ⟨v1, y1, c1, t1⟩ := hfa 1 _ rfl
        obtain ⟨K, e0, _, _⟩ := DataW.trod_int Try.underlying3 t0
        obtain ⟨I, e1, _, _⟩ := DataW.trod_int Try.underlying3 t1
        cases e0
        cases e1
        exact ⟨(K, I), by rw [show (x.add (i * 2)).add 0 = x.add (i * 2) from rfl] at c0; exact c0, c1⟩
      have pick : ∃ f : Nat → Int × Int, ∀ i, i < len → W.cell? (x.add (i * 2)) = some (.int .i64 (f i).1) ∧ W.cell? ((x.add (i * 2)).add 1) = some (.int .i64 (f i).2) := by
        refine ⟨fun i => if h : i < len then (key i h).choose else (0, 0), fun i h => ?_⟩
        simp only [h, dif_pos]
        exact (key i h).choose_spec
      obtain ⟨f, hf⟩ := pick
      obtain ⟨b, off, spot⟩ := x
      have hspot : spot = none := by simpa [Addr.add] using World.cell?_spot (hf 0 (by omega)).1
      subst hspot
      refine ⟨(List.range len).map f, by simp, .inr ⟨b, off, rfl, fun i hlt => ?_⟩⟩
      have hlt : i < len := by simpa using hlt
      obtain ⟨h1, h2⟩ := hf i hlt
      rw [addr_add] at h1
      rw [addr_add, addr_add] at h2
      simp [hlt, h1, h2]
end Go.Proofs.Ytdompamilgbnnaa
