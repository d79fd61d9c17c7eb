/-
  Openers: a word, words, a handle by value.
-/
import Derived.Test.YtalhlopjaijhcaaGreatBaseT
import Derived.Test.YtalhlopjaijhcaaGreatMgM
import Derived.Deep.Strs
namespace Go.Proofs.YtalhlopjaijhcaaGreat
open Go.ChangeShapes Go.WideShapes Go.ChangeAt Go.RowKit

theorem u64_of {a : Int} (h : (Lit.int .u64 a).wf = true) : a = ((a.toNat : Nat) : Int) ∧ a.toNat < 18446744073709551616 := by
  have h2 : 0 ≤ a ∧ a ≤ 18446744073709551615 := by simpa [Lit.wf, IntKind.min, IntKind.max, IntKind.signed, IntKind.bits] using h
  omega
theorem words_opened {H : Type} {enc : TypeId × Value → H} {W : World} {a : Option Addr} {len cap : Nat} {d : DataW H} {p : List MemPlace} (h : DataW.Trod enc Tryz.prog W 0 (fun _ => true) true 26 (.slice a len cap) d p) :
    ∃ l : List Nat, len = l.length ∧ len ≤ cap ∧ cap ≤ 9223372036854775807 ∧ WA W a l ∧ ∀ x ∈ l, x < 18446744073709551616 := by
  obtain ⟨fuel, hf⟩ := h
  rcases open_ints Tryz.underlying26 Tryz.underlying40 (by kernel_rfl) hf with ⟨hcs, _⟩ | ⟨x, l, c, zs, hcs, _, hl, hm, hz, _, hcell, hwf⟩
  · simp [Value.cells] at hcs
    obtain ⟨rfl, rfl, rfl⟩ := hcs
    exact ⟨[], rfl, Nat.le_refl _, by decide, .inl rfl, by intro x hx; cases hx⟩
  · simp [Value.cells] at hcs
    obtain ⟨rfl, rfl, rfl⟩ := hcs
    have hz : zs.length = cap := by simpa using hz
    unfold maxLen at hm
    refine ⟨(zs.take len).map Int.toNat, by rw [List.length_map, List.length_take]; omega, hl, hm, ?_, ?_⟩
    · by_cases h0 : len = 0
      · subst h0; exact .inl (by simp)
      · obtain ⟨b, off, spot⟩ := x
        have hc := hcell 0 (by omega)
        have hspot : spot = none := by simpa [Addr.add] using World.cell?_spot hc
        subst hspot
        refine .inr ⟨b, off, rfl, fun i k hi => ?_⟩
        have hlt := (List.getElem?_eq_some_iff.1 hi).1
        rw [List.length_map, List.length_take] at hlt
        have hci := hcell i (by omega)
        rw [addr_add] at hci
        rw [hci]
        have hi2 : i < len := by omega
        have hi3 : i < zs.length := by omega
        have hw := (u64_of (hwf _ (List.getElem_mem hi3))).1
        rw [List.getElem?_map, List.getElem?_take, if_pos hi2, List.getElem?_eq_getElem hi3] at hi
        obtain rfl : (zs[i]).toNat = k := by simpa using hi
        rw [← hw]
        simp [hi3]
    · intro y hy
      obtain ⟨z, hz1, rfl⟩ := List.mem_map.1 hy
      exact (u64_of (hwf z (List.mem_of_mem_take hz1))).2
set_option maxRecDepth 100000 in
theorem handle_opened {H : Type} {enc : TypeId × Value → H} {W : World} {base : Nat} {v : Value} {d : DataW H} {p : List MemPlace} (hv : Value.okWide Tryz.prog W .any base 39 v) (h : DataW.Trod enc Tryz.prog W 0 (fun _ => true) true 39 v d p) :
    ∃ o : Int × Int, v = .agg #[.int .i64 o.1, .int .i64 o.2] := by
  obtain ⟨v0, v1, y0, y1, n, rfl, rfl, rfl, t0, t1⟩ := Go.Joins.open_agg2 Tryz.underlying39 (by kernel_rfl) (by kernel_rfl) hv h
  obtain ⟨K, e0, _, _⟩ := DataW.trod_int Tryz.underlying3 t0
  obtain ⟨I, e1, _, _⟩ := DataW.trod_int Tryz.underlying3 t1
  cases e0
  cases e1
  exact ⟨(K, I), rfl⟩
end Go.Proofs.YtalhlopjaijhcaaGreat
