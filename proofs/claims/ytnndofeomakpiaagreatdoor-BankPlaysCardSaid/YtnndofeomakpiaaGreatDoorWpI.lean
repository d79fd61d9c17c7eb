/-
  The document's answer for the wheel: Ids.
-/
import Derived.Test.YtnndofeomakpiaaGreatDoorWpB
namespace Go.Proofs.YtnndofeomakpiaaGreatDoor
open Go.RowKit

attribute [local go_sem] Oper.semAt_some

/-- The numbers below n that are held, rising. -/
def idsN (m : List Tm) (n : Nat) : List Int := ((List.range n).filter fun i => decide (0 ≤ ixOf m ((i : Nat) : Int))).map fun (i : Nat) => (i : Int)
theorem idsN_yes {m : List Tm} {n : Nat} (h : 0 ≤ ixOf m (n : Int)) : idsN m (n + 1) = idsN m n ++ [(n : Int)] := by
  unfold idsN
  rw [List.range_succ, List.filter_append, List.map_append]
  simp [h]
theorem idsN_no {m : List Tm} {n : Nat} (h : ¬ 0 ≤ ixOf m (n : Int)) : idsN m (n + 1) = idsN m n := by
  unfold idsN
  rw [List.range_succ, List.filter_append, List.map_append]
  simp [h]
theorem idsN_len (m : List Tm) (n : Nat) : (idsN m n).length ≤ n := by
  unfold idsN
  rw [List.length_map]
  exact Nat.le_trans (List.length_filter_le _ _) (by simp)
theorem ixOf_some {m : List Tm} {k : Int} : 0 ≤ ixOf m k ↔ ∃ t ∈ m, t.id = k := by
  unfold ixOf
  cases h : m.findIdx? (fun t => decide (t.id = k)) with
  | none =>
    rw [List.findIdx?_eq_none_iff] at h
    constructor
    · intro h1; exact absurd h1 (by decide)
    · rintro ⟨t, ht, e⟩
      have := h t ht
      simp [e] at this
  | some i =>
    rw [List.findIdx?_eq_some_iff_getElem] at h
    obtain ⟨h1, h2, _⟩ := h
    constructor
    · intro _; exact ⟨m[i], List.getElem_mem h1, by simpa using h2⟩
    · intro _; simp only []; omega
end Go.Proofs.YtnndofeomakpiaaGreatDoor
