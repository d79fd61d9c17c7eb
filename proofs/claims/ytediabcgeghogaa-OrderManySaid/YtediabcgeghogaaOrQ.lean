/-
  Plain: keys that are touched one behind the other, of which some are dropped at once; who is left.
-/
import Derived.Test.YtediabcgeghogaaOrP
namespace Go.Proofs.Ytediabcgeghogaa

section
variable {α : Type} [DecidableEq α] (z : Nat → α) (db : Nat → Bool)

/-- j's key comes no more ahead of n. -/
def lastO (n j : Nat) : Bool := (List.range n).all fun k => decide (k ≤ j) || decide (z k ≠ z j)
def pT (n j : Nat) : Bool := lastO z n j && !db j
/-- Who is left behind n touches. -/
def selT (n : Nat) : List α := ((List.range n).filter (pT z db n)).map z
def cntT (n i : Nat) : Nat := ((List.range i).filter (pT z db n)).length
variable {z db}

theorem lastO_iff {n j : Nat} : lastO z n j = true ↔ ∀ k, j < k → k < n → z k ≠ z j := by
  unfold lastO
  rw [List.all_eq_true]
  constructor
  · intro h k h1 h2
    have := h k (List.mem_range.2 h2)
    simp only [Bool.or_eq_true, decide_eq_true_eq] at this
    rcases this with h3 | h3
    · omega
    · exact h3
  · intro h k hk
    simp only [Bool.or_eq_true, decide_eq_true_eq]
    by_cases h1 : k ≤ j
    · exact .inl h1
    · exact .inr (h k (by omega) (List.mem_range.1 hk))
theorem selT_zero : selT z db 0 = [] := rfl
theorem pT_succ {i j : Nat} (h : j < i) : pT z db (i + 1) j = (decide (z j ≠ z i) && pT z db i j) := by
  unfold pT
  rw [Bool.eq_iff_iff]
  simp only [Bool.and_eq_true, lastO_iff, decide_eq_true_eq]
  constructor
  · rintro ⟨h1, h2⟩
    exact ⟨fun e => h1 i h (by omega) e.symm, fun k h3 h4 => h1 k h3 (by omega), h2⟩
  · rintro ⟨h1, h2, h3⟩
    refine ⟨fun k h4 h5 => ?_, h3⟩
    by_cases e : k = i
    · subst e; exact fun e2 => h1 e2.symm
    · exact h2 k h4 (by omega)
theorem pT_self (i : Nat) : pT z db (i + 1) i = !db i := by
  unfold pT
  rw [show lastO z (i + 1) i = true from lastO_iff.2 (fun k h1 h2 => by omega)]
  rfl
theorem selT_succ (i : Nat) : selT z db (i + 1) = drp (selT z db i) (z i) ++ (if db i then [] else [z i]) := by
  unfold selT drp
  rw [List.range_succ, List.filter_append, List.map_append, List.filter_map, List.filter_filter]
  congr 1
  · congr 1
    refine List.filter_congr fun j hj => ?_
    rw [pT_succ (List.mem_range.1 hj)]
    rfl
  · rw [List.filter_cons, pT_self]
    cases db i <;> rfl
theorem selT_len (n : Nat) : (selT z db n).length = cntT z db n n := by simp [selT, cntT]
theorem selT_le (n : Nat) : (selT z db n).length ≤ n := by
  rw [selT_len]
  unfold cntT
  exact Nat.le_trans (List.length_filter_le _ _) (by simp)
theorem cntT_succ (n i : Nat) : cntT z db n (i + 1) = cntT z db n i + if pT z db n i then 1 else 0 := by
  unfold cntT
  rw [List.range_succ, List.filter_append, List.length_append, List.filter_cons]
  split <;> rfl
theorem selT_at {n i : Nat} (hi : i < n) (h : pT z db n i = true) : (selT z db n)[cntT z db n i]? = some (z i) := by
  unfold selT cntT
  obtain ⟨d, rfl⟩ : ∃ d, n = i + (1 + d) := ⟨n - i - 1, by omega⟩
  have e : List.range (i + (1 + d)) = List.range i ++ (i :: (List.range d).map fun j => i + (1 + j)) := by
    rw [List.range_add, List.range_add]
    simp [List.range_succ, Function.comp_def]
  rw [e, List.filter_append, List.filter_cons, if_pos h, List.map_append, List.getElem?_append_right (by simp)]
  simp
/-- A key is left just when its last touch wasn't dropped. -/
theorem mem_selT {n i L : Nat} (h1 : i ≤ L) (h2 : L < n) (h3 : z L = z i) (h4 : ∀ k, L < k → k < n → z k ≠ z i) : z i ∈ selT z db n ↔ db L = false := by
  unfold selT
  rw [List.mem_map]
  constructor
  · rintro ⟨j, hj, e⟩
    obtain ⟨hj1, hj2⟩ := List.mem_filter.1 hj
    unfold pT at hj2
    rw [Bool.and_eq_true, lastO_iff] at hj2
    have hjn := List.mem_range.1 hj1
    have : j = L := by
      by_cases h5 : j < L
      · exact absurd (h3.trans e.symm) (hj2.1 L h5 h2)
      · by_cases h6 : L < j
        · exact absurd e (h4 j h6 hjn)
        · omega
    subst this
    simpa using hj2.2
  · intro h
    refine ⟨L, List.mem_filter.2 ⟨List.mem_range.2 h2, ?_⟩, h3⟩
    unfold pT
    rw [Bool.and_eq_true, lastO_iff, h]
    exact ⟨fun k h5 h6 => by rw [h3]; exact h4 k h5 h6, rfl⟩
/-- Its place counts just where it was touched last, and not dropped. -/
theorem pT_iff {n i L : Nat} (h1 : i ≤ L) (h2 : L < n) (h3 : z L = z i) (h4 : ∀ k, L < k → k < n → z k ≠ z i) : pT z db n i = (decide (L = i) && !db L) := by
  by_cases e : L = i
  · subst e
    unfold pT
    rw [lastO_iff.2 (fun k h5 h6 => h4 k h5 h6)]
    simp
  · have : lastO z n i = false := by
      cases hh : lastO z n i with
      | false => rfl
      | true => exact absurd h3 (lastO_iff.1 hh L (by omega) h2)
    unfold pT
    rw [this]
    simp [e]
end
end Go.Proofs.Ytediabcgeghogaa
