/-
  Plain mathematics: going on behind each number, and going around.
-/
import Derived.Test.YtajpjmnkjpildaaDoorMaskL
namespace Go.Proofs.YtajpjmnkjpildaaDoor

theorem find_at (p : Nat → Bool) : ∀ (l : List Nat) (i : Nat), i ≤ l.length → (∀ j x, j < i → l[j]? = some x → p x = false) → (∀ x, l[i]? = some x → p x = true) → l.find? p = l[i]?
  | [], i, _, _, _ => by simp
  | a :: r, 0, _, _, h => by
    have := h a (by simp)
    simp [this]
  | a :: r, i + 1, hi, h1, h2 => by
    have ha := h1 0 a (by omega) (by simp)
    have ih := find_at p r i (by simpa using hi) (fun j x hj hx => h1 (j + 1) x (by omega) (by simpa using hx)) (fun x hx => h2 x (by simpa using hx))
    simp [ha, ih]

theorem ones_sorted (m : Nat) : (Pl.ones m).Pairwise (· < ·) := List.Pairwise.filter _ List.pairwise_lt_range

theorem ones_lt {m i x y j : Nat} (hij : i < j) (hi : (Pl.ones m)[i]? = some x) (hj : (Pl.ones m)[j]? = some y) : x < y := by
  obtain ⟨h1, rfl⟩ := List.getElem?_eq_some_iff.1 hi
  obtain ⟨h2, rfl⟩ := List.getElem?_eq_some_iff.1 hj
  exact List.pairwise_iff_getElem.1 (ones_sorted m) i j h1 h2 hij

theorem mem_ones {m x : Nat} : x ∈ Pl.ones m ↔ x < 64 ∧ m.testBit x = true := by
  simp [Pl.ones]

/-- Where the walk stands ahead of its i-th step. -/
def atN (m i : Nat) : Nat := match i with
  | 0 => 0
  | i + 1 => (Pl.ones m)[i]?.getD 0 + 1

theorem next_at (m i : Nat) (hi : i ≤ (Pl.ones m).length) : nextO m (atN m i : Int) = (Pl.ones m)[i]? := by
  unfold nextO
  refine find_at _ _ i hi (fun j x hj hx => ?_) (fun x hx => ?_)
  · cases i with
    | zero => omega
    | succ i =>
      have h1 : i < (Pl.ones m).length := by omega
      have e : (Pl.ones m)[i]? = some (Pl.ones m)[i] := List.getElem?_eq_getElem h1
      have hle : x ≤ (Pl.ones m)[i] := by
        by_cases c : j = i
        · subst c; rw [hx] at e; injection e with e; omega
        · have := ones_lt (show j < i by omega) hx e; omega
      simp only [atN, e, Option.getD_some, decide_eq_false_iff_not]
      omega
  · cases i with
    | zero => simp [atN]
    | succ i =>
      have h1 : i < (Pl.ones m).length := by omega
      have e : (Pl.ones m)[i]? = some (Pl.ones m)[i] := List.getElem?_eq_getElem h1
      have := ones_lt (Nat.lt_succ_self i) e hx
      simp only [atN, e, Option.getD_some, decide_eq_true_eq]
      omega

theorem walk_hit (m i x : Nat) (hx : (Pl.ones m)[i]? = some x) : nextV m (atN m i : Int) = x ∧ nextB m (atN m i : Int) = true ∧ hasb m (x : Int) = true ∧ atN m (i + 1) = x + 1 := by
  have hi := (List.getElem?_eq_some_iff.1 hx).1
  have h := next_at m i (by omega)
  rw [hx] at h
  have hm : x ∈ Pl.ones m := List.mem_iff_getElem?.2 ⟨i, hx⟩
  have hm2 := mem_ones.1 hm
  refine ⟨by rw [nextV, h]; rfl, by rw [nextB, h]; rfl, ?_, by simp [atN, hx]⟩
  rw [hasb, Int.toNat_natCast, hm2.2]
  simp
  omega
theorem walk_end (m : Nat) : nextB m (atN m (Pl.ones m).length : Int) = false := by
  have h := next_at m _ (Nat.le_refl _)
  rw [nextB, h]
  simp

/-! ### Around -/
theorem around_some (m : Nat) (from' : Int) (h : aroundB m from' = true) : ∃ s : Nat, (Pl.ones m)[s]? = some (aroundV m from') := by
  have key : ∀ f : Int, nextB m f = true → ∃ s : Nat, (Pl.ones m)[s]? = some (nextV m f) := fun f hf => by
    unfold nextB at hf
    obtain ⟨x, hx⟩ := Option.isSome_iff_exists.1 hf
    have hm : x ∈ Pl.ones m := List.mem_of_find?_eq_some hx
    obtain ⟨s, hs⟩ := List.mem_iff_getElem?.1 hm
    exact ⟨s, by rw [hs, nextV, hx]; rfl⟩
  unfold aroundB at h
  unfold aroundV
  cases hb : nextB m from'
  · rw [hb] at h
    simp only [Bool.false_eq_true, if_false] at h ⊢
    exact key 0 h
  · rw [if_pos rfl]
    exact key from' hb
theorem around_none (m : Nat) (hm : m < 18446744073709551616) (from' : Int) (h : aroundB m from' = false) : m = 0 := by
  have h0 : nextB m 0 = false := by
    unfold aroundB at h
    cases hb : nextB m from'
    · rw [hb] at h; simpa using h
    · rw [hb] at h; simp at h
  refine eq_of_bits hm (by decide) fun i hi => ?_
  rw [Nat.zero_testBit]
  cases hb : m.testBit i
  · rfl
  · exfalso
    have hmem : i ∈ Pl.ones m := mem_ones.2 ⟨hi, hb⟩
    unfold nextB nextO at h0
    rw [Option.isSome_eq_false_iff, Option.isNone_iff_eq_none, List.find?_eq_none] at h0
    have := h0 i hmem
    simp at this
theorem around_next (m t x : Nat) (hx : (Pl.ones m)[t]? = some x) : (Pl.ones m)[if t + 1 < (Pl.ones m).length then t + 1 else 0]? = some (aroundV m ((x : Int) + 1)) := by
  have ht := (List.getElem?_eq_some_iff.1 hx).1
  have h := next_at m (t + 1) (by omega)
  have ea : (atN m (t + 1) : Int) = (x : Int) + 1 := by simp [atN, hx]
  rw [ea] at h
  unfold aroundV
  by_cases c : t + 1 < (Pl.ones m).length
  · rw [if_pos c]
    have e : (Pl.ones m)[t + 1]? = some (Pl.ones m)[t + 1] := List.getElem?_eq_getElem c
    rw [e] at h
    rw [nextB, nextV, h, e]
    rfl
  · rw [if_neg c]
    have e : (Pl.ones m)[t + 1]? = none := List.getElem?_eq_none (by omega)
    rw [e] at h
    have h0 := next_at m 0 (by omega)
    have e0 : (Pl.ones m)[0]? = some (Pl.ones m)[0] := List.getElem?_eq_getElem (by omega)
    have ea0 : (atN m 0 : Int) = 0 := rfl
    rw [ea0, e0] at h0
    rw [nextB, h]
    simp only [Option.isSome_none, Bool.false_eq_true, if_false]
    rw [nextV, h0, e0]
    rfl

/-- The place of the i-th one, when s is the first one's place. -/
def idx (n s i : Nat) : Nat := if s + i < n then s + i else s + i - n

/-- The ones that have been met. -/
def seenZ (m s i : Nat) : List Int := (List.range i).map fun j => (((Pl.ones m)[idx (Pl.ones m).length s j]?.getD 0 : Nat) : Int)
theorem seenZ_succ (m s i x : Nat) (hx : (Pl.ones m)[idx (Pl.ones m).length s i]? = some x) : seenZ m s (i + 1) = seenZ m s i ++ [(x : Int)] := by
  unfold seenZ
  rw [List.range_succ, List.map_append]
  simp [hx]
theorem withN_append (m : Nat) (a b : List Int) : withN m (a ++ b) = withN (withN m a) b := by unfold withN; rw [List.foldl_append]

theorem seen_not (m s i x : Nat) (hs : s < (Pl.ones m).length) (hi : i < (Pl.ones m).length) (hx : (Pl.ones m)[idx (Pl.ones m).length s i]? = some x) : hasb (withN 0 (seenZ m s i)) (x : Int) = false := by
  have hx64 := (mem_ones.1 (List.mem_iff_getElem?.2 ⟨_, hx⟩)).1
  unfold hasb
  rw [Int.toNat_natCast, withN_test _ x hx64]
  have : memb (seenZ m s i) x = false := by
    unfold memb seenZ
    rw [List.any_map, List.any_eq_false]
    intro j hj
    have hj : j < i := by simpa using hj
    have hlt : idx (Pl.ones m).length s j < (Pl.ones m).length := by unfold idx; split <;> omega
    have e : (Pl.ones m)[idx (Pl.ones m).length s j]? = some (Pl.ones m)[idx (Pl.ones m).length s j] := List.getElem?_eq_getElem hlt
    have hne : idx (Pl.ones m).length s j ≠ idx (Pl.ones m).length s i := by unfold idx; split <;> split <;> omega
    simp only [Function.comp, e, Option.getD_some, decide_eq_true_eq]
    intro hc
    have hc : (Pl.ones m)[idx (Pl.ones m).length s j] = x := by omega
    rcases Nat.lt_or_gt_of_ne hne with h | h
    · have := ones_lt h e hx; omega
    · have := ones_lt h hx e; omega
  simp [this]

theorem seen_all (m s : Nat) (hm : m < 18446744073709551616) (hs : s < (Pl.ones m).length) : withN 0 (seenZ m s (Pl.ones m).length) = m := by
  refine eq_of_bits (withN_lt _ _ (by decide)) hm fun p hp => ?_
  rw [withN_test _ p hp, Nat.zero_testBit, Bool.false_or]
  cases hb : m.testBit p
  · unfold memb seenZ
    rw [List.any_map, List.any_eq_false]
    intro j hj
    have hj : j < (Pl.ones m).length := by simpa using hj
    have hlt : idx (Pl.ones m).length s j < (Pl.ones m).length := by unfold idx; split <;> omega
    have e : (Pl.ones m)[idx (Pl.ones m).length s j]? = some (Pl.ones m)[idx (Pl.ones m).length s j] := List.getElem?_eq_getElem hlt
    simp only [Function.comp, e, Option.getD_some, decide_eq_true_eq]
    intro hc
    have hmem := (mem_ones.1 (List.mem_iff_getElem?.2 ⟨_, e⟩)).2
    have hc : (Pl.ones m)[idx (Pl.ones m).length s j] = p := by omega
    rw [hc, hb] at hmem
    cases hmem
  · have hmem : p ∈ Pl.ones m := mem_ones.2 ⟨hp, hb⟩
    obtain ⟨t, ht⟩ := List.mem_iff_getElem?.1 hmem
    have htl := (List.getElem?_eq_some_iff.1 ht).1
    unfold memb seenZ
    rw [List.any_map, List.any_eq_true]
    refine ⟨if s ≤ t then t - s else t + (Pl.ones m).length - s, ?_, ?_⟩
    · rw [List.mem_range]; split <;> omega
    · have : idx (Pl.ones m).length s (if s ≤ t then t - s else t + (Pl.ones m).length - s) = t := by unfold idx; split <;> split <;> omega
      simp only [Function.comp, this, ht, Option.getD_some]
      simp

theorem idx_succ (n s i : Nat) (hs : s < n) (hi : i < n) : (if idx n s i + 1 < n then idx n s i + 1 else 0) = idx n s (i + 1) := by
  unfold idx
  split <;> split <;> split <;> omega
theorem idx_lt (n s i : Nat) (hs : s < n) (hi : i < n) : idx n s i < n := by unfold idx; split <;> omega
theorem idx_zero (n s : Nat) (hs : s < n) : idx n s 0 = s := by unfold idx; rw [if_pos (by omega)]; omega
theorem idx_n (n s : Nat) : idx n s n = s := by unfold idx; rw [if_neg (by omega)]; omega
end Go.Proofs.YtajpjmnkjpildaaDoor
