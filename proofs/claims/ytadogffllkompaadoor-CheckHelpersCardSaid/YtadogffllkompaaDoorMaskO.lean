/-
  Plain mathematics: the numbers of the ones of a word, rising.
-/
import Derived.Test.YtadogffllkompaaDoorMaskP
namespace Go.Proofs.YtadogffllkompaaDoor.Pl

/-- The numbers of the ones, rising. -/
def ones (x : Nat) : List Nat := (List.range 64).filter fun i => x.testBit i

theorem ones_zero : ones 0 = [] := by simp [ones]

theorem low_bits (k m : Nat) (j : Nat) (hj : j < k) : (2 ^ k * (2 * m + 1)).testBit j = false := by
  rw [Nat.testBit_two_pow_mul]
  simp
  omega
theorem at_bit (k m : Nat) : (2 ^ k * (2 * m + 1)).testBit k = true := by
  rw [Nat.testBit_two_pow_mul]
  simp [Nat.testBit_zero]
theorem less_bit (k m : Nat) (j : Nat) : (2 ^ k * (2 * m + 1) &&& (2 ^ k * (2 * m + 1) - 1)).testBit j = (decide (j ≠ k) && (2 ^ k * (2 * m + 1)).testBit j) := by
  have hp : 0 < 2 ^ k := Nat.pow_pos (by decide)
  have e : 2 ^ k * (2 * m + 1) - 1 = 2 ^ k * (2 * m) + (2 ^ k - 1) := by rw [Nat.mul_add]; omega
  rw [e, Nat.testBit_and, Nat.testBit_two_pow_mul_add _ (by omega)]
  by_cases h : j < k
  · rw [low_bits k m j h]; simp
  · rw [if_neg h, Nat.testBit_two_pow_mul]
    by_cases he : j = k
    · subst he; simp [Nat.testBit_zero]
    · obtain ⟨d, rfl⟩ : ∃ d, j = k + (d + 1) := ⟨j - k - 1, by omega⟩
      have e2 : k + (d + 1) - k = d + 1 := by omega
      rw [e2, Nat.testBit_succ, Nat.testBit_succ]
      have e3 : (2 * m + 1) / 2 = m := by omega
      have e4 : 2 * m / 2 = m := by omega
      rw [e3, e4]
      simp

theorem ones_next (x : Nat) (h0 : x ≠ 0) (hx : x < 18446744073709551616) : ones x = Lib.ctz 64 x :: ones (x &&& (x - 1)) := by
  obtain ⟨m, hm, hk⟩ := Lib.ctzFrom_spec 64 x (by omega) hx
  have ec : Lib.ctz 64 x = Lib.ctzFrom 64 x := by simp [Lib.ctz, h0]
  rw [ec]
  generalize Lib.ctzFrom 64 x = k at hm hk
  have es : List.range 64 = List.range k ++ (k :: (List.range (63 - k)).map (k + 1 + ·)) := by
    have e1 : (64 : Nat) = k + ((63 - k) + 1) := by omega
    conv => lhs; rw [e1, List.range_add, List.range_succ_eq_map]
    simp [List.map_map, Function.comp_def]
    intro a _
    omega
  unfold ones
  rw [es]
  simp only [List.filter_append, List.filter_cons]
  have f1 : (List.range k).filter (fun i => x.testBit i) = [] := by
    rw [List.filter_eq_nil_iff]; intro a ha; rw [hm, low_bits k m a (by simpa using ha)]; simp
  have f2 : (List.range k).filter (fun i => (x &&& (x - 1)).testBit i) = [] := by
    rw [List.filter_eq_nil_iff]; intro a ha; rw [hm, less_bit, low_bits k m a (by simpa using ha)]; simp
  have f3 : x.testBit k = true := by rw [hm, at_bit]
  have f4 : (x &&& (x - 1)).testBit k = false := by rw [hm, less_bit]; simp
  have f5 : ((List.range (63 - k)).map (k + 1 + ·)).filter (fun i => x.testBit i) = ((List.range (63 - k)).map (k + 1 + ·)).filter (fun i => (x &&& (x - 1)).testBit i) := by
    apply List.filter_congr
    intro a ha
    rw [hm, less_bit]
    obtain ⟨b, _, rfl⟩ := List.mem_map.1 ha
    have : k + 1 + b ≠ k := by omega
    simp [this]
  rw [f1, f2, f3, f4, f5]
  simp

theorem and_pred_lt (x : Nat) (h0 : x ≠ 0) : x &&& (x - 1) < x := by
  have := Nat.and_le_right (n := x) (m := x - 1)
  omega

theorem bitsN_eq : ∀ (n x : Nat), bitsN n x = (List.range n).map fun i => (x.testBit i).toNat
  | 0, _ => rfl
  | n + 1, x => by
    rw [List.range_succ_eq_map, bitsN, bitsN_eq n]
    simp only [List.map_cons, List.map_map]
    congr 1
    · rw [Nat.testBit_zero]
      cases h : decide (x % 2 = 1) <;> simp at h ⊢ <;> omega
    · apply List.map_congr_left
      intro i _
      simp [Nat.testBit_succ]
theorem sum_filter (p : Nat → Bool) : ∀ (l : List Nat), (l.map fun i => (p i).toNat).sum = (l.filter p).length
  | [] => rfl
  | a :: l => by
    have := sum_filter p l
    cases h : p a <;> simp [h, this]
    omega
theorem pc_ones (x : Nat) : pc x = (ones x).length := by
  unfold pc ones
  rw [bitsN_eq, sum_filter]
end Go.Proofs.YtadogffllkompaaDoor.Pl
