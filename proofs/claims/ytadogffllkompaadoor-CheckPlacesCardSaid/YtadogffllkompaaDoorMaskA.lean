/-
  Contracts of the small functions of package mask and of math/bits: bit, Has, Full, RotateLeft64, Turn, TrailingZeros64.
-/
import Derived.Test.YtadogffllkompaaDoorRows
import Derived.WalkKit
import Derived.ProofKit
import Derived.BigQuiet
import Derived.Deep.QuietTactic
import Derived.Laws.BitsAllLaws
import Derived.Lib.TrailingZeros
import Derived.Lib.Hide
import Derived.Outline
namespace Go.Proofs.YtadogffllkompaaDoor.Mk
open Go.RowKit

/-- The bit of a number, 0 if no mask can hold it. -/
def bitv (i : Int) : Nat := if 0 ≤ i ∧ i < 64 then 2 ^ i.toNat else 0

theorem bitv_lt (i : Int) : bitv i < 18446744073709551616 := by
  unfold bitv
  split
  · rename_i h
    have : 2 ^ i.toNat ≤ 2 ^ 63 := Nat.pow_le_pow_right (by decide) (by omega)
    omega
  · decide

theorem wrap_pow (i : Int) (h0 : 0 ≤ i) (h1 : i < 64) : IntKind.u64.wrap (2 ^ i.toNat) = ((bitv i : Nat) : Int) := by
  have h := bitv_lt i
  have e : bitv i = 2 ^ i.toNat := by unfold bitv; rw [if_pos ⟨h0, h1⟩]
  rw [IntKind.wrap_u64, e]
  rw [e] at h
  have e2 : ((2 ^ i.toNat : Nat) : Int) = (2 : Int) ^ i.toNat := by simp
  rw [← e2]
  omega

theorem bit_any (i : Int) (w : World) :
    Calls Tryd.prog 38 #[.int .i64 i] w fun e w' => e = .returned (.int .u64 ((bitv i : Nat) : Int)) ∧ w = w' := by
  by_cases h0 : 0 ≤ i
  · by_cases h1 : i < 64
    · have h2 : ¬ i < 0 := by omega
      have h3 : ¬ 64 ≤ i := by omega
      go_enter Tryd.func38, Tryd.ntmps38
      go_wp2
      go_ret
      exact ⟨by rw [wrap_pow i h0 h1]; rfl, rfl⟩
    · have e : bitv i = 0 := by unfold bitv; rw [if_neg (by omega)]
      have h2 : ¬ i < 0 := by omega
      have h3 : 64 ≤ i := by omega
      rw [e]
      clear e
      go_enter Tryd.func38, Tryd.ntmps38
      go_wp2
      go_ret
      exact ⟨rfl, rfl⟩
  · have e : bitv i = 0 := by unfold bitv; rw [if_neg (by omega)]
    have h2 : i < 0 := by omega
    rw [e]
    clear e
    go_enter Tryd.func38, Tryd.ntmps38
    go_wp2
    go_ret
    exact ⟨rfl, rfl⟩

/-- Whether a number is in a mask. -/
def hasb (m : Nat) (i : Int) : Bool := decide (0 ≤ i ∧ i < 64) && m.testBit i.toNat

theorem and_bitv (m : Nat) (i : Int) : m &&& bitv i = if hasb m i = true then bitv i else 0 := by
  unfold bitv hasb
  by_cases h : 0 ≤ i ∧ i < 64
  · rw [if_pos h]
    simp only [h, and_self, decide_true, Bool.true_and]
    apply Nat.eq_of_testBit_eq
    intro j
    rw [Nat.testBit_and, Nat.testBit_two_pow]
    by_cases e : i.toNat = j
    · subst e; cases m.testBit i.toNat <;> simp
    · simp only [e, decide_false, Bool.and_false]
      cases m.testBit i.toNat <;> simp [e]
  · simp [h]

theorem bitv_pos (m : Nat) (i : Int) (h : hasb m i = true) : bitv i ≠ 0 := by
  unfold hasb at h
  simp only [Bool.and_eq_true, decide_eq_true_eq] at h
  unfold bitv
  rw [if_pos h.1]
  exact Nat.ne_of_gt (Nat.pow_pos (by decide))

theorem has_val (m : Nat) (i : Int) (hm : m < 18446744073709551616) : (bits .and .u64 (m : Int) ((bitv i : Nat) : Int) != 0) = hasb m i := by
  rw [u64_and_nat m _ hm (bitv_lt i), and_bitv]
  cases h : hasb m i
  · simp
  · have := bitv_pos m i h
    simp
    omega

theorem has_any (m : Nat) (i : Int) (hm : m < 18446744073709551616) (w : World) :
    Calls Tryd.prog 22 #[.int .u64 (m : Int), .int .i64 i] w fun e w' => e = .returned (.bool (hasb m i)) ∧ w = w' := by
  have H := Lib.hid (has_val m i hm)
  go_enter Tryd.func22, Tryd.ntmps22
  go_wp2_with (go_at_call 38; refine (bit_any _ _).mono ?_; rintro e w' ⟨rfl, rfl⟩)
  go_ret
  exact ⟨by rw [H.out]; rfl, rfl⟩

/-- All numbers below n. -/
def fulln (n : Int) : Nat := if n < 1 then 0 else if 64 ≤ n then 18446744073709551615 else 2 ^ n.toNat - 1

theorem fulln_val (n : Int) (h0 : ¬ n < 1) (h1 : ¬ 64 ≤ n) : IntKind.u64.wrap (IntKind.u64.wrap (2 ^ n.toNat) - 1) = ((fulln n : Nat) : Int) := by
  have hb := wrap_pow n (by omega) (by omega)
  have e : bitv n = 2 ^ n.toNat := by unfold bitv; rw [if_pos ⟨by omega, by omega⟩]
  have ef : fulln n = 2 ^ n.toNat - 1 := by unfold fulln; rw [if_neg h0, if_neg h1]
  have hp : 0 < 2 ^ n.toNat := Nat.pow_pos (by decide)
  have hl := bitv_lt n
  rw [e] at hl
  rw [hb, ef, e, IntKind.wrap_u64]
  omega

/-- The table of math/bits, as it is laid. -/
def Tab (w : World) : Prop := ∀ j, j < 64 → w.cell? ⟨1, j, none⟩ = some (.int .u8 ((Lib.deBruijn64tab.getD j 0 : Nat) : Int))

theorem tz_zero (w : World) :
    Calls Tryd.prog 56 #[.int .u64 0] w fun e w' => e = .returned (.int .i64 64) ∧ w = w' := by
  go_enter Tryd.func56, Tryd.ntmps56
  go_wp2
  go_ret
  exact ⟨rfl, rfl⟩

theorem tz_core (x k idx : Nat) (w : World) (hx0 : ((x : Int) == 0) = false)
    (key : IntKind.u64.wrap (bits BinOp.and IntKind.u64 (x : Int) (IntKind.u64.wrap (-(x : Int))) * 285870213051353865) / 288230376151711744 = (idx : Int))
    (hi : idx < 64) (hk : k < 64) (hcell : w.cell? ⟨1, idx, none⟩ = some (.int .u8 k)) :
    Calls Tryd.prog 56 #[.int .u64 x] w fun e w' => e = .returned (.int .i64 k) ∧ w = w' := by
  go_enter Tryd.func56, Tryd.ntmps56
  go_wp2_with (simp only [key])
  go_ret
  exact ⟨rfl, rfl⟩

theorem tz_key (x a : Nat) (hx : x < 18446744073709551616) (hx0 : x ≠ 0) (hlow : x &&& (18446744073709551616 - x) = a) :
    IntKind.u64.wrap (bits BinOp.and IntKind.u64 (x : Int) (IntKind.u64.wrap (-(x : Int))) * 285870213051353865) / 288230376151711744 = ((a * 285870213051353865 % 18446744073709551616 / 288230376151711744 : Nat) : Int) := by
  have e1 : IntKind.u64.wrap (-(x : Int)) = ((18446744073709551616 - x : Nat) : Int) := by rw [IntKind.wrap_u64]; omega
  rw [e1, u64_and_nat x _ hx (by omega), hlow, IntKind.wrap_u64]
  omega

theorem tz_any (x : Nat) (hx : x < 18446744073709551616) (hx0 : x ≠ 0) (w : World) (hT : Tab w) :
    Calls Tryd.prog 56 #[.int .u64 x] w fun e w' => e = .returned (.int .i64 (Lib.ctz 64 x)) ∧ w = w' := by
  obtain ⟨hlow, hk⟩ := Lib.lowest_bit 64 x hx0 hx
  obtain ⟨hi, htab⟩ := Lib.deBruijn64_at _ hk
  have hcell := hT _ hi
  rw [htab] at hcell
  exact tz_core x _ _ w (by simp; omega) (tz_key x _ hx hx0 hlow) hi hk hcell
end Go.Proofs.YtadogffllkompaaDoor.Mk
