/-
  Contracts of package mask: bit, Has, With, Of, Without.
-/
import Derived.Test.YticdlknlihogcaaRows
import Derived.WalkKit
import Derived.ProofKit
import Derived.BigQuiet
import Derived.Deep.QuietTactic
import Derived.Laws.BitsAllLaws
import Derived.LoopTactic
import Derived.OwnWalk
import Derived.Handy
import Derived.Lib.Hide
import Derived.Outline
namespace Go.Proofs.Yticdlknlihogcaa.Mk
open Go.RowKit

/-- The bit of a number, 0 if no mask can hold it. -/
def bitv (i : Int) : Nat := if 0 ≤ i ∧ i < 64 then 2 ^ i.toNat else 0

theorem bitv_lt (i : Int) : bitv i < 18446744073709551616 := by
  unfold bitv
  split
  · rename_i h
    have : 2 ^ i.toNat ≤ 2 ^ 63 := Nat.pow_le_pow_right (by decide) (by omega)
    omega
  · decide

theorem wrap_pow (i : Int) (h0 : 0 ≤ i) (h1 : i < 64) : IntKind.u64.wrap (2 ^ i.toNat) = ((bitv i : Nat) : Int) := by
  have h := bitv_lt i
  have e : bitv i = 2 ^ i.toNat := by unfold bitv; rw [if_pos ⟨h0, h1⟩]
  rw [IntKind.wrap_u64, e]
  rw [e] at h
  have e2 : ((2 ^ i.toNat : Nat) : Int) = (2 : Int) ^ i.toNat := by simp
  rw [← e2]
  omega

theorem bit_any (i : Int) (w : World) :
    Calls Try.prog 29 #[.int .i64 i] w fun e w' => e = .returned (.int .u64 ((bitv i : Nat) : Int)) ∧ w = w' := by
  by_cases h0 : 0 ≤ i
  · by_cases h1 : i < 64
    · have h2 : ¬ i < 0 := by omega
      have h3 : ¬ 64 ≤ i := by omega
      go_enter Try.func29, Try.ntmps29
      go_wp2
      go_ret
      exact ⟨by rw [wrap_pow i h0 h1]; rfl, rfl⟩
    · have e : bitv i = 0 := by unfold bitv; rw [if_neg (by omega)]
      have h2 : ¬ i < 0 := by omega
      have h3 : 64 ≤ i := by omega
      rw [e]
      clear e
      go_enter Try.func29, Try.ntmps29
      go_wp2
      go_ret
      exact ⟨rfl, rfl⟩
  · have e : bitv i = 0 := by unfold bitv; rw [if_neg (by omega)]
    have h2 : i < 0 := by omega
    rw [e]
    clear e
    go_enter Try.func29, Try.ntmps29
    go_wp2
    go_ret
    exact ⟨rfl, rfl⟩

/-- Whether a number is in a mask. -/
def hasb (m : Nat) (i : Int) : Bool := decide (0 ≤ i ∧ i < 64) && m.testBit i.toNat

theorem and_bitv (m : Nat) (i : Int) : m &&& bitv i = if hasb m i = true then bitv i else 0 := by
  unfold bitv hasb
  by_cases h : 0 ≤ i ∧ i < 64
  · rw [if_pos h]
    simp only [h, and_self, decide_true, Bool.true_and]
    apply Nat.eq_of_testBit_eq
    intro j
    rw [Nat.testBit_and, Nat.testBit_two_pow]
    by_cases e : i.toNat = j
    · subst e; cases m.testBit i.toNat <;> simp
    · simp only [e, decide_false, Bool.and_false]
      cases m.testBit i.toNat <;> simp [e]
  · simp [h]

theorem bitv_pos (m : Nat) (i : Int) (h : hasb m i = true) : bitv i ≠ 0 := by
  unfold hasb at h
  simp only [Bool.and_eq_true, decide_eq_true_eq] at h
  unfold bitv
  rw [if_pos h.1]
  exact Nat.ne_of_gt (Nat.pow_pos (by decide))

theorem has_val (m : Nat) (i : Int) (hm : m < 18446744073709551616) : (bits .and .u64 (m : Int) ((bitv i : Nat) : Int) != 0) = hasb m i := by
  rw [u64_and_nat m _ hm (bitv_lt i), and_bitv]
  cases h : hasb m i
  · simp
  · have := bitv_pos m i h
    simp
    omega

theorem has_any (m : Nat) (i : Int) (hm : m < 18446744073709551616) (w : World) :
    Calls Try.prog 21 #[.int .u64 (m : Int), .int .i64 i] w fun e w' => e = .returned (.bool (hasb m i)) ∧ w = w' := by
  have H := Lib.hid (has_val m i hm)
  go_enter Try.func21, Try.ntmps21
  go_wp2_with (go_at_call 29; refine (bit_any _ _).mono ?_; rintro e w' ⟨rfl, rfl⟩)
  go_ret
  exact ⟨by rw [H.out]; rfl, rfl⟩

/-- A mask with these numbers. -/
def withN (m : Nat) (zs : List Int) : Nat := zs.foldl (fun m i => m ||| bitv i) m

theorem withN_lt (m : Nat) (zs : List Int) (hm : m < 18446744073709551616) : withN m zs < 18446744073709551616 := by
  unfold withN
  induction zs generalizing m with
  | nil => exact hm
  | cons z zs ih => exact ih _ (Nat.or_lt_two_pow (n := 64) hm (bitv_lt z))

theorem withN_snoc (m : Nat) (zs : List Int) (k : Nat) (h : k < zs.length) : withN m (zs.take (k + 1)) = withN m (zs.take k) ||| bitv (zs[k]?.getD 0) := by
  unfold withN
  rw [List.take_succ_eq_append_getElem h, List.foldl_append]
  simp [h]

/-- A slice of numbers that is read: its elements are zs. -/
def IntsAt (w : World) (a : Option Addr) (zs : List Int) : Prop :=
  zs = [] ∨ ∃ b off, a = some ⟨b, off, none⟩ ∧ ∀ i, i < zs.length → w.cell? ⟨b, off + i, none⟩ = some (.int .i64 (zs[i]?.getD 0))

set_option maxHeartbeats 400000 in
theorem with_any (m : Nat) (hm : m < 18446744073709551616) (a : Option Addr) (cap : Nat) (zs : List Int) (w : World) (hl : zs.length ≤ 9223372036854775807) (hz : IntsAt w a zs) :
    Calls Try.prog 31 #[.int .u64 (m : Int), .slice a zs.length cap] w fun e w' => e = .returned (.int .u64 ((withN m zs : Nat) : Int)) ∧ w = w' := by
  obtain ⟨n, hn⟩ : ∃ n, n = zs.length := ⟨_, rfl⟩
  rw [← hn] at hl ⊢
  have HM := Lib.hid hm
  have HN := Lib.hid hn
  have HZ := Lib.hid hz
  clear hm hn hz
  go_enter Try.func31, Try.ntmps31
  go_wp2
  go_loop [0, 9] (fun m' i => ∃ k : Nat, k ≤ n ∧ i = .int .i64 k ∧ m' = .int .u64 ((withN m (zs.take k) : Nat) : Int)) (fun _ i => n - (intOf i).toNat)
  case atStart => exact ⟨0, Nat.zero_le _, rfl, rfl⟩
  case round =>
    obtain ⟨k, hk, rfl, rfl⟩ := hrel
    by_cases hlt : k < n
    · rcases HZ.out with h0 | ⟨b, off, rfl, hc⟩
      · exfalso; rw [HN.out, h0] at hlt; simp at hlt
      · have hc := hc k (by rw [← HN.out]; exact hlt)
        have HB := Lib.hid (withN_lt m (zs.take k) HM.out)
        go_wp2_with (go_at_call 29; refine (bit_any _ _).mono ?_; rintro e w' ⟨rfl, rfl⟩)
        go_round
        case rel => exact ⟨k + 1, by omega, by go_num, by rw [withN_snoc m zs k (by rw [← HN.out]; exact hlt), u64_or_nat _ _ HB.out (bitv_lt _)]⟩
        case measure => simp [intOf]; omega
    · go_wp2
      go_ret
      exact ⟨by rw [List.take_of_length_le (by rw [← HN.out]; omega)]; rfl, rfl⟩
theorem of_any (a : Option Addr) (cap : Nat) (zs : List Int) (w : World) (hl : zs.length ≤ 9223372036854775807) (hz : IntsAt w a zs) :
    Calls Try.prog 27 #[.slice a zs.length cap] w fun e w' => e = .returned (.int .u64 ((withN 0 zs : Nat) : Int)) ∧ w = w' := by
  have H := Lib.hid (with_any 0 (by decide) a cap zs w hl hz)
  clear hl hz
  go_enter Try.func27, Try.ntmps27
  go_wp2_with (go_at_call 31; refine H.out.mono ?_; rintro e w' ⟨rfl, rfl⟩)
  go_ret
  exact ⟨rfl, rfl⟩

/-- A mask without these numbers. -/
def withoutN (m : Nat) (zs : List Int) : Nat := m &&& (18446744073709551615 - withN 0 zs)
theorem withoutN_lt (m : Nat) (zs : List Int) (hm : m < 18446744073709551616) : withoutN m zs < 18446744073709551616 :=
  Nat.lt_of_le_of_lt Nat.and_le_left hm

theorem without_any (m : Nat) (hm : m < 18446744073709551616) (a : Option Addr) (cap : Nat) (zs : List Int) (w : World) (hl : zs.length ≤ 9223372036854775807) (hz : IntsAt w a zs) :
    Calls Try.prog 22 #[.int .u64 (m : Int), .slice a zs.length cap] w fun e w' => e = .returned (.int .u64 ((withoutN m zs : Nat) : Int)) ∧ w = w' := by
  have H := Lib.hid (of_any a cap zs w hl hz)
  have HV := Lib.hid (u64_andNot_nat m _ hm (withN_lt 0 zs (by decide)))
  clear hl hz hm
  go_enter Try.func22, Try.ntmps22
  go_wp2_with (go_at_call 27; refine H.out.mono ?_; rintro e w' ⟨rfl, rfl⟩)
  go_ret
  exact ⟨by show Ending.returned (Value.int .u64 (bits BinOp.andNot IntKind.u64 (m : Int) ((withN 0 zs : Nat) : Int))) = _; rw [HV.out]; rfl, rfl⟩

end Go.Proofs.Yticdlknlihogcaa.Mk
