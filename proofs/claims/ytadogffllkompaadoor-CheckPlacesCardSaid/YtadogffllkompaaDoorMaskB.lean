/-
  Contracts: OnesCount64, Len, RotateLeft64, Turn.
-/
import Derived.Test.YtadogffllkompaaDoorMaskA
import Derived.Test.YtadogffllkompaaDoorMaskP
import Derived.Laws.Bits128
namespace Go.Proofs.YtadogffllkompaaDoor.Mk
open Go.RowKit

set_option maxHeartbeats 400000 in
theorem ones_core (x x1 x2 x3 x4 x5 x6 p : Nat) (w : World)
    (h1 : IntKind.u64.wrap (bits BinOp.and IntKind.u64 ((x : Int) / 2) 6148914691236517205 + bits BinOp.and IntKind.u64 (x : Int) 6148914691236517205) = (x1 : Int))
    (h2 : IntKind.u64.wrap (bits BinOp.and IntKind.u64 ((x1 : Int) / 4) 3689348814741910323 + bits BinOp.and IntKind.u64 (x1 : Int) 3689348814741910323) = (x2 : Int))
    (h3 : bits BinOp.and IntKind.u64 (IntKind.u64.wrap ((x2 : Int) / 16 + (x2 : Int))) 1085102592571150095 = (x3 : Int))
    (h4 : IntKind.u64.wrap ((x3 : Int) + (x3 : Int) / 256) = (x4 : Int))
    (h5 : IntKind.u64.wrap ((x4 : Int) + (x4 : Int) / 65536) = (x5 : Int))
    (h6 : IntKind.u64.wrap ((x5 : Int) + (x5 : Int) / 4294967296) = (x6 : Int))
    (h8 : bits BinOp.and IntKind.i64 (wrap64 (x6 : Int)) 127 = (p : Int)) :
    Calls Tryd.prog 37 #[.int .u64 (x : Int)] w fun e w' => e = .returned (.int .i64 (p : Int)) ∧ w = w' := by
  go_enter Tryd.func37, Tryd.ntmps37
  go_wp2
  go_ret
  exact ⟨rfl, rfl⟩

theorem wu (a : Nat) (h : a < 18446744073709551616) : IntKind.u64.wrap (a : Int) = (a : Int) := by rw [IntKind.wrap_u64]; omega

theorem ones_any (x : Nat) (hx : x < 18446744073709551616) (w : World) :
    Calls Tryd.prog 37 #[.int .u64 (x : Int)] w fun e w' => e = .returned (.int .i64 ((Pl.pc x : Nat) : Int)) ∧ w = w' := by
  obtain ⟨x1, g1⟩ : ∃ y, y = (x / 2 &&& 6148914691236517205) + (x &&& 6148914691236517205) := ⟨_, rfl⟩
  obtain ⟨x2, g2⟩ : ∃ y, y = (x1 / 4 &&& 3689348814741910323) + (x1 &&& 3689348814741910323) := ⟨_, rfl⟩
  obtain ⟨x3, g3⟩ : ∃ y, y = (x2 / 16 + x2 &&& 1085102592571150095) := ⟨_, rfl⟩
  obtain ⟨x4, g4⟩ : ∃ y, y = x3 + x3 / 256 := ⟨_, rfl⟩
  obtain ⟨x5, g5⟩ : ∃ y, y = x4 + x4 / 65536 := ⟨_, rfl⟩
  obtain ⟨x6, g6⟩ : ∃ y, y = x5 + x5 / 4294967296 := ⟨_, rfl⟩
  obtain ⟨z3, z4, z5, z6, hp⟩ := Pl.pc_steps x x1 x2 x3 x4 x5 x6 hx g1 g2 g3 g4 g5 g6
  have b1 : x1 < 18446744073709551616 := by
    have a1 : (x / 2 &&& 6148914691236517205) ≤ 6148914691236517205 := Nat.and_le_right
    have a2 : (x &&& 6148914691236517205) ≤ 6148914691236517205 := Nat.and_le_right
    rw [g1]; clear g1 g2 g3 g4 g5 g6 hp; omega
  have b2 : x2 < 8000000000000000000 := by
    have a1 : (x1 / 4 &&& 3689348814741910323) ≤ 3689348814741910323 := Nat.and_le_right
    have a2 : (x1 &&& 3689348814741910323) ≤ 3689348814741910323 := Nat.and_le_right
    rw [g2]; clear g1 g2 g3 g4 g5 g6 hp; omega
  refine ones_core x x1 x2 x3 x4 x5 x6 _ w ?_ ?_ ?_ ?_ ?_ ?_ ?_
  · have e : ((x : Int) / 2) = ((x / 2 : Nat) : Int) := rfl
    rw [e, show (6148914691236517205 : Int) = ((6148914691236517205 : Nat) : Int) from rfl, u64_and_nat _ _ (by clear g1 g2 g3 g4 g5 g6 hp; omega) (by decide), u64_and_nat _ _ hx (by decide), ← Int.natCast_add, ← g1, wu _ b1]
  · have e : ((x1 : Int) / 4) = ((x1 / 4 : Nat) : Int) := rfl
    rw [e, show (3689348814741910323 : Int) = ((3689348814741910323 : Nat) : Int) from rfl, u64_and_nat _ _ (by clear g1 g2 g3 g4 g5 g6 hp; omega) (by decide), u64_and_nat _ _ b1 (by decide), ← Int.natCast_add, ← g2, wu _ (by clear g1 g2 g3 g4 g5 g6 hp; omega)]
  · have e : ((x2 : Int) / 16 + (x2 : Int)) = ((x2 / 16 + x2 : Nat) : Int) := rfl
    rw [e, wu _ (by clear g1 g2 g3 g4 g5 g6 hp; omega), show (1085102592571150095 : Int) = ((1085102592571150095 : Nat) : Int) from rfl, u64_and_nat _ _ (by clear g1 g2 g3 g4 g5 g6 hp; omega) (by decide), ← g3]
  · have e : ((x3 : Int) + (x3 : Int) / 256) = ((x3 + x3 / 256 : Nat) : Int) := rfl
    rw [e, ← g4, wu _ (by clear g1 g2 g3 g4 g5 g6 hp; omega)]
  · have e : ((x4 : Int) + (x4 : Int) / 65536) = ((x4 + x4 / 65536 : Nat) : Int) := rfl
    rw [e, ← g5, wu _ (by clear g1 g2 g3 g4 g5 g6 hp; omega)]
  · have e : ((x5 : Int) + (x5 : Int) / 4294967296) = ((x5 + x5 / 4294967296 : Nat) : Int) := rfl
    rw [e, ← g6, wu _ (by clear g1 g2 g3 g4 g5 g6 hp; omega)]
  · rw [i64_and127, ← hp]
    unfold wrap64
    clear g1 g2 g3 g4 g5 g6 hp
    omega

theorem len_any (x : Nat) (hx : x < 18446744073709551616) (w : World) :
    Calls Tryd.prog 21 #[.int .u64 (x : Int)] w fun e w' => e = .returned (.int .i64 ((Pl.pc x : Nat) : Int)) ∧ w = w' := by
  have H := Lib.hid hx
  clear hx
  go_enter Tryd.func21, Tryd.ntmps21
  go_wp2_with (go_at_call 37; refine (ones_any _ H.out _).mono ?_; rintro e w' ⟨rfl, rfl⟩)
  go_ret
  exact ⟨rfl, rfl⟩

/-- A word turned to the left by s. -/
def rotl (x s : Nat) : Nat := (x * 2 ^ s % 18446744073709551616) ||| (x / 2 ^ (64 - s))

theorem rotl_lt (x s : Nat) (hx : x < 18446744073709551616) : rotl x s < 18446744073709551616 := by
  have h1 : x * 2 ^ s % 18446744073709551616 < 2 ^ 64 := Nat.mod_lt _ (by decide)
  have h2 : x / 2 ^ (64 - s) < 2 ^ 64 := Nat.lt_of_le_of_lt (Nat.div_le_self _ _) (by simpa using hx)
  exact Nat.or_lt_two_pow h1 h2

theorem rot_val (x s : Nat) (hx : x < 18446744073709551616) : bits BinOp.or IntKind.u64 (IntKind.u64.wrap ((x : Int) * 2 ^ s)) ((x : Int) / 2 ^ (64 - s)) = ((rotl x s : Nat) : Int) := by
  have e1 : IntKind.u64.wrap ((x : Int) * 2 ^ s) = ((x * 2 ^ s % 18446744073709551616 : Nat) : Int) := by
    rw [IntKind.wrap_u64]; simp
  have e2 : (x : Int) / 2 ^ (64 - s) = ((x / 2 ^ (64 - s) : Nat) : Int) := by simp
  rw [e1, e2, u64_or_nat _ _ (Nat.mod_lt _ (by decide)) (Nat.lt_of_le_of_lt (Nat.div_le_self _ _) hx)]
  rfl

theorem and63 (k : Int) : bits BinOp.and IntKind.u64 (IntKind.u64.wrap k) 63 = (((k % 64).toNat : Nat) : Int) := by
  have e1 : IntKind.u64.wrap k = (((k % 18446744073709551616).toNat : Nat) : Int) := by rw [IntKind.wrap_u64]; omega
  rw [e1, show (63 : Int) = ((63 : Nat) : Int) from rfl, u64_and_nat _ _ (by omega) (by decide), nat_mask6]
  omega

/-- Each number less n, mod 64. -/
def turnN (x : Nat) (n : Int) : Nat := rotl x (-n % 64).toNat

theorem turnN_lt (x : Nat) (n : Int) (hx : x < 18446744073709551616) : turnN x n < 18446744073709551616 := rotl_lt _ _ hx

end Go.Proofs.YtadogffllkompaaDoor.Mk
