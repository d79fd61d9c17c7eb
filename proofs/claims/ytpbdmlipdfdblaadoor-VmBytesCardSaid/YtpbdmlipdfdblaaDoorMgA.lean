/-
  Several texts in one: Contracts of the small functions of package mask and of math/bits: bit, Has, Full, RotateLeft64, Turn, TrailingZeros64. · Plain mathematics of 64-bit words: digits, the count of ones by halves, the list of ones, turning. No program in sight. · Contracts: OnesCount64, Len, RotateLeft64, Turn. · Contracts: With, Of, Without (a slice of numbers that is read). · Contracts of the document's answer for layer 1: Bits, Word, Put. · Plain mathematics: the numbers of the ones of a word, rising. · Contracts: the iterator over a mask's numbers. · Contracts: first (over the closure of Next), Next, Around. · Contracts: Of, Without; the document's answer: Next, Around, List, Turn, Same.
-/
import Derived.Test.YtpbdmlipdfdblaaDoorRows
import Derived.WalkKit
import Derived.ProofKit
import Derived.BigQuiet
import Derived.Deep.QuietTactic
import Derived.Laws.BitsAllLaws
import Derived.Lib.TrailingZeros
import Derived.Lib.Hide
import Derived.Outline
import Derived.Laws.Bits128
import Derived.LoopTactic
import Derived.OwnWalk
import Derived.Handy
import Derived.Below
import Derived.RangeFuncBox
import Derived.Deep.DeepMust
import Derived.RangeFuncNested
import Derived.RangeFuncBound
import Derived.RangeFuncCalls
import Derived.RangeFuncLeaves
import Derived.Shelf.Abstract
import Derived.Shelf.RegionOpen
import Derived.OwnWalkIn
import Derived.TacticsInMore
import Derived.LoopNIn
import Derived.LoopIn
import Derived.StillTailTactics
namespace Go.Proofs.YtpbdmlipdfdblaaDoor.Mk
open Go.RowKit

/-- The bit of a number, 0 if no mask can hold it. -/
def bitv (i : Int) : Nat := if 0 ≤ i ∧ i < 64 then 2 ^ i.toNat else 0

theorem bitv_lt (i : Int) : bitv i < 18446744073709551616 := by
  unfold bitv
  split
  · rename_i h
    have : 2 ^ i.toNat ≤ 2 ^ 63 := Nat.pow_le_pow_right (by decide) (by omega)
    omega
  · decide

theorem wrap_pow (i : Int) (h0 : 0 ≤ i) (h1 : i < 64) : IntKind.u64.wrap (2 ^ i.toNat) = ((bitv i : Nat) : Int) := by
  have h := bitv_lt i
  have e : bitv i = 2 ^ i.toNat := by unfold bitv; rw [if_pos ⟨h0, h1⟩]
  rw [IntKind.wrap_u64, e]
  rw [e] at h
  have e2 : ((2 ^ i.toNat : Nat) : Int) = (2 : Int) ^ i.toNat := by simp
  rw [← e2]
  omega

theorem bit_any (i : Int) (w : World) :
    Calls Tryd.prog 58 #[.int .i64 i] w fun e w' => e = .returned (.int .u64 ((bitv i : Nat) : Int)) ∧ w = w' := by
  by_cases h0 : 0 ≤ i
  · by_cases h1 : i < 64
    · have h2 : ¬ i < 0 := by omega
      have h3 : ¬ 64 ≤ i := by omega
      go_enter Tryd.func58, Tryd.ntmps58
      go_wp2
      go_ret
      exact ⟨by rw [wrap_pow i h0 h1]; rfl, rfl⟩
    · have e : bitv i = 0 := by unfold bitv; rw [if_neg (by omega)]
      have h2 : ¬ i < 0 := by omega
      have h3 : 64 ≤ i := by omega
      rw [e]
      clear e
      go_enter Tryd.func58, Tryd.ntmps58
      go_wp2
      go_ret
      exact ⟨rfl, rfl⟩
  · have e : bitv i = 0 := by unfold bitv; rw [if_neg (by omega)]
    have h2 : i < 0 := by omega
    rw [e]
    clear e
    go_enter Tryd.func58, Tryd.ntmps58
    go_wp2
    go_ret
    exact ⟨rfl, rfl⟩

/-- Whether a number is in a mask. -/
def hasb (m : Nat) (i : Int) : Bool := decide (0 ≤ i ∧ i < 64) && m.testBit i.toNat

theorem and_bitv (m : Nat) (i : Int) : m &&& bitv i = if hasb m i = true then bitv i else 0 := by
  unfold bitv hasb
  by_cases h : 0 ≤ i ∧ i < 64
  · rw [if_pos h]
    simp only [h, and_self, decide_true, Bool.true_and]
    apply Nat.eq_of_testBit_eq
    intro j
    rw [Nat.testBit_and, Nat.testBit_two_pow]
    by_cases e : i.toNat = j
    · subst e; cases m.testBit i.toNat <;> simp
    · simp only [e, decide_false, Bool.and_false]
      cases m.testBit i.toNat <;> simp [e]
  · simp [h]

theorem bitv_pos (m : Nat) (i : Int) (h : hasb m i = true) : bitv i ≠ 0 := by
  unfold hasb at h
  simp only [Bool.and_eq_true, decide_eq_true_eq] at h
  unfold bitv
  rw [if_pos h.1]
  exact Nat.ne_of_gt (Nat.pow_pos (by decide))

theorem has_val (m : Nat) (i : Int) (hm : m < 18446744073709551616) : (bits .and .u64 (m : Int) ((bitv i : Nat) : Int) != 0) = hasb m i := by
  rw [u64_and_nat m _ hm (bitv_lt i), and_bitv]
  cases h : hasb m i
  · simp
  · have := bitv_pos m i h
    simp
    omega

theorem has_any (m : Nat) (i : Int) (hm : m < 18446744073709551616) (w : World) :
    Calls Tryd.prog 37 #[.int .u64 (m : Int), .int .i64 i] w fun e w' => e = .returned (.bool (hasb m i)) ∧ w = w' := by
  have H := Lib.hid (has_val m i hm)
  go_enter Tryd.func37, Tryd.ntmps37
  go_wp2_with (go_at_call 58; refine (bit_any _ _).mono ?_; rintro e w' ⟨rfl, rfl⟩)
  go_ret
  exact ⟨by rw [H.out]; rfl, rfl⟩

/-- All numbers below n. -/
def fulln (n : Int) : Nat := if n < 1 then 0 else if 64 ≤ n then 18446744073709551615 else 2 ^ n.toNat - 1

theorem fulln_val (n : Int) (h0 : ¬ n < 1) (h1 : ¬ 64 ≤ n) : IntKind.u64.wrap (IntKind.u64.wrap (2 ^ n.toNat) - 1) = ((fulln n : Nat) : Int) := by
  have hb := wrap_pow n (by omega) (by omega)
  have e : bitv n = 2 ^ n.toNat := by unfold bitv; rw [if_pos ⟨by omega, by omega⟩]
  have ef : fulln n = 2 ^ n.toNat - 1 := by unfold fulln; rw [if_neg h0, if_neg h1]
  have hp : 0 < 2 ^ n.toNat := Nat.pow_pos (by decide)
  have hl := bitv_lt n
  rw [e] at hl
  rw [hb, ef, e, IntKind.wrap_u64]
  omega

/-- The table of math/bits, as it is laid. -/
def Tab (w : World) : Prop := ∀ j, j < 64 → w.cell? ⟨1, j, none⟩ = some (.int .u8 ((Lib.deBruijn64tab.getD j 0 : Nat) : Int))

theorem tz_zero (w : World) :
    Calls Tryd.prog 89 #[.int .u64 0] w fun e w' => e = .returned (.int .i64 64) ∧ w = w' := by
  go_enter Tryd.func89, Tryd.ntmps89
  go_wp2
  go_ret
  exact ⟨rfl, rfl⟩

theorem tz_core (x k idx : Nat) (w : World) (hx0 : ((x : Int) == 0) = false)
    (key : IntKind.u64.wrap (bits BinOp.and IntKind.u64 (x : Int) (IntKind.u64.wrap (-(x : Int))) * 285870213051353865) / 288230376151711744 = (idx : Int))
    (hi : idx < 64) (hk : k < 64) (hcell : w.cell? ⟨1, idx, none⟩ = some (.int .u8 k)) :
    Calls Tryd.prog 89 #[.int .u64 x] w fun e w' => e = .returned (.int .i64 k) ∧ w = w' := by
  go_enter Tryd.func89, Tryd.ntmps89
  go_wp2_with (simp only [key])
  go_ret
  exact ⟨rfl, rfl⟩

theorem tz_key (x a : Nat) (hx : x < 18446744073709551616) (hx0 : x ≠ 0) (hlow : x &&& (18446744073709551616 - x) = a) :
    IntKind.u64.wrap (bits BinOp.and IntKind.u64 (x : Int) (IntKind.u64.wrap (-(x : Int))) * 285870213051353865) / 288230376151711744 = ((a * 285870213051353865 % 18446744073709551616 / 288230376151711744 : Nat) : Int) := by
  have e1 : IntKind.u64.wrap (-(x : Int)) = ((18446744073709551616 - x : Nat) : Int) := by rw [IntKind.wrap_u64]; omega
  rw [e1, u64_and_nat x _ hx (by omega), hlow, IntKind.wrap_u64]
  omega

theorem tz_any (x : Nat) (hx : x < 18446744073709551616) (hx0 : x ≠ 0) (w : World) (hT : Tab w) :
    Calls Tryd.prog 89 #[.int .u64 x] w fun e w' => e = .returned (.int .i64 (Lib.ctz 64 x)) ∧ w = w' := by
  obtain ⟨hlow, hk⟩ := Lib.lowest_bit 64 x hx0 hx
  obtain ⟨hi, htab⟩ := Lib.deBruijn64_at _ hk
  have hcell := hT _ hi
  rw [htab] at hcell
  exact tz_core x _ _ w (by simp; omega) (tz_key x _ hx hx0 hlow) hi hk hcell
end Go.Proofs.YtpbdmlipdfdblaaDoor.Mk

namespace Go.Proofs.YtpbdmlipdfdblaaDoor.Pl

/-! ### Digits -/
def ofD (k : Nat) : List Nat → Nat
  | [] => 0
  | d :: r => d + 2 ^ k * ofD k r

def pairUp : List Nat → List Nat
  | a :: b :: r => (a + b) :: pairUp r
  | _ => []

def Mk (k : Nat) : Nat → Nat
  | 0 => 0
  | n + 1 => (2 ^ k - 1) + 2 ^ (2 * k) * Mk k n

theorem and_digit (k d e D E : Nat) (hd : d < 2 ^ k) (he : e < 2 ^ k) : (d + 2 ^ k * D) &&& (e + 2 ^ k * E) = (d &&& e) + 2 ^ k * (D &&& E) := by
  have hde : d &&& e < 2 ^ k := Nat.and_lt_two_pow _ he
  apply Nat.eq_of_testBit_eq
  intro j
  rw [Nat.add_comm d, Nat.add_comm e, Nat.add_comm (d &&& e), Nat.testBit_and, Nat.testBit_two_pow_mul_add _ hd, Nat.testBit_two_pow_mul_add _ he, Nat.testBit_two_pow_mul_add _ hde]
  by_cases h : j < k <;> simp [h]

theorem and_low (k a : Nat) (h : a < 2 ^ k) : a &&& (2 ^ k - 1) = a := by
  rw [Nat.and_two_pow_sub_one_eq_mod, Nat.mod_eq_of_lt h]

theorem two_mul_pow (k : Nat) : 2 ^ (2 * k) = 2 ^ k * 2 ^ k := by rw [show 2 * k = k + k by omega, Nat.pow_add]

theorem and_step (k a b R M : Nat) (ha : a < 2 ^ k) (hb : b < 2 ^ k) : (a + 2 ^ k * (b + 2 ^ k * R)) &&& ((2 ^ k - 1) + 2 ^ (2 * k) * M) = a + 2 ^ (2 * k) * (R &&& M) := by
  have hp : 0 < 2 ^ k := Nat.pow_pos (by decide)
  have e1 : a + 2 ^ k * (b + 2 ^ k * R) = a + 2 ^ k * (b + 2 ^ k * R) := rfl
  rw [two_mul_pow, Nat.mul_assoc, and_digit k a (2 ^ k - 1) _ _ ha (by omega), and_low k a ha]
  have e2 : (2 ^ k * M : Nat) = 0 + 2 ^ k * M := by omega
  rw [e2, and_digit k b 0 _ _ hb hp]
  simp [Nat.mul_assoc]

theorem half (k : Nat) : ∀ (n : Nat) (ds : List Nat), ds.length = 2 * n → (∀ d ∈ ds, d < 2 ^ k) →
    (ofD k ds / 2 ^ k &&& Mk k n) + (ofD k ds &&& Mk k n) = ofD (2 * k) (pairUp ds)
  | 0, [], _, _ => by simp [ofD, Mk, pairUp]
  | n + 1, [], h, _ => by simp at h
  | 0, _ :: _, h, _ => by simp at h
  | n + 1, [_], h, _ => by simp at h; omega
  | n + 1, a :: b :: r, h, hd => by
    have hp : 0 < 2 ^ k := Nat.pow_pos (by decide)
    have ha : a < 2 ^ k := hd a (by simp)
    have hb : b < 2 ^ k := hd b (by simp)
    have ih := half k n r (by simp at h; omega) (fun d hm => hd d (by simp [hm]))
    have e1 : ofD k (a :: b :: r) = a + 2 ^ k * (b + 2 ^ k * ofD k r) := rfl
    have e2 : (a + 2 ^ k * (b + 2 ^ k * ofD k r)) / 2 ^ k = b + 2 ^ k * (ofD k r % 2 ^ k + 2 ^ k * (ofD k r / 2 ^ k)) := by
      rw [Nat.add_mul_div_left _ _ hp, Nat.div_eq_of_lt ha, Nat.zero_add, Nat.mod_add_div]
    rw [e1, e2]
    have e3 : ofD (2 * k) (pairUp (a :: b :: r)) = (a + b) + 2 ^ (2 * k) * ofD (2 * k) (pairUp r) := by simp only [pairUp, ofD]
    have e4 : Mk k (n + 1) = (2 ^ k - 1) + 2 ^ (2 * k) * Mk k n := rfl
    rw [e3, e4, and_step k b _ _ _ hb (Nat.mod_lt _ hp), and_step k a b _ _ ha hb, ← ih, Nat.mul_add]
    omega

/-- The third step: the halves are added before the mask. -/
theorem half3 (k : Nat) : ∀ (n : Nat) (ds : List Nat), ds.length = 2 * n → (∀ d ∈ ds, 2 * d < 2 ^ k) →
    (ofD k ds / 2 ^ k + ofD k ds &&& Mk k n) = ofD (2 * k) (pairUp ds)
  | 0, [], _, _ => by simp [ofD, Mk, pairUp]
  | n + 1, [], h, _ => by simp at h
  | 0, _ :: _, h, _ => by simp at h
  | n + 1, [_], h, _ => by simp at h; omega
  | n + 1, a :: b :: r, h, hd => by
    have hp : 0 < 2 ^ k := Nat.pow_pos (by decide)
    have ha : 2 * a < 2 ^ k := hd a (by simp)
    have hb : 2 * b < 2 ^ k := hd b (by simp)
    have ih := half3 k n r (by simp at h; omega) (fun d hm => hd d (by simp [hm]))
    have e1 : ofD k (a :: b :: r) = a + 2 ^ k * (b + 2 ^ k * ofD k r) := rfl
    have e2 : (a + 2 ^ k * (b + 2 ^ k * ofD k r)) / 2 ^ k = b + 2 ^ k * ofD k r := by
      rw [Nat.add_mul_div_left _ _ (by omega), Nat.div_eq_of_lt (by omega), Nat.zero_add]
    have hm : 2 * (ofD k r % 2 ^ k) < 2 ^ k := by
      cases r with
      | nil => simpa [ofD] using hp
      | cons c r =>
        have hc := hd c (by simp)
        show 2 * ((c + 2 ^ k * ofD k r) % 2 ^ k) < 2 ^ k
        rw [Nat.add_mul_mod_self_left, Nat.mod_eq_of_lt (by omega)]
        exact hc
    have e3 : b + 2 ^ k * ofD k r + (a + 2 ^ k * (b + 2 ^ k * ofD k r)) = (a + b) + 2 ^ k * ((b + ofD k r % 2 ^ k) + 2 ^ k * (ofD k r / 2 ^ k + ofD k r)) := by
      have hmod := Nat.mod_add_div (ofD k r) (2 ^ k)
      generalize ofD k r % 2 ^ k = m at *
      generalize ofD k r / 2 ^ k = q at *
      rw [← hmod]
      simp only [Nat.mul_add]
      omega
    have e5 : ofD (2 * k) (pairUp (a :: b :: r)) = (a + b) + 2 ^ (2 * k) * ofD (2 * k) (pairUp r) := by simp only [pairUp, ofD]
    have e4 : Mk k (n + 1) = (2 ^ k - 1) + 2 ^ (2 * k) * Mk k n := rfl
    rw [e1, e2, e3, e5, e4, and_step k _ _ _ _ (by omega) (by omega), ih]

theorem pairUp_length : ∀ (n : Nat) (ds : List Nat), ds.length = 2 * n → (pairUp ds).length = n
  | 0, [], _ => rfl
  | n + 1, [], h => by simp at h
  | 0, _ :: _, h => by simp at h
  | n + 1, [_], h => by simp at h; omega
  | n + 1, _ :: _ :: r, h => by simp [pairUp, pairUp_length n r (by simp at h; omega)]
theorem pairUp_sum : ∀ (n : Nat) (ds : List Nat), ds.length = 2 * n → (pairUp ds).sum = ds.sum
  | 0, [], _ => rfl
  | n + 1, [], h => by simp at h
  | 0, _ :: _, h => by simp at h
  | n + 1, [_], h => by simp at h; omega
  | n + 1, _ :: _ :: r, h => by simp [pairUp, pairUp_sum n r (by simp at h; omega)]; omega
theorem pairUp_le (c : Nat) : ∀ (ds : List Nat), (∀ d ∈ ds, d ≤ c) → ∀ d ∈ pairUp ds, d ≤ 2 * c
  | [], _, d, h => by simp [pairUp] at h
  | [_], _, d, h => by simp [pairUp] at h
  | a :: b :: r, hd, d, h => by
    simp only [pairUp, List.mem_cons] at h
    rcases h with rfl | h
    · have := hd a (by simp); have := hd b (by simp); omega
    · exact pairUp_le c r (fun d hm => hd d (by simp [hm])) d h

/-! ### The bits of a word -/
def bitsN : Nat → Nat → List Nat
  | 0, _ => []
  | n + 1, x => x % 2 :: bitsN n (x / 2)

theorem bitsN_length : ∀ (n x : Nat), (bitsN n x).length = n
  | 0, _ => rfl
  | n + 1, x => by simp [bitsN, bitsN_length n]
theorem bitsN_le : ∀ (n x : Nat), ∀ d ∈ bitsN n x, d ≤ 1
  | 0, _, d, h => by simp [bitsN] at h
  | n + 1, x, d, h => by
    simp only [bitsN, List.mem_cons] at h
    rcases h with rfl | h
    · omega
    · exact bitsN_le n _ d h
theorem ofD_bitsN : ∀ (n x : Nat), x < 2 ^ n → ofD 1 (bitsN n x) = x
  | 0, x, h => by simp at h; simp [bitsN, ofD, h]
  | n + 1, x, h => by
    have := ofD_bitsN n (x / 2) (by rw [Nat.pow_succ] at h; omega)
    simp only [bitsN, ofD, this]
    omega

/-- How many ones a word has. -/
def pc (x : Nat) : Nat := (bitsN 64 x).sum

theorem add256 (a b X Y : Nat) : (a + 256 * X) + (b + 256 * Y) = (a + b) + 256 * (X + Y) := by omega
theorem add256' (a b X : Nat) : (a + 256 * X) + b = (a + b) + 256 * X := by omega
theorem dv1 (a X : Nat) (h : a < 256) : (a + 256 * X) / 256 = X := by omega
theorem dv2 (a b X : Nat) (h : a < 256) (h' : b < 256) : (a + 256 * (b + 256 * X)) / 65536 = X := by omega
theorem dv4 (a b c d X : Nat) (h : a < 256) (h' : b < 256) (h2 : c < 256) (h3 : d < 256) : (a + 256 * (b + 256 * (c + 256 * (d + 256 * X)))) / 4294967296 = X := by
  have e : (4294967296 : Nat) = 65536 * 65536 := by decide
  rw [e, ← Nat.div_div_eq_div_mul, dv2 _ _ _ h h', dv2 _ _ _ h2 h3]
theorem bn (a X A B : Nat) (h : a ≤ A) (h' : X ≤ B) : a + 256 * X ≤ A + 256 * B := by omega
theorem md (a X : Nat) (h : a < 128) : (a + 256 * X) % 128 = a := by omega

theorem eight (e0 e1 e2 e3 e4 e5 e6 e7 : Nat) (h0 : e0 ≤ 8) (h1 : e1 ≤ 8) (h2 : e2 ≤ 8) (h3 : e3 ≤ 8) (h4 : e4 ≤ 8) (h5 : e5 ≤ 8) (h6 : e6 ≤ 8) (h7 : e7 ≤ 8) (x x4 x5 x6 : Nat)
    (hx : x = e0 + 256 * (e1 + 256 * (e2 + 256 * (e3 + 256 * (e4 + 256 * (e5 + 256 * (e6 + 256 * e7)))))))
    (g4 : x4 = x + x / 256) (g5 : x5 = x4 + x4 / 65536) (g6 : x6 = x5 + x5 / 4294967296) :
    x ≤ 8 + 256 * (8 + 256 * (8 + 256 * (8 + 256 * (8 + 256 * (8 + 256 * (8 + 256 * 8)))))) ∧
    x4 ≤ 16 + 256 * (16 + 256 * (16 + 256 * (16 + 256 * (16 + 256 * (16 + 256 * (16 + 256 * 8)))))) ∧
    x5 ≤ 32 + 256 * (32 + 256 * (32 + 256 * (32 + 256 * (32 + 256 * (24 + 256 * (16 + 256 * 8)))))) ∧
    x6 ≤ 64 + 256 * (64 + 256 * (64 + 256 * (64 + 256 * (32 + 256 * (24 + 256 * (16 + 256 * 8)))))) ∧ x6 % 128 = e0 + e1 + (e2 + e3) + (e4 + e5 + (e6 + e7)) := by
  have f4 : x4 = (e0 + e1) + 256 * ((e1 + e2) + 256 * ((e2 + e3) + 256 * ((e3 + e4) + 256 * ((e4 + e5) + 256 * ((e5 + e6) + 256 * ((e6 + e7) + 256 * e7)))))) := by
    rw [g4, hx, dv1 _ _ (by clear hx g4 g5 g6; omega)]
    rw [add256, add256, add256, add256, add256, add256, add256']
  have f5 : x5 = (e0 + e1 + (e2 + e3)) + 256 * ((e1 + e2 + (e3 + e4)) + 256 * ((e2 + e3 + (e4 + e5)) + 256 * ((e3 + e4 + (e5 + e6)) + 256 * ((e4 + e5 + (e6 + e7)) + 256 * ((e5 + e6 + e7) + 256 * ((e6 + e7) + 256 * e7)))))) := by
    rw [g5, f4, dv2 _ _ _ (by clear f4 hx g4 g5 g6; omega) (by clear f4 hx g4 g5 g6; omega)]
    rw [add256, add256, add256, add256, add256, add256']
  have f6 : x6 = (e0 + e1 + (e2 + e3) + (e4 + e5 + (e6 + e7))) + 256 * ((e1 + e2 + (e3 + e4) + (e5 + e6 + e7)) + 256 * ((e2 + e3 + (e4 + e5) + (e6 + e7)) + 256 * ((e3 + e4 + (e5 + e6) + e7) + 256 * ((e4 + e5 + (e6 + e7)) + 256 * ((e5 + e6 + e7) + 256 * ((e6 + e7) + 256 * e7)))))) := by
    rw [g6, f5, dv4 _ _ _ _ _ (by clear f4 f5 hx g4 g5 g6; omega) (by clear f4 f5 hx g4 g5 g6; omega) (by clear f4 f5 hx g4 g5 g6; omega) (by clear f4 f5 hx g4 g5 g6; omega)]
    rw [add256, add256, add256, add256']
  clear g4 g5 g6
  refine ⟨?_, ?_, ?_, ?_, ?_⟩
  · rw [hx]; repeat (refine bn _ _ _ _ (by clear hx f4 f5 f6; omega) ?_)
    exact h7
  · rw [f4]; repeat (refine bn _ _ _ _ (by clear hx f4 f5 f6; omega) ?_)
    exact h7
  · rw [f5]; repeat (refine bn _ _ _ _ (by clear hx f4 f5 f6; omega) ?_)
    exact h7
  · rw [f6]; repeat (refine bn _ _ _ _ (by clear hx f4 f5 f6; omega) ?_)
    exact h7
  · rw [f6, md _ _ (by clear hx f4 f5 f6; omega)]

theorem ofD8 (e0 e1 e2 e3 e4 e5 e6 e7 : Nat) : ofD 8 [e0, e1, e2, e3, e4, e5, e6, e7] = e0 + 256 * (e1 + 256 * (e2 + 256 * (e3 + 256 * (e4 + 256 * (e5 + 256 * (e6 + 256 * e7)))))) := by
  simp only [ofD, Nat.reducePow, Nat.mul_zero, Nat.add_zero]

theorem list8 (l : List Nat) (h : l.length = 8) : ∃ e0 e1 e2 e3 e4 e5 e6 e7, l = [e0, e1, e2, e3, e4, e5, e6, e7] := by
  match l, h with
  | [e0, e1, e2, e3, e4, e5, e6, e7], _ => exact ⟨e0, e1, e2, e3, e4, e5, e6, e7, rfl⟩

theorem Mk1 : Mk 1 32 = 6148914691236517205 := by decide +kernel
theorem Mk2 : Mk 2 16 = 3689348814741910323 := by decide +kernel
theorem Mk4 : Mk 4 8 = 1085102592571150095 := by decide +kernel

/-- THE COUNT BY HALVES, IN NUMBERS. -/
theorem pc_steps (x x1 x2 x3 x4 x5 x6 : Nat) (hx : x < 18446744073709551616)
    (g1 : x1 = (x / 2 &&& 6148914691236517205) + (x &&& 6148914691236517205))
    (g2 : x2 = (x1 / 4 &&& 3689348814741910323) + (x1 &&& 3689348814741910323))
    (g3 : x3 = (x2 / 16 + x2 &&& 1085102592571150095))
    (g4 : x4 = x3 + x3 / 256) (g5 : x5 = x4 + x4 / 65536) (g6 : x6 = x5 + x5 / 4294967296) :
    x3 < 4611686018427387904 ∧ x4 < 4611686018427387904 ∧ x5 < 4611686018427387904 ∧ x6 < 9223372036854775808 ∧ x6 % 128 = pc x := by
  have b0 := ofD_bitsN 64 x (by simpa using hx)
  have l0 := bitsN_length 64 x
  have k0 : ∀ d ∈ bitsN 64 x, d ≤ 1 := bitsN_le 64 x
  have l1 := pairUp_length 32 _ l0
  have k1 := pairUp_le 1 _ k0
  have l2 := pairUp_length 16 _ l1
  have k2 := pairUp_le _ _ k1
  have l3 := pairUp_length 8 _ l2
  have k3 := pairUp_le _ _ k2
  have s1 := pairUp_sum 32 _ l0
  have s2 := pairUp_sum 16 _ l1
  have s3 := pairUp_sum 8 _ l2
  have e1 := half 1 32 _ l0 (fun d hd => by have := k0 d hd; omega)
  rw [b0, Mk1] at e1
  have e2 := half 2 16 _ l1 (fun d hd => by have := k1 d hd; omega)
  rw [show 2 * 1 = 2 from rfl] at e1
  rw [← e1, Mk2] at e2
  have e3 := half3 4 8 _ l2 (fun d hd => by have := k2 d hd; omega)
  rw [show 2 * 2 = 4 from rfl] at e2
  rw [← e2, Mk4] at e3
  rw [show 2 * 4 = 8 from rfl] at e3
  obtain ⟨c0, c1, c2, c3, c4, c5, c6, c7, hl⟩ := list8 _ l3
  have hs : pc x = c0 + c1 + (c2 + c3) + (c4 + c5 + (c6 + c7)) := by
    show (bitsN 64 x).sum = _
    rw [← s1, ← s2, ← s3, hl]
    simp
    omega
  rw [hl] at e3 k3
  simp only [List.mem_cons, List.not_mem_nil, or_false, forall_eq_or_imp, forall_eq] at k3
  obtain ⟨q0, q1, q2, q3, q4, q5, q6, q7⟩ := k3
  rw [ofD8] at e3
  have x1e : x / 2 ^ 1 = x / 2 := rfl
  have x2e : ((x / 2 &&& 6148914691236517205) + (x &&& 6148914691236517205)) / 2 ^ 2 = x1 / 4 := by rw [g1]
  have key : x3 = c0 + 256 * (c1 + 256 * (c2 + 256 * (c3 + 256 * (c4 + 256 * (c5 + 256 * (c6 + 256 * c7)))))) := by
    rw [← e3, g3, g2, g1]
  obtain ⟨z0, z1, z2, z3, z4⟩ := eight c0 c1 c2 c3 c4 c5 c6 c7 q0 q1 q2 q3 q4 q5 q6 q7 x3 x4 x5 x6 key g4 g5 g6
  rw [hs]
  clear e1 e2 e3 key g1 g2 g3 g4 g5 g6 hs hl x2e s1 s2 s3 b0 k0 k1 k2
  exact ⟨Nat.lt_of_le_of_lt z0 (by decide), Nat.lt_of_le_of_lt z1 (by decide), Nat.lt_of_le_of_lt z2 (by decide), Nat.lt_of_le_of_lt z3 (by decide), z4⟩
end Go.Proofs.YtpbdmlipdfdblaaDoor.Pl

namespace Go.Proofs.YtpbdmlipdfdblaaDoor.Mk
open Go.RowKit

theorem wu (a : Nat) (h : a < 18446744073709551616) : IntKind.u64.wrap (a : Int) = (a : Int) := by rw [IntKind.wrap_u64]; omega

/-- A word turned to the left by s. -/
def rotl (x s : Nat) : Nat := (x * 2 ^ s % 18446744073709551616) ||| (x / 2 ^ (64 - s))

theorem rotl_lt (x s : Nat) (hx : x < 18446744073709551616) : rotl x s < 18446744073709551616 := by
  have h1 : x * 2 ^ s % 18446744073709551616 < 2 ^ 64 := Nat.mod_lt _ (by decide)
  have h2 : x / 2 ^ (64 - s) < 2 ^ 64 := Nat.lt_of_le_of_lt (Nat.div_le_self _ _) (by simpa using hx)
  exact Nat.or_lt_two_pow h1 h2

theorem rot_val (x s : Nat) (hx : x < 18446744073709551616) : bits BinOp.or IntKind.u64 (IntKind.u64.wrap ((x : Int) * 2 ^ s)) ((x : Int) / 2 ^ (64 - s)) = ((rotl x s : Nat) : Int) := by
  have e1 : IntKind.u64.wrap ((x : Int) * 2 ^ s) = ((x * 2 ^ s % 18446744073709551616 : Nat) : Int) := by
    rw [IntKind.wrap_u64]; simp
  have e2 : (x : Int) / 2 ^ (64 - s) = ((x / 2 ^ (64 - s) : Nat) : Int) := by simp
  rw [e1, e2, u64_or_nat _ _ (Nat.mod_lt _ (by decide)) (Nat.lt_of_le_of_lt (Nat.div_le_self _ _) hx)]
  rfl

theorem and63 (k : Int) : bits BinOp.and IntKind.u64 (IntKind.u64.wrap k) 63 = (((k % 64).toNat : Nat) : Int) := by
  have e1 : IntKind.u64.wrap k = (((k % 18446744073709551616).toNat : Nat) : Int) := by rw [IntKind.wrap_u64]; omega
  rw [e1, show (63 : Int) = ((63 : Nat) : Int) from rfl, u64_and_nat _ _ (by omega) (by decide), nat_mask6]
  omega

/-- Each number less n, mod 64. -/
def turnN (x : Nat) (n : Int) : Nat := rotl x (-n % 64).toNat

theorem turnN_lt (x : Nat) (n : Int) (hx : x < 18446744073709551616) : turnN x n < 18446744073709551616 := rotl_lt _ _ hx

end Go.Proofs.YtpbdmlipdfdblaaDoor.Mk

namespace Go.Proofs.YtpbdmlipdfdblaaDoor.Mk
open Go.RowKit

/-- A mask with these numbers. -/
def withN (m : Nat) (zs : List Int) : Nat := zs.foldl (fun m i => m ||| bitv i) m

theorem withN_lt (m : Nat) (zs : List Int) (hm : m < 18446744073709551616) : withN m zs < 18446744073709551616 := by
  unfold withN
  induction zs generalizing m with
  | nil => exact hm
  | cons z zs ih => exact ih _ (Nat.or_lt_two_pow (n := 64) hm (bitv_lt z))

theorem withN_snoc (m : Nat) (zs : List Int) (k : Nat) (h : k < zs.length) : withN m (zs.take (k + 1)) = withN m (zs.take k) ||| bitv (zs[k]?.getD 0) := by
  unfold withN
  rw [List.take_succ_eq_append_getElem h, List.foldl_append]
  simp [h]

/-- A slice of numbers that is read: its elements are zs. -/
def IntsAt (w : World) (a : Option Addr) (zs : List Int) : Prop :=
  zs = [] ∨ ∃ b off, a = some ⟨b, off, none⟩ ∧ ∀ i, i < zs.length → w.cell? ⟨b, off + i, none⟩ = some (.int .i64 (zs[i]?.getD 0))

set_option maxHeartbeats 400000 in
theorem with_any (m : Nat) (hm : m < 18446744073709551616) (a : Option Addr) (cap : Nat) (zs : List Int) (w : World) (hl : zs.length ≤ 9223372036854775807) (hz : IntsAt w a zs) :
    Calls Tryd.prog 48 #[.int .u64 (m : Int), .slice a zs.length cap] w fun e w' => e = .returned (.int .u64 ((withN m zs : Nat) : Int)) ∧ w = w' := by
  obtain ⟨n, hn⟩ : ∃ n, n = zs.length := ⟨_, rfl⟩
  rw [← hn] at hl ⊢
  have HM := Lib.hid hm
  have HN := Lib.hid hn
  have HZ := Lib.hid hz
  clear hm hn hz
  go_enter Tryd.func48, Tryd.ntmps48
  go_wp2
  go_loop [0, 9] (fun m' i => ∃ k : Nat, k ≤ n ∧ i = .int .i64 k ∧ m' = .int .u64 ((withN m (zs.take k) : Nat) : Int)) (fun _ i => n - (intOf i).toNat)
  case atStart => exact ⟨0, Nat.zero_le _, rfl, rfl⟩
  case round =>
    obtain ⟨k, hk, rfl, rfl⟩ := hrel
    by_cases hlt : k < n
    · rcases HZ.out with h0 | ⟨b, off, rfl, hc⟩
      · exfalso; rw [HN.out, h0] at hlt; simp at hlt
      · have hc := hc k (by rw [← HN.out]; exact hlt)
        have HB := Lib.hid (withN_lt m (zs.take k) HM.out)
        go_wp2_with (go_at_call 58; refine (bit_any _ _).mono ?_; rintro e w' ⟨rfl, rfl⟩)
        go_round
        case rel => exact ⟨k + 1, by omega, by go_num, by rw [withN_snoc m zs k (by rw [← HN.out]; exact hlt), u64_or_nat _ _ HB.out (bitv_lt _)]⟩
        case measure => simp [intOf]; omega
    · go_wp2
      go_ret
      exact ⟨by rw [List.take_of_length_le (by rw [← HN.out]; omega)]; rfl, rfl⟩
end Go.Proofs.YtpbdmlipdfdblaaDoor.Mk

namespace Go.Proofs.YtpbdmlipdfdblaaDoor.Mk
open Go.RowKit

/-- A slice of 64 bools that lies at the head of block g. -/
def BA (w : World) (g cap : Nat) (bs : List Bool) : Prop := w.ownsRow 0 4 1 (.slice (some ⟨g, 0, none⟩) 64 cap) 64 (bs.map Value.bool)

theorem BA.len {w : World} {g cap : Nat} {bs : List Bool} (h : BA w g cap bs) : bs.length = 64 := by simpa using h.1
theorem BA.lt {w : World} {g cap : Nat} {bs : List Bool} (h : BA w g cap bs) : g < w.heap.size := (World.ownsRow.lt h g rfl).2
theorem BA.cell {w : World} {g cap : Nat} {bs : List Bool} (h : BA w g cap bs) (i : Nat) (hi : i < 64) : w.cell? ⟨g, i, none⟩ = some (.bool (bs[i]?.getD false)) := by
  have e := World.ownsRow.cellAt h i (by omega)
  rw [e]
  have hl := h.len
  simp [hl, hi]
theorem BA.free {w : World} {g cap : Nat} {bs : List Bool} (h : BA w g cap bs) (i : Nat) : w.frozen? ⟨g, i, none⟩ = false := World.ownsRow.frozenAt h i
theorem BA.set {w : World} {g cap : Nat} {bs : List Bool} (h : BA w g cap bs) (i : Nat) (v : Bool) : BA (w.setCell ⟨g, i, none⟩ (.bool v)) g cap (bs.set i v) := by
  have := (World.ownsRow.stored h i (.bool v)).1
  unfold BA
  rwa [List.map_set]
theorem own_base {w : World} {b e s : Nat} {v : Value} {n : Nat} {xs : List Value} (h : w.ownsRow b e s v n xs) : w.ownsRow 0 e s v n xs := by
  obtain ⟨h1, h2⟩ := h
  refine ⟨h1, ?_⟩
  rcases h2 with h2 | ⟨g, cap, cur, hv, hb, r⟩
  · exact .inl h2
  · exact .inr ⟨g, cap, cur, hv, Nat.zero_le _, r⟩
theorem own_below {w w' : World} {B b e s : Nat} {v : Value} {n : Nat} {xs : List Value} (h : w.ownsRow b e s v n xs) (hB : Below B w w') (hv : ∀ g, v.ownBlock = some g → g < B) : w'.ownsRow b e s v n xs := by
  obtain ⟨h1, h2⟩ := h
  refine ⟨h1, ?_⟩
  rcases h2 with h2 | ⟨g, cap, cur, rfl, hb, hg, r⟩
  · exact .inl h2
  · exact .inr ⟨g, cap, cur, rfl, hb, (hB.block g (hv g rfl)).trans hg, r⟩
theorem BA.below {w w' : World} {B g cap : Nat} {bs : List Bool} (h : BA w g cap bs) (hB : Below B w w') (hg : g < B) : BA w' g cap bs :=
  own_below h hB (fun g' e => by cases e; exact hg)
theorem cell_lt {w : World} {p : Addr} {v : Value} (h : w.cell? p = some v) : p.block < w.heap.size := by
  apply Nat.lt_of_not_le
  intro hle
  simp [World.cell?, Array.getElem?_eq_none hle] at h
theorem IntsAt.later {w w' : World} {a : Option Addr} {zs : List Int} (h : IntsAt w a zs) (hB : Below w.heap.size w w') : IntsAt w' a zs := by
  rcases h with rfl | ⟨b, off, rfl, hc⟩
  · exact .inl rfl
  · exact .inr ⟨b, off, rfl, fun i hi => (hB.cell (p := ⟨b, off + i, none⟩) (cell_lt (hc i hi))).trans (hc i hi)⟩

theorem wu' (a : Int) (h : 0 ≤ a ∧ a < 18446744073709551616) : IntKind.u64.wrap a = a := by rw [IntKind.wrap_u64]; omega

theorem infoBool : (Tryd.prog.info? 4).map (fun i => (i.zero, i.size, i.bytes)) = some (some (.bool false), 1, 1) := by kernel_rfl

/-- The bits of a word. -/
def bl (x : Nat) : List Bool := (List.range 64).map x.testBit
/-- ... the first k of them, then false. -/
def blTo (x k : Nat) : List Bool := (List.range 64).map fun i => decide (i < k) && x.testBit i
theorem blTo_zero (x : Nat) : blTo x 0 = List.replicate 64 false := by
  apply List.ext_getElem (by simp [blTo])
  intro i h1 h2
  rw [List.getElem_replicate]
  simp [blTo]
theorem blTo_full (x : Nat) : blTo x 64 = bl x := by
  apply List.ext_getElem (by simp [blTo, bl])
  intro i h1 h2
  simp [blTo] at h1
  simp [blTo, bl, h1]
theorem blTo_succ (x k : Nat) : blTo x (k + 1) = (blTo x k).set k (x.testBit k) := by
  apply List.ext_getElem (by simp [blTo])
  intro i h1 h2
  simp [blTo] at h1
  rw [List.getElem_set]
  by_cases e : k = i
  · subst e; simp [blTo]
  · have e2 : (i < k + 1) ↔ (i < k) := by omega
    simp [blTo, e, e2]

theorem made_bools : (madeCells (Value.bool false).cells (64 * 1)).toList = (List.replicate 64 false).map Value.bool := by kernel_rfl

/-- The word of a list of bits. -/
def wordN (bs : List Bool) : Nat := bs.foldr (fun b w => w * 2 + b.toNat) 0
theorem wordN_lt : ∀ (bs : List Bool), wordN bs < 2 ^ bs.length
  | [] => by simp [wordN]
  | b :: r => by
    have := wordN_lt r
    have hb : b.toNat ≤ 1 := by cases b <;> simp
    show wordN r * 2 + b.toNat < 2 ^ (r.length + 1)
    rw [Nat.pow_succ]
    omega
theorem wordN_drop (bs : List Bool) (j : Nat) (h : j < bs.length) : wordN (bs.drop j) = wordN (bs.drop (j + 1)) * 2 + (bs[j]?.getD false).toNat := by
  rw [List.drop_eq_getElem_cons h, List.getElem?_eq_getElem h]
  rfl
theorem wordN_drop_lt (bs : List Bool) (j : Nat) (hl : bs.length = 64) : wordN (bs.drop (j + 1)) < 9223372036854775808 := by
  have h := wordN_lt (bs.drop (j + 1))
  have h2 : 2 ^ (bs.drop (j + 1)).length ≤ 2 ^ 63 := Nat.pow_le_pow_right (by decide) (by simp [hl])
  omega

/-- The list with (or without) these numbers. -/
def putB (bs : List Bool) (zs : List Int) (v : Bool) : List Bool := zs.foldl (fun b i => if 0 ≤ i ∧ i < 64 then b.set i.toNat v else b) bs

theorem infoInt : (Tryd.prog.info? 3).map (fun i => (i.zero, i.size, i.bytes)) = some (some (.int .i64 0), 1, 8) := by kernel_rfl

theorem add_head (g j : Nat) : (⟨g, 0, none⟩ : Addr).add j = ⟨g, j, none⟩ := by
  unfold Addr.add
  split <;> simp_all

theorem putB_snoc (bs : List Bool) (zs : List Int) (v : Bool) (k : Nat) (h : k < zs.length) : putB bs (zs.take (k + 1)) v =
    if 0 ≤ zs[k]?.getD 0 ∧ zs[k]?.getD 0 < 64 then (putB bs (zs.take k) v).set (zs[k]?.getD 0).toNat v else putB bs (zs.take k) v := by
  unfold putB
  rw [List.take_succ_eq_append_getElem h, List.foldl_append]
  simp [h]

end Go.Proofs.YtpbdmlipdfdblaaDoor.Mk

namespace Go.Proofs.YtpbdmlipdfdblaaDoor.Pl

/-- The numbers of the ones, rising. -/
def ones (x : Nat) : List Nat := (List.range 64).filter fun i => x.testBit i

theorem ones_zero : ones 0 = [] := by simp [ones]

theorem low_bits (k m : Nat) (j : Nat) (hj : j < k) : (2 ^ k * (2 * m + 1)).testBit j = false := by
  rw [Nat.testBit_two_pow_mul]
  simp
  omega
theorem at_bit (k m : Nat) : (2 ^ k * (2 * m + 1)).testBit k = true := by
  rw [Nat.testBit_two_pow_mul]
  simp [Nat.testBit_zero]
theorem less_bit (k m : Nat) (j : Nat) : (2 ^ k * (2 * m + 1) &&& (2 ^ k * (2 * m + 1) - 1)).testBit j = (decide (j ≠ k) && (2 ^ k * (2 * m + 1)).testBit j) := by
  have hp : 0 < 2 ^ k := Nat.pow_pos (by decide)
  have e : 2 ^ k * (2 * m + 1) - 1 = 2 ^ k * (2 * m) + (2 ^ k - 1) := by rw [Nat.mul_add]; omega
  rw [e, Nat.testBit_and, Nat.testBit_two_pow_mul_add _ (by omega)]
  by_cases h : j < k
  · rw [low_bits k m j h]; simp
  · rw [if_neg h, Nat.testBit_two_pow_mul]
    by_cases he : j = k
    · subst he; simp [Nat.testBit_zero]
    · obtain ⟨d, rfl⟩ : ∃ d, j = k + (d + 1) := ⟨j - k - 1, by omega⟩
      have e2 : k + (d + 1) - k = d + 1 := by omega
      rw [e2, Nat.testBit_succ, Nat.testBit_succ]
      have e3 : (2 * m + 1) / 2 = m := by omega
      have e4 : 2 * m / 2 = m := by omega
      rw [e3, e4]
      simp

theorem ones_next (x : Nat) (h0 : x ≠ 0) (hx : x < 18446744073709551616) : ones x = Lib.ctz 64 x :: ones (x &&& (x - 1)) := by
  obtain ⟨m, hm, hk⟩ := Lib.ctzFrom_spec 64 x (by omega) hx
  have ec : Lib.ctz 64 x = Lib.ctzFrom 64 x := by simp [Lib.ctz, h0]
  rw [ec]
  generalize Lib.ctzFrom 64 x = k at hm hk
  have es : List.range 64 = List.range k ++ (k :: (List.range (63 - k)).map (k + 1 + ·)) := by
    have e1 : (64 : Nat) = k + ((63 - k) + 1) := by omega
    conv => lhs; rw [e1, List.range_add, List.range_succ_eq_map]
    simp [List.map_map, Function.comp_def]
    intro a _
    omega
  unfold ones
  rw [es]
  simp only [List.filter_append, List.filter_cons]
  have f1 : (List.range k).filter (fun i => x.testBit i) = [] := by
    rw [List.filter_eq_nil_iff]; intro a ha; rw [hm, low_bits k m a (by simpa using ha)]; simp
  have f2 : (List.range k).filter (fun i => (x &&& (x - 1)).testBit i) = [] := by
    rw [List.filter_eq_nil_iff]; intro a ha; rw [hm, less_bit, low_bits k m a (by simpa using ha)]; simp
  have f3 : x.testBit k = true := by rw [hm, at_bit]
  have f4 : (x &&& (x - 1)).testBit k = false := by rw [hm, less_bit]; simp
  have f5 : ((List.range (63 - k)).map (k + 1 + ·)).filter (fun i => x.testBit i) = ((List.range (63 - k)).map (k + 1 + ·)).filter (fun i => (x &&& (x - 1)).testBit i) := by
    apply List.filter_congr
    intro a ha
    rw [hm, less_bit]
    obtain ⟨b, _, rfl⟩ := List.mem_map.1 ha
    have : k + 1 + b ≠ k := by omega
    simp [this]
  rw [f1, f2, f3, f4, f5]
  simp

theorem and_pred_lt (x : Nat) (h0 : x ≠ 0) : x &&& (x - 1) < x := by
  have := Nat.and_le_right (n := x) (m := x - 1)
  omega

theorem bitsN_eq : ∀ (n x : Nat), bitsN n x = (List.range n).map fun i => (x.testBit i).toNat
  | 0, _ => rfl
  | n + 1, x => by
    rw [List.range_succ_eq_map, bitsN, bitsN_eq n]
    simp only [List.map_cons, List.map_map]
    congr 1
    · rw [Nat.testBit_zero]
      cases h : decide (x % 2 = 1) <;> simp at h ⊢ <;> omega
    · apply List.map_congr_left
      intro i _
      simp [Nat.testBit_succ]
theorem sum_filter (p : Nat → Bool) : ∀ (l : List Nat), (l.map fun i => (p i).toNat).sum = (l.filter p).length
  | [] => rfl
  | a :: l => by
    have := sum_filter p l
    cases h : p a <;> simp [h, this]
    omega
theorem pc_ones (x : Nat) : pc x = (ones x).length := by
  unfold pc ones
  rw [bitsN_eq, sum_filter]
end Go.Proofs.YtpbdmlipdfdblaaDoor.Pl

namespace Go.Proofs.YtpbdmlipdfdblaaDoor.Mk
open Go.RowKit Go.Shelf

attribute [local go_sem] Oper.semAt_some

theorem Tab.below {w w' : World} {B : Nat} (h : Tab w) (hB : Below B w w') (h0 : 1 < B) : Tab w' :=
  fun j hj => (hB.cell (p := ⟨1, j, none⟩) h0).trans (h j hj)

set_option maxRecDepth 100000 in
set_option maxHeartbeats 1000000 in
theorem numbers1_in (n : Nat) (l Bn n₀ : Nat) (h0n : 1 < n₀) (m : Nat) (hm : m < 18446744073709551616) (J Jx : List Nat → World → Prop)
    (hY : ∀ pre x W, J pre W → pre.length < (Pl.ones m).length → YieldAt Fence.wide (n - 1) Tryd.prog l #[.int .i64 ((x : Nat) : Int)] W fun e W' =>
      (e = .returned (.bool true) ∧ J (pre ++ [x]) W' ∧ Below n₀ W W') ∨ (e = .returned (.bool false) ∧ Jx (pre ++ [x]) W'))
    (W : World) (hBn : W.cell? ⟨Bn, 0, none⟩ = some (.int .u64 (m : Int))) (hT : Tab W) (h0 : J [] W) :
    CallsIn Fence.wide n Tryd.prog 88 #[.func (.yield l) #[] #[], .pointer (some ⟨Bn, 0, none⟩)] W fun e W' => (∃ v, e = .returned v) ∧
      ((∃ ys, ys = Pl.ones m ∧ J ys W') ∨ (∃ pre, pre <+: Pl.ones m ∧ Jx pre W')) := by
  have HM := Lib.hid hm
  have HY := Lib.hid hY
  have HT := Lib.hid hT
  clear hm hY hT
  refine callsIn_of_wp Tryd.func88 rfl trivial ?_ rfl
  simp only [Tryd.ntmps88, List.size_toArray, List.length_cons, List.length_nil, Nat.reduceAdd, Nat.reduceSub, Array.replicate_succ, Array.replicate_zero, List.push_toArray, List.append_toArray, List.nil_append, List.cons_append]
  gi_wp2
  gi_loopw [3] (fun r wr => ∃ (pre : List Nat) (x : Nat), r = .int .u64 (x : Int) ∧ x < 18446744073709551616 ∧ Pl.ones m = pre ++ Pl.ones x ∧ J pre wr ∧ Tab wr)
    (fun r _ => (intOf r).toNat)
  case atStart =>
    exact ⟨[], m, rfl, HM.out, rfl, h0, HT.out⟩
  case round =>
    obtain ⟨pre, x, rfl, hx, hp, hJ, hTr⟩ := hrel
    have HX := Lib.hid hx
    have HP := Lib.hid hp
    have HTr := Lib.hid hTr
    clear hx hp hTr
    by_cases hx0 : x = 0
    · subst hx0
      gi_wp2
      go_end0
      exact ⟨⟨_, rfl⟩, .inl ⟨pre, by rw [HP.out, Pl.ones_zero]; simp, hJ⟩⟩
    · have hn1 := Pl.ones_next x hx0 HX.out
      have hlen : pre.length < (Pl.ones m).length := by rw [HP.out, hn1]; simp
      obtain ⟨fn, tmps, assign, body, hy, hR⟩ := HY.out pre (Lib.ctz 64 x) wr hJ hlen
      have HN := Lib.hid hn1
      have hb : ((x : Int) != 0) = true := by simp; omega
      have HX0 := Lib.hid hx0
      clear hn1 hlen hx0
      have hw : ∀ f, Fence.wide.fn f := fun _ => trivial
      have hd : Fence.wide.depth = none := rfl
      gi_wp2_with (gi_at_call 89; refine (callsIn_wide.2 (tz_any x HX.out HX0.out _ HTr.out)).mono ?_; rintro e w' ⟨rfl, rfl⟩)
      refine hR.mono ?_
      rintro e W3 (⟨rfl, hJ3, hk3⟩ | ⟨rfl, hJx3⟩)
      · have hwx : IntKind.u64.wrap ((x : Int) - 1) = (x : Int) - 1 := by have := HX.out; have := HX0.out; exact wu' _ (by omega)
        have ha : bits BinOp.and IntKind.u64 (x : Int) ((x : Int) - 1) = ((x &&& (x - 1) : Nat) : Int) := by
          have h1 := HX.out
          have h2 := HX0.out
          rw [show (x : Int) - 1 = ((x - 1 : Nat) : Int) by omega, u64_and_nat _ _ h1 (by omega)]
        have HK := Lib.hid hk3
        clear hk3
        gi_wp2
        go_roundw
        case rel =>
          have hlt := Pl.and_pred_lt x HX0.out
          exact ⟨pre ++ [Lib.ctz 64 x], x &&& (x - 1), rfl, Nat.lt_trans hlt HX.out, by rw [HP.out, HN.out]; simp, hJ3, HTr.out.below HK.out h0n⟩
        case measure =>
          have hlt := Pl.and_pred_lt x HX0.out
          simp only [intOf]
          omega
      · gi_wp2
        refine bodyPost_ret (results_none rfl _ _ _) rfl ?_
        exact ⟨⟨_, rfl⟩, .inr ⟨pre ++ [Lib.ctz 64 x], ⟨Pl.ones (x &&& (x - 1)), by rw [HP.out, HN.out]; simp⟩, hJx3⟩⟩

set_option maxHeartbeats 400000 in
theorem numbers_in (n : Nat) (m : Nat) (w : World) :
    CallsIn Fence.wide n Tryd.prog 81 #[.int .u64 (m : Int)] w fun e w' => e = .returned (.func (.func 88) #[] #[.pointer (some ⟨w.heap.size, 0, none⟩)]) ∧ w' = w.alloc (.cells #[.int .u64 (m : Int)] 91) := by
  refine callsIn_of_wp Tryd.func81 rfl trivial ?_ rfl
  simp only [Tryd.ntmps81, List.size_toArray, List.length_cons, List.length_nil, Nat.reduceAdd, Nat.reduceSub, Array.replicate_succ, Array.replicate_zero, List.push_toArray, List.append_toArray, List.nil_append, List.cons_append]
  gi_wp2
  go_ret
  exact ⟨rfl, rfl⟩

theorem numbers_stops (n : Nat) (Bn n₀ : Nat) (h0n : 1 < n₀) (m : Nat) (hm : m < 18446744073709551616) (w : World) (hBn : Bn < w.heap.size)
    (hc : w.cell? ⟨Bn, 0, none⟩ = some (.int .u64 (m : Int))) (hT : Tab w) :
    SeqStopsK Fence.wide n Tryd.prog 88 #[.pointer (some ⟨Bn, 0, none⟩)] (fun x : Nat => #[Value.int .i64 (x : Int)]) (Below n₀) (fun ys => ys = Pl.ones m) (fun pre => pre <+: Pl.ones m) (Pl.ones m).length w := fun l J Jx W hW _ _ hY h0 =>
  numbers1_in n l Bn n₀ h0n m hm J Jx hY W ((hW.cell (p := ⟨Bn, 0, none⟩) hBn).trans hc) (hT.below hW (by have h := hT 0 (by decide); apply Nat.lt_of_not_le; intro hle; simp [World.cell?, Array.getElem?_eq_none hle] at h)) h0
end Go.Proofs.YtpbdmlipdfdblaaDoor.Mk

namespace Go.Proofs.YtpbdmlipdfdblaaDoor.Mk
open Go.RowKit Go.Shelf

attribute [local go_sem] Oper.semAt_some

/-- The least number of a mask from one on. -/
def nextO (m : Nat) (from' : Int) : Option Nat := (Pl.ones m).find? fun i => decide (from' ≤ (i : Int))
def nextV (m : Nat) (from' : Int) : Nat := (nextO m from').getD 0
def nextB (m : Nat) (from' : Int) : Bool := (nextO m from').isSome

theorem nextO_none (m : Nat) (from' : Int) (h : ∀ y ∈ Pl.ones m, ¬ from' ≤ (y : Int)) : nextO m from' = none := by
  unfold nextO
  rw [List.find?_eq_none]
  intro x hx
  simpa using h x hx
theorem nextO_some (m : Nat) (from' : Int) (p : List Nat) (x : Nat) (hp : p ++ [x] <+: Pl.ones m) (h : ∀ y ∈ p, ¬ from' ≤ (y : Int)) (hx : from' ≤ (x : Int)) : nextO m from' = some x := by
  unfold nextO
  obtain ⟨r, hr⟩ := hp
  rw [← hr]
  have e : p.find? (fun i : Nat => decide (from' ≤ (i : Int))) = none := by
    rw [List.find?_eq_none]; intro y hy; simpa using h y hy
  simp [List.find?_append, e, hx]

theorem next1_any (i from' : Int) (Bf : Nat) (w : World) (hc : w.cell? ⟨Bf, 0, none⟩ = some (.int .i64 from')) :
    Calls Tryd.prog 71 #[.int .i64 i, .pointer (some ⟨Bf, 0, none⟩)] w fun e w' => e = .returned (.bool (decide (from' ≤ i))) ∧ w = w' := by
  go_enter Tryd.func71, Tryd.ntmps71
  go_wp2
  go_ret
  exact ⟨rfl, rfl⟩

theorem cell_box {W : World} {B : Nat} {v : Value} {t : TypeId} (h : W.heap[B]? = some (.cells #[v] t (0, 0))) : W.cell? ⟨B, 0, none⟩ = some v ∧ W.frozen? ⟨B, 0, none⟩ = false := by
  constructor <;> simp [World.cell?, World.frozen?, h]
theorem cell_new (W : World) (v : Value) (t : TypeId) : (W.alloc (.cells #[v] t)).cell? ⟨W.heap.size, 0, none⟩ = some v ∧ (W.alloc (.cells #[v] t)).frozen? ⟨W.heap.size, 0, none⟩ = false :=
  cell_box (World.alloc_heap_new W _)
theorem cell_allocd {W : World} {a : Addr} {v : Value} (o : Obj) (h : W.cell? a = some v) : (W.alloc o).cell? a = some v := cell_kept h (World.grownBy_alloc W o none) (fun r e => by cases e)
theorem frozen_allocd {W : World} {a : Addr} {v : Value} (o : Obj) (h : W.cell? a = some v) (hf : W.frozen? a = false) : (W.alloc o).frozen? a = false := (frozen_kept h (World.grownBy_alloc W o none) (fun r e => by cases e)).trans hf

theorem two_cells_fst (W : World) (p q : Addr) (u v : Value) {u0 : Value} (h : W.cell? p = some u0) (hne : q ≠ p) : ((W.setCell p u).setCell q v).cell? p = some u := by
  rw [World.cell?_setCell_other _ _ _ _ hne, World.cell?_setCell_same' _ _ _ (by rw [h]; rfl)]
theorem two_cells_snd (W : World) (p q : Addr) (u v : Value) {v0 : Value} (h : W.cell? q = some v0) (hne : p ≠ q) : ((W.setCell p u).setCell q v).cell? q = some v := by
  rw [World.cell?_setCell_same' _ _ _ (by rw [World.cell?_setCell_other _ _ _ _ hne, h]; rfl)]

set_option maxRecDepth 100000 in
set_option maxHeartbeats 2000000 in
theorem first_in (n : Nat) (m : Nat) (hm : m < 18446744073709551616) (from' : Int) (Bf : Nat) (w : World) (hBf : Bf < w.heap.size) (hcf : w.cell? ⟨Bf, 0, none⟩ = some (.int .i64 from')) (hT : Tab w) :
    CallsIn Fence.wide (n + 6) Tryd.prog 70 #[.int .u64 (m : Int), .func (.func 71) #[] #[.pointer (some ⟨Bf, 0, none⟩)]] w fun e W' =>
      e = .returned (.tuple #[.int .i64 ((nextV m from' : Nat) : Int), .bool (nextB m from')]) ∧ Below w.heap.size w W' := by
  have hg0 : 1 < w.heap.size := by
    have h := hT 0 (by decide)
    apply Nat.lt_of_not_le
    intro hle
    simp [World.cell?, Array.getElem?_eq_none hle] at h
  have HM := Lib.hid hm
  have HT := Lib.hid hT
  clear hm hT
  have hw : ∀ f, Fence.wide.fn f := fun _ => trivial
  have hd : Fence.wide.depth = none := rfl
  refine callsIn_of_wp_marks Tryd.func70 rfl trivial ?_ rfl
  simp only [Tryd.ntmps70, List.size_toArray, List.length_cons, List.length_nil, Nat.reduceAdd, Nat.reduceSub, Array.replicate_succ, Array.replicate_zero, List.push_toArray, List.append_toArray, List.nil_append, List.cons_append]
  gi_wp2_with (gi_at_call 81; refine (numbers_in _ _ _).mono ?_; rintro e w' ⟨rfl, rfl⟩)
  have hn7 : 1 ≤ n + 6 := by omega
  obtain ⟨S, hS⟩ : ∃ S, S = w.heap.size := ⟨_, rfl⟩
  have c0 := cell_new w (.func (.func 71) #[] #[.pointer (some ⟨Bf, 0, none⟩)]) 96
  have c1 := cell_new (w.alloc (.cells #[.func (.func 71) #[] #[.pointer (some ⟨Bf, 0, none⟩)]] 96)) (.int .i64 0) 3
  have c2 := cell_new ((w.alloc (.cells #[.func (.func 71) #[] #[.pointer (some ⟨Bf, 0, none⟩)]] 96)).alloc (.cells #[.int .i64 0] 3)) (.bool false) 4
  have c3 := cell_new (((w.alloc (.cells #[.func (.func 71) #[] #[.pointer (some ⟨Bf, 0, none⟩)]] 96)).alloc (.cells #[.int .i64 0] 3)).alloc (.cells #[.bool false] 4)) (.int .u64 (m : Int)) 91
  simp only [World.size_alloc] at c1 c2 c3
  have hB0 : Below w.heap.size w ((((w.alloc (.cells #[.func (.func 71) #[] #[.pointer (some ⟨Bf, 0, none⟩)]] 96)).alloc (.cells #[.int .i64 0] 3)).alloc (.cells #[.bool false] 4)).alloc (.cells #[.int .u64 (m : Int)] 91)) :=
    ((((Below.refl _ w).alloc (Nat.le_refl _) _).alloc (by simp) _).alloc (by simp; omega) _).alloc (by simp; omega) _
  have d0 := cell_allocd (.cells #[.int .u64 (m : Int)] 91) (cell_allocd (.cells #[.bool false] 4) (cell_allocd (.cells #[.int .i64 0] 3) c0.1))
  have d1 := cell_allocd (.cells #[.int .u64 (m : Int)] 91) (cell_allocd (.cells #[.bool false] 4) c1.1)
  have e1 := frozen_allocd (.cells #[.int .u64 (m : Int)] 91) (cell_allocd (.cells #[.bool false] 4) c1.1) (frozen_allocd (.cells #[.bool false] 4) c1.1 c1.2)
  have d2 := cell_allocd (.cells #[.int .u64 (m : Int)] 91) c2.1
  have e2 := frozen_allocd (.cells #[.int .u64 (m : Int)] 91) c2.1 c2.2
  have d3 := c3.1
  have hT0 := HT.out.below hB0 (by omega)
  have hsz : ((((w.alloc (.cells #[.func (.func 71) #[] #[.pointer (some ⟨Bf, 0, none⟩)]] 96)).alloc (.cells #[.int .i64 0] 3)).alloc (.cells #[.bool false] 4)).alloc (.cells #[.int .u64 (m : Int)] 91)).heap.size = w.heap.size + 1 + 1 + 1 + 1 := by simp
  clear c0 c1 c2 c3
  obtain ⟨W0, hW0⟩ : ∃ W0, ((((w.alloc (.cells #[.func (.func 71) #[] #[.pointer (some ⟨Bf, 0, none⟩)]] 96)).alloc (.cells #[.int .i64 0] 3)).alloc (.cells #[.bool false] 4)).alloc (.cells #[.int .u64 (m : Int)] 91)) = W0 := ⟨_, rfl⟩
  rw [hW0] at hB0 d0 d1 e1 d2 e2 d3 hT0 hsz ⊢
  clear hW0 hS S
  refine wpIn_rangeFunc_ownF rfl hn7 (gf := 88) (lb := #[.pointer (some ⟨w.heap.size + 1 + 1 + 1, 0, none⟩)]) rfl trivial (enters_of Tryd.func88 (by kernel_rfl) rfl)
    (numbers_stops (n + 6 - 1) (w.heap.size + 1 + 1 + 1) w.heap.size (by omega) m HM.out W0 (by omega) d3 hT0) belowK_t (belowK_b (by omega)) (Below.refl _ _) (fun _ => rfl)
    (fun pre W => ((∀ y ∈ pre, ¬ from' ≤ ((y : Nat) : Int)) ∧ W.cell? ⟨w.heap.size, 0, none⟩ = some (.func (.func 71) #[] #[.pointer (some ⟨Bf, 0, none⟩)]) ∧
      (W.cell? ⟨w.heap.size + 1, 0, none⟩ = some (.int .i64 0) ∧ W.frozen? ⟨w.heap.size + 1, 0, none⟩ = false) ∧ W.cell? ⟨w.heap.size + 1 + 1, 0, none⟩ = some (.bool false) ∧ W.frozen? ⟨w.heap.size + 1 + 1, 0, none⟩ = false) ∧ Below w.heap.size w W)
    (fun c pre W => (c = .ret ∧ ∃ p x, pre = p ++ [x] ∧ (∀ y ∈ p, ¬ from' ≤ ((y : Nat) : Int)) ∧ from' ≤ ((x : Nat) : Int) ∧ W.cell? ⟨w.heap.size + 1, 0, none⟩ = some (.int .i64 ((x : Nat) : Int)) ∧ W.cell? ⟨w.heap.size + 1 + 1, 0, none⟩ = some (.bool true)) ∧ Below w.heap.size w W)
    (OwnFrom.and (Own.from (fun s A B row hs hg hr => ⟨hs.1, cell_kept hs.2.1 hg hr, ⟨cell_kept hs.2.2.1.1 hg hr, (frozen_kept hs.2.2.1.1 hg hr).trans hs.2.2.1.2⟩, cell_kept hs.2.2.2.1 hg hr, (frozen_kept hs.2.2.2.1 hg hr).trans hs.2.2.2.2⟩) _) (ownFrom_below (Nat.le_refl _) (by omega)))
    (fun c => OwnFrom.and (Own.from (fun s A B row hs hg hr => by
      obtain ⟨h1, p, x, h2, h3, h4, h5, h6⟩ := hs
      exact ⟨h1, p, x, h2, h3, h4, cell_kept h5 hg hr, cell_kept h6 hg hr⟩) _) (ownFrom_below (Nat.le_refl _) (by omega)))
    ⟨⟨by simp, d0, ⟨d1, e1⟩, d2, e2⟩, hB0⟩
    (fun x => { tmps := #[.int .u64 (m : Int), .func (.func 71) #[] #[.pointer (some ⟨Bf, 0, none⟩)], undef, .pointer (some ⟨w.heap.size, 0, none⟩), .pointer (some ⟨w.heap.size + 1, 0, none⟩), .pointer (some ⟨w.heap.size + 1 + 1, 0, none⟩), .int .i64 ((x : Nat) : Int), .int .u64 (m : Int), .func (.func 88) #[] #[.pointer (some ⟨w.heap.size + 1 + 1 + 1, 0, none⟩)], .int .i64 ((x : Nat) : Int), undef, undef, undef, undef], defers := [] }) ?assign ?body ?done ?stop
  case assign =>
    intro l x W K hK
    gi_wp2
    exact hK
  case body =>
    rintro l pre x W ⟨⟨hp, hcs, ⟨hc1, hf1⟩, hc2, hf2⟩, hB⟩ _
    have hcf' : W.cell? ⟨Bf, 0, none⟩ = some (.int .i64 from') := (hB.cell (p := ⟨Bf, 0, none⟩) hBf).trans hcf
    have HBW := Lib.hid hB
    clear hB
    by_cases hx : from' ≤ (x : Int)
    · have hdx : decide (from' ≤ (x : Int)) = true := by simpa using hx
      gi_wp2_with (gi_at_call 71; refine (CallsIn.inRound l (callsIn_wide.2 (next1_any _ from' Bf _ hcf'))).mono ?_; rintro e w' ⟨rfl, rfl⟩)
      exact ⟨(KeepsOthers.setCell _ _ _).trans (KeepsOthers.setCell _ _ _), ⟨rfl, pre, x, rfl, hp, hx, two_cells_fst W _ _ _ _ hc1 (by simp), two_cells_snd W _ _ _ _ hc2 (by simp)⟩,
        (HBW.out.setCell (p := ⟨w.heap.size + 1, 0, none⟩) (by simp) _).setCell (p := ⟨w.heap.size + 1 + 1, 0, none⟩) (by simp; omega) _⟩
    · have hdx : decide (from' ≤ (x : Int)) = false := by simpa using hx
      gi_wp2_with (gi_at_call 71; refine (CallsIn.inRound l (callsIn_wide.2 (next1_any _ from' Bf _ hcf'))).mono ?_; rintro e w' ⟨rfl, rfl⟩)
      refine ⟨KeepsOthers.refl _, Below.refl _ _, ⟨fun y hy => ?_, hcs, ⟨hc1, hf1⟩, hc2, hf2⟩, HBW.out⟩
      rcases List.mem_append.1 hy with hy | hy
      · exact hp y hy
      · obtain rfl : y = x := by simpa using hy
        omega
  case done =>
    rintro D ys W hD rfl ⟨⟨hne, hcs, ⟨hc1, hf1⟩, hc2, hf2⟩, hB⟩ hK
    have HNE := Lib.hid hne
    clear hne
    gi_wp2
    have hK' := ((KeepsOthers.setCell W ⟨w.heap.size + 1, 0, none⟩ (.int .i64 0)).trans (KeepsOthers.setCell (W.setCell ⟨w.heap.size + 1, 0, none⟩ (.int .i64 0)) ⟨w.heap.size + 1 + 1, 0, none⟩ (.bool false))).same D _ hK rfl
    refine ⟨by simp, .inl ⟨_, _, rfl, run_takeDeferred hK', ?_⟩⟩
    have h5 := cell_kept (two_cells_fst W ⟨w.heap.size + 1, 0, none⟩ ⟨w.heap.size + 1 + 1, 0, none⟩ (.int .i64 0) (.bool false) hc1 (by simp)) (grownBy_putObj' _ D (.deferred none)) (fun r e => by cases e; exact ⟨_, hK', rfl⟩)
    have h6 := cell_kept (two_cells_snd W ⟨w.heap.size + 1, 0, none⟩ ⟨w.heap.size + 1 + 1, 0, none⟩ (.int .i64 0) (.bool false) hc2 (by simp)) (grownBy_putObj' _ D (.deferred none)) (fun r e => by cases e; exact ⟨_, hK', rfl⟩)
    refine ⟨.tuple #[.int .i64 0, .bool false], ?_, ?_, ((hB.setCell (p := ⟨w.heap.size + 1, 0, none⟩) (by simp) _).setCell (p := ⟨w.heap.size + 1 + 1, 0, none⟩) (by simp; omega) _).trans (belowK_b (w := w) (Nat.le_refl _) _ D _ _ (by omega) hK' rfl rfl)⟩
    · simp [results, Tryd.f70, go_sem, h5, h6]
    · rw [nextV, nextB, nextO_none m from' (fun y hy => by have := HNE.out y hy; omega)]; rfl
  case stop =>
    rintro D c pre W hD hpre ⟨⟨rfl, p, x, rfl, hne, hx, hc1, hc2⟩, hB⟩ hK
    have HNE := Lib.hid hne
    clear hne
    gi_wp2
    refine ⟨by simp, .inl ⟨_, _, rfl, run_takeDeferred hK, ?_⟩⟩
    have h5 := cell_kept hc1 (grownBy_putObj' _ D (.deferred none)) (fun r e => by cases e; exact ⟨_, hK, rfl⟩)
    have h6 := cell_kept hc2 (grownBy_putObj' _ D (.deferred none)) (fun r e => by cases e; exact ⟨_, hK, rfl⟩)
    refine ⟨.tuple #[.int .i64 (x : Int), .bool true], ?_, ?_, hB.trans (belowK_b (w := w) (Nat.le_refl _) W D _ _ (by omega) hK rfl rfl)⟩
    · simp [results, Tryd.f70, go_sem, h5, h6]
    · rw [nextV, nextB, nextO_some m from' p x hpre (fun y hy => by have := HNE.out y hy; omega) hx]; rfl

theorem next_any (m : Nat) (hm : m < 18446744073709551616) (from' : Int) (w : World) (hT : Tab w) :
    Calls Tryd.prog 47 #[.int .u64 (m : Int), .int .i64 from'] w fun e W' =>
      e = .returned (.tuple #[.int .i64 ((nextV m from' : Nat) : Int), .bool (nextB m from')]) ∧ Below w.heap.size w W' := by
  have hmf : ∀ (fn : Fn) (first cap : Array Value) (w : World), (Instr.makeFunc fn first cap).run Tryd.prog w = .ok (.func fn first cap) w := fun _ _ _ _ => rfl
  have hg : 1 < w.heap.size := by
    have h := hT 0 (by decide)
    apply Nat.lt_of_not_le
    intro hle
    simp [World.cell?, Array.getElem?_eq_none hle] at h
  have h0 : (w.alloc (.cells #[.int .i64 from'] 3)).cell? ⟨w.heap.size, 0, none⟩ = some (.int .i64 from') := (cell_new w _ _).1
  have hB : Below w.heap.size w (w.alloc (.cells #[.int .i64 from'] 3)) := (Below.refl _ w).alloc (Nat.le_refl _) _
  have HT := Lib.hid (hT.below hB hg)
  have hF := callsIn_wide.1 (first_in 0 m hm from' w.heap.size (w.alloc (.cells #[.int .i64 from'] 3)) (by simp) h0 HT.out)
  have HF := Lib.hid hF
  have HB := Lib.hid hB
  clear hT hB hF h0 hm
  go_enter Tryd.func47, Tryd.ntmps47
  go_wp2_with (go_at_call 70; refine HF.out.mono ?_; rintro e w' ⟨rfl, hb⟩)
  go_ret2
  exact ⟨rfl, HB.out.trans (hb.mono (by simp))⟩

/-- Around's: the next one, or the least. -/
def aroundV (m : Nat) (from' : Int) : Nat := if nextB m from' = true then nextV m from' else nextV m 0
def aroundB (m : Nat) (from' : Int) : Bool := if nextB m from' = true then true else nextB m 0

end Go.Proofs.YtpbdmlipdfdblaaDoor.Mk

namespace Go.Proofs.YtpbdmlipdfdblaaDoor.Mk
open Go.RowKit

theorem of_any (a : Option Addr) (cap : Nat) (zs : List Int) (w : World) (hl : zs.length ≤ 9223372036854775807) (hz : IntsAt w a zs) :
    Calls Tryd.prog 46 #[.slice a zs.length cap] w fun e w' => e = .returned (.int .u64 ((withN 0 zs : Nat) : Int)) ∧ w = w' := by
  have H := Lib.hid (with_any 0 (by decide) a cap zs w hl hz)
  clear hl hz
  go_enter Tryd.func46, Tryd.ntmps46
  go_wp2_with (go_at_call 48; refine H.out.mono ?_; rintro e w' ⟨rfl, rfl⟩)
  go_ret
  exact ⟨rfl, rfl⟩

/-- A mask without these numbers. -/
def withoutN (m : Nat) (zs : List Int) : Nat := m &&& (18446744073709551615 - withN 0 zs)
theorem withoutN_lt (m : Nat) (zs : List Int) (hm : m < 18446744073709551616) : withoutN m zs < 18446744073709551616 :=
  Nat.lt_of_le_of_lt Nat.and_le_left hm

theorem without_any (m : Nat) (hm : m < 18446744073709551616) (a : Option Addr) (cap : Nat) (zs : List Int) (w : World) (hl : zs.length ≤ 9223372036854775807) (hz : IntsAt w a zs) :
    Calls Tryd.prog 49 #[.int .u64 (m : Int), .slice a zs.length cap] w fun e w' => e = .returned (.int .u64 ((withoutN m zs : Nat) : Int)) ∧ w = w' := by
  have H := Lib.hid (of_any a cap zs w hl hz)
  have HV := Lib.hid (u64_andNot_nat m _ hm (withN_lt 0 zs (by decide)))
  clear hl hz hm
  go_enter Tryd.func49, Tryd.ntmps49
  go_wp2_with (go_at_call 46; refine H.out.mono ?_; rintro e w' ⟨rfl, rfl⟩)
  go_ret
  exact ⟨by show Ending.returned (Value.int .u64 (bits BinOp.andNot IntKind.u64 (m : Int) ((withN 0 zs : Nat) : Int))) = _; rw [HV.out]; rfl, rfl⟩

/-- The document's next one. -/
def refO (bs : List Bool) (from' : Int) : Option Nat := (List.range 64).find? fun i : Nat => decide (from' ≤ (i : Int)) && bs[i]?.getD false
def refV (bs : List Bool) (from' : Int) : Nat := (refO bs from').getD 0
def refB (bs : List Bool) (from' : Int) : Bool := (refO bs from').isSome

theorem refO_none (bs : List Bool) (from' : Int) (h : ∀ j : Nat, j < 64 → (decide (from' ≤ (j : Int)) && bs[j]?.getD false) = false) : refO bs from' = none := by
  unfold refO
  rw [List.find?_eq_none]
  intro x hx
  rw [h x (by simpa using hx)]
  simp
theorem refO_some (bs : List Bool) (from' : Int) (k : Nat) (hk : k < 64) (h : ∀ j : Nat, j < k → (decide (from' ≤ (j : Int)) && bs[j]?.getD false) = false) (hh : (decide (from' ≤ (k : Int)) && bs[k]?.getD false) = true) : refO bs from' = some k := by
  unfold refO
  have e : List.range 64 = List.range k ++ (k :: (List.range (63 - k)).map (k + 1 + ·)) := by
    have e1 : (64 : Nat) = k + ((63 - k) + 1) := by omega
    conv => lhs; rw [e1, List.range_add, List.range_succ_eq_map]
    simp [List.map_map, Function.comp_def]
    intro a _
    omega
  rw [e, List.find?_append]
  have e2 : (List.range k).find? (fun i : Nat => decide (from' ≤ (i : Int)) && bs[i]?.getD false) = none := by
    rw [List.find?_eq_none]; intro x hx; rw [h x (by simpa using hx)]; simp
  rw [e2]
  simp only [List.find?_cons, hh]
  rfl

def rarV (bs : List Bool) (from' : Int) : Nat := if refB bs from' = true then refV bs from' else refV bs 0
def rarB (bs : List Bool) (from' : Int) : Bool := if refB bs from' = true then true else refB bs 0

/-- The document's list. -/
def rlistTo (bs : List Bool) (k : Nat) : List Nat := (List.range k).filter fun i => bs[i]?.getD false
theorem rlistTo_yes (bs : List Bool) (k : Nat) (h : bs[k]?.getD false = true) : rlistTo bs (k + 1) = rlistTo bs k ++ [k] := by
  unfold rlistTo; rw [List.range_succ, List.filter_append]; simp [h]
theorem rlistTo_no (bs : List Bool) (k : Nat) (h : bs[k]?.getD false = false) : rlistTo bs (k + 1) = rlistTo bs k := by
  unfold rlistTo; rw [List.range_succ, List.filter_append]; simp [h]
theorem rlistTo_le (bs : List Bool) (k : Nat) : (rlistTo bs k).length ≤ k := by
  have := List.length_filter_le (fun i => bs[i]?.getD false) (List.range k)
  simpa [rlistTo] using this

/-- The document's turning: what stands at j comes from (j + k) mod 64. -/
def rturnTo (bs : List Bool) (k n : Nat) : List Bool := (List.range 64).map fun j => decide ((j + k) % 64 < n) && bs[(j + k) % 64]?.getD false
theorem rturnTo_zero (bs : List Bool) (k : Nat) : rturnTo bs k 0 = List.replicate 64 false := by
  apply List.ext_getElem (by simp [rturnTo])
  intro i h1 h2
  rw [List.getElem_replicate]
  simp [rturnTo]
theorem rturnTo_succ (bs : List Bool) (k n j : Nat) (hk : k < 64) (hn : n < 64) (hj : j = (n + 64 - k) % 64) : rturnTo bs k (n + 1) = (rturnTo bs k n).set j (bs[n]?.getD false) := by
  apply List.ext_getElem (by simp [rturnTo])
  intro i h1 h2
  have hi : i < 64 := by simpa [rturnTo] using h1
  rw [List.getElem_set]
  by_cases e : j = i
  · subst e
    have e2 : (j + k) % 64 = n := by omega
    simp [rturnTo, e2]
  · have e2 : (i + k) % 64 ≠ n := by omega
    have e3 : ((i + k) % 64 < n + 1) ↔ ((i + k) % 64 < n) := by omega
    simp [rturnTo, e, e3]

/-- What stands at j comes from (j + n) mod 64. -/
def rturnL (bs : List Bool) (n : Int) : List Bool := rturnTo bs (n % 64).toNat 64

end Go.Proofs.YtpbdmlipdfdblaaDoor.Mk
