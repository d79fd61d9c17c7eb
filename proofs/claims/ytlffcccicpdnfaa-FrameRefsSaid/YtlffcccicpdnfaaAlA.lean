/-
  Plain: what sums and jumps are, of words as numbers below 2^64; the document's way (by doubling, bit by bit) comes to the same.
-/
import Derived.Test.YtlffcccicpdnfaaIsD
import Derived.Laws.BitsAll
namespace Go.Proofs.Ytlffcccicpdnfaa

/-- A word, signed. -/
def sg (a : Nat) : Int := if 9223372036854775808 ≤ a then (a : Int) - 18446744073709551616 else (a : Int)
/-- A word shifted right, filled with its highest bit. -/
def arN (a s : Nat) : Nat := (sg a / (2 ^ s : Int) % 18446744073709551616).toNat
/-- What an operation from Add to Neg makes of two words. -/
def doN (p a b : Nat) : Nat :=
  match p with
  | 0 => (a + b) % 18446744073709551616
  | 1 => (a + (18446744073709551616 - b)) % 18446744073709551616
  | 2 => a * b % 18446744073709551616
  | 3 => a / b
  | 4 => a % b
  | 5 => a &&& b
  | 6 => a ||| b
  | 7 => a ^^^ b
  | 8 => a * 2 ^ (b % 64) % 18446744073709551616
  | 9 => a / 2 ^ (b % 64)
  | 10 => arN a (b % 64)
  | 11 => b
  | _ => (18446744073709551616 - a) % 18446744073709551616
/-- Whether a jump from Ja (0) to Jslt (9) goes. -/
def goN (p a b : Nat) : Bool :=
  match p with
  | 0 => true
  | 1 => decide (a = b)
  | 2 => !decide (a = b)
  | 3 => decide (b < a)
  | 4 => decide (b ≤ a)
  | 5 => decide (a < b)
  | 6 => decide (a ≤ b)
  | 7 => decide ((a &&& b) ≠ 0)
  | 8 => decide (sg b < sg a)
  | _ => decide (sg a < sg b)

def doE (op : Int) : Int := if cls op = 1 then 0 else 11
def doV (op : Int) (a b : Nat) : Nat := if cls op = 1 then doN (pl op).toNat a b else 0
def goE (op : Int) : Int := if cls op = 2 then 0 else 11
def goV (op : Int) (a b : Nat) : Bool := if cls op = 2 then goN (pl op - 32).toNat a b else false

abbrev W64 (a : Nat) : Prop := a < 18446744073709551616

theorem arN_lt (a s : Nat) : W64 (arN a s) := by
  unfold arN
  have h0 := Int.emod_nonneg (sg a / (2 ^ s : Int)) (b := 18446744073709551616) (by decide)
  have h1 := Int.emod_lt_of_pos (sg a / (2 ^ s : Int)) (b := 18446744073709551616) (by decide)
  show _ < _
  omega
theorem or_lt {a b : Nat} (ha : W64 a) (hb : W64 b) : W64 (a ||| b) := by
  have h := Nat.or_lt_two_pow (n := 64) (x := a) (y := b) (by simpa using ha) (by simpa using hb)
  simpa using h
theorem xor_lt {a b : Nat} (ha : W64 a) (hb : W64 b) : W64 (a ^^^ b) := by
  have h := Nat.xor_lt_two_pow (n := 64) (x := a) (y := b) (by simpa using ha) (by simpa using hb)
  simpa using h
theorem doN_lt (p : Nat) {a b : Nat} (ha : W64 a) (hb : W64 b) : W64 (doN p a b) := by
  unfold doN
  split
  all_goals first
    | exact Nat.mod_lt _ (by decide)
    | exact Nat.lt_of_le_of_lt (Nat.div_le_self _ _) ha
    | exact Nat.lt_of_le_of_lt (Nat.mod_le _ _) ha
    | exact Nat.lt_of_le_of_lt Nat.and_le_left ha
    | exact arN_lt _ _
    | exact hb
    | exact or_lt ha hb
    | exact xor_lt ha hb
theorem doV_lt (op : Int) {a b : Nat} (ha : W64 a) (hb : W64 b) : W64 (doV op a b) := by
  unfold doV; split
  · exact doN_lt _ ha hb
  · show 0 < _; decide

/-! ### The document's shifts, a bit at a time -/
theorem lsh_step (a i : Nat) : (a * 2 ^ i % 18446744073709551616) * 2 % 18446744073709551616 = a * 2 ^ (i + 1) % 18446744073709551616 := by
  rw [Nat.pow_succ, ← Nat.mul_assoc]
  generalize a * 2 ^ i = x
  omega
theorem rsh_step (a i : Nat) : a / 2 ^ i / 2 = a / 2 ^ (i + 1) := by
  rw [Nat.div_div_eq_div_mul, Nat.pow_succ]
theorem sg_lo {a : Nat} (h : a < 9223372036854775808) : sg a = (a : Int) := by unfold sg; rw [if_neg (by omega)]
theorem sg_hi {a : Nat} (h : 9223372036854775808 ≤ a) : sg a = (a : Int) - 18446744073709551616 := by unfold sg; rw [if_pos h]
theorem arN_lo {a : Nat} (s : Nat) (h : a < 9223372036854775808) : arN a s = a / 2 ^ s := by
  unfold arN
  rw [sg_lo h]
  have e : (a : Int) / (2 ^ s : Int) = ((a / 2 ^ s : Nat) : Int) := by
    rw [Int.natCast_ediv, Int.natCast_pow]; rfl
  rw [e]
  have := Nat.div_le_self a (2 ^ s)
  generalize a / 2 ^ s = x at *
  omega
theorem sg_div_step (a i : Nat) : sg a / (2 ^ (i + 1) : Int) = sg a / (2 ^ i : Int) / 2 := by
  rw [Int.pow_succ, Int.ediv_ediv_of_nonneg (Int.le_of_lt (Int.pow_pos (by decide)))]
theorem sg_div_neg {a : Nat} (h : 9223372036854775808 ≤ a) (ha : W64 a) (i : Nat) : -9223372036854775808 ≤ sg a / (2 ^ i : Int) ∧ sg a / (2 ^ i : Int) < 0 := by
  have h0 : sg a < 0 ∧ -9223372036854775808 ≤ sg a := by rw [sg_hi h]; unfold W64 at ha; omega
  induction i with
  | zero => simp only [Int.pow_zero, Int.ediv_one]; omega
  | succ i ih => rw [sg_div_step]; omega
theorem arN_zero {a : Nat} (ha : W64 a) : arN a 0 = a := by
  unfold arN sg
  unfold W64 at ha
  simp only [Int.pow_zero, Int.ediv_one]
  split <;> omega
theorem arN_step {a : Nat} (h : 9223372036854775808 ≤ a) (ha : W64 a) (i : Nat) : arN a i / 2 + 9223372036854775808 = arN a (i + 1) ∧ W64 (arN a i / 2 + 9223372036854775808) := by
  have h1 := sg_div_neg h ha i
  unfold arN W64
  rw [sg_div_step]
  omega

/-! ### The document's bits, one by one -/
def opN (how a b : Nat) : Nat := match how with | 0 => a &&& b | 1 => a ||| b | _ => a ^^^ b
def opB (how : Nat) (x y : Bool) : Bool := match how with | 0 => x && y | 1 => x || y | _ => x != y
theorem opN_bit (how a b i : Nat) : (opN how a b).testBit i = opB how (a.testBit i) (b.testBit i) := by
  unfold opN opB
  split
  · exact Nat.testBit_and _ _ _
  · exact Nat.testBit_or _ _ _
  · rw [Nat.testBit_xor]
theorem opN_lt (how : Nat) {a b : Nat} (ha : W64 a) (hb : W64 b) : W64 (opN how a b) := by
  unfold opN
  split
  · exact Nat.lt_of_le_of_lt Nat.and_le_left ha
  · exact or_lt ha hb
  · exact xor_lt ha hb
/-- A round: the sum so far, the worth of the next bit. -/
theorem bit_step (how a b i : Nat) : opN how a b % 2 ^ (i + 1) = opN how a b % 2 ^ i + (if opB how (a.testBit i) (b.testBit i) = true then 2 ^ i else 0) := by
  rw [Nat.mod_pow_succ, ← opN_bit, Nat.testBit_eq_decide_div_mod_eq]
  have h := Nat.mod_two_eq_zero_or_one (opN how a b / 2 ^ i)
  rcases h with h | h <;> simp [h]
theorem bit_of (a i : Nat) : (((a / 2 ^ i : Nat) : Int) % 2 == 1) = a.testBit i := by
  rw [Nat.testBit_eq_decide_div_mod_eq]
  generalize a / 2 ^ i = x
  cases h : decide (x % 2 = 1) <;> simp at h ⊢ <;> omega

/-! ### What follows -/
theorem put_together (a b : Nat) (ha : W64 a) : doN 0 (doN 2 (doN 3 a b) b) (doN 4 a b) = a := by
  have h := Nat.div_add_mod' a b
  unfold W64 at ha
  unfold doN
  simp only
  generalize hx : a / b * b = x at *
  generalize a % b = y at *
  omega
theorem sg_lt {a b : Nat} (ha : W64 a) (hb : W64 b) : (decide (sg a < sg b)) = (if decide (9223372036854775808 ≤ a) != decide (9223372036854775808 ≤ b) then decide (9223372036854775808 ≤ a) else decide (a < b)) := by
  unfold W64 at ha hb
  unfold sg
  by_cases h1 : 9223372036854775808 ≤ a <;> by_cases h2 : 9223372036854775808 ≤ b <;> simp [h1, h2] <;> omega
end Go.Proofs.Ytlffcccicpdnfaa
