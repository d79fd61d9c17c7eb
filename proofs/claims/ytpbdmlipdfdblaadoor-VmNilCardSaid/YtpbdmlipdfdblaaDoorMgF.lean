/-
  Several texts in one: Plain: what sums and jumps are, of words as numbers below 2^64; the document's way (by doubling, bit by bit) comes to the same. · The program's sums: withNumber, divided, sum, Do. · The program's sum at each plain operation (written by gen/sum16.py), Do. · The program's Do, goes, Jumps, Word, Fold (goes written by gen/goes16.py).
-/
import Derived.Test.YtpbdmlipdfdblaaDoorMgB
import Derived.Laws.BitsAll
import Derived.BigQuiet
namespace Go.Proofs.YtpbdmlipdfdblaaDoor

/-- A word, signed. -/
def sg (a : Nat) : Int := if 9223372036854775808 ≤ a then (a : Int) - 18446744073709551616 else (a : Int)
/-- A word shifted right, filled with its highest bit. -/
def arN (a s : Nat) : Nat := (sg a / (2 ^ s : Int) % 18446744073709551616).toNat
/-- What an operation from Add to Neg makes of two words. -/
def doN (p a b : Nat) : Nat :=
  match p with
  | 0 => (a + b) % 18446744073709551616
  | 1 => (a + (18446744073709551616 - b)) % 18446744073709551616
  | 2 => a * b % 18446744073709551616
  | 3 => a / b
  | 4 => a % b
  | 5 => a &&& b
  | 6 => a ||| b
  | 7 => a ^^^ b
  | 8 => a * 2 ^ (b % 64) % 18446744073709551616
  | 9 => a / 2 ^ (b % 64)
  | 10 => arN a (b % 64)
  | 11 => b
  | _ => (18446744073709551616 - a) % 18446744073709551616
/-- Whether a jump from Ja (0) to Jslt (9) goes. -/
def goN (p a b : Nat) : Bool :=
  match p with
  | 0 => true
  | 1 => decide (a = b)
  | 2 => !decide (a = b)
  | 3 => decide (b < a)
  | 4 => decide (b ≤ a)
  | 5 => decide (a < b)
  | 6 => decide (a ≤ b)
  | 7 => decide ((a &&& b) ≠ 0)
  | 8 => decide (sg b < sg a)
  | _ => decide (sg a < sg b)

def doE (op : Int) : Int := if cls op = 1 then 0 else 11
def doV (op : Int) (a b : Nat) : Nat := if cls op = 1 then doN (pl op).toNat a b else 0
def goE (op : Int) : Int := if cls op = 2 then 0 else 11
def goV (op : Int) (a b : Nat) : Bool := if cls op = 2 then goN (pl op - 32).toNat a b else false

abbrev W64 (a : Nat) : Prop := a < 18446744073709551616

theorem arN_lt (a s : Nat) : W64 (arN a s) := by
  unfold arN
  have h0 := Int.emod_nonneg (sg a / (2 ^ s : Int)) (b := 18446744073709551616) (by decide)
  have h1 := Int.emod_lt_of_pos (sg a / (2 ^ s : Int)) (b := 18446744073709551616) (by decide)
  show _ < _
  omega
theorem or_lt {a b : Nat} (ha : W64 a) (hb : W64 b) : W64 (a ||| b) := by
  have h := Nat.or_lt_two_pow (n := 64) (x := a) (y := b) (by simpa using ha) (by simpa using hb)
  simpa using h
theorem xor_lt {a b : Nat} (ha : W64 a) (hb : W64 b) : W64 (a ^^^ b) := by
  have h := Nat.xor_lt_two_pow (n := 64) (x := a) (y := b) (by simpa using ha) (by simpa using hb)
  simpa using h
theorem doN_lt (p : Nat) {a b : Nat} (ha : W64 a) (hb : W64 b) : W64 (doN p a b) := by
  unfold doN
  split
  all_goals first
    | exact Nat.mod_lt _ (by decide)
    | exact Nat.lt_of_le_of_lt (Nat.div_le_self _ _) ha
    | exact Nat.lt_of_le_of_lt (Nat.mod_le _ _) ha
    | exact Nat.lt_of_le_of_lt Nat.and_le_left ha
    | exact arN_lt _ _
    | exact hb
    | exact or_lt ha hb
    | exact xor_lt ha hb
theorem doV_lt (op : Int) {a b : Nat} (ha : W64 a) (hb : W64 b) : W64 (doV op a b) := by
  unfold doV; split
  · exact doN_lt _ ha hb
  · show 0 < _; decide

/-! ### The document's shifts, a bit at a time -/
theorem lsh_step (a i : Nat) : (a * 2 ^ i % 18446744073709551616) * 2 % 18446744073709551616 = a * 2 ^ (i + 1) % 18446744073709551616 := by
  rw [Nat.pow_succ, ← Nat.mul_assoc]
  generalize a * 2 ^ i = x
  omega
theorem rsh_step (a i : Nat) : a / 2 ^ i / 2 = a / 2 ^ (i + 1) := by
  rw [Nat.div_div_eq_div_mul, Nat.pow_succ]
theorem sg_lo {a : Nat} (h : a < 9223372036854775808) : sg a = (a : Int) := by unfold sg; rw [if_neg (by omega)]
theorem sg_hi {a : Nat} (h : 9223372036854775808 ≤ a) : sg a = (a : Int) - 18446744073709551616 := by unfold sg; rw [if_pos h]
theorem arN_lo {a : Nat} (s : Nat) (h : a < 9223372036854775808) : arN a s = a / 2 ^ s := by
  unfold arN
  rw [sg_lo h]
  have e : (a : Int) / (2 ^ s : Int) = ((a / 2 ^ s : Nat) : Int) := by
    rw [Int.natCast_ediv, Int.natCast_pow]; rfl
  rw [e]
  have := Nat.div_le_self a (2 ^ s)
  generalize a / 2 ^ s = x at *
  omega
theorem sg_div_step (a i : Nat) : sg a / (2 ^ (i + 1) : Int) = sg a / (2 ^ i : Int) / 2 := by
  rw [Int.pow_succ, Int.ediv_ediv_of_nonneg (Int.le_of_lt (Int.pow_pos (by decide)))]
theorem sg_div_neg {a : Nat} (h : 9223372036854775808 ≤ a) (ha : W64 a) (i : Nat) : -9223372036854775808 ≤ sg a / (2 ^ i : Int) ∧ sg a / (2 ^ i : Int) < 0 := by
  have h0 : sg a < 0 ∧ -9223372036854775808 ≤ sg a := by rw [sg_hi h]; unfold W64 at ha; omega
  induction i with
  | zero => simp only [Int.pow_zero, Int.ediv_one]; omega
  | succ i ih => rw [sg_div_step]; omega
theorem arN_zero {a : Nat} (ha : W64 a) : arN a 0 = a := by
  unfold arN sg
  unfold W64 at ha
  simp only [Int.pow_zero, Int.ediv_one]
  split <;> omega
theorem arN_step {a : Nat} (h : 9223372036854775808 ≤ a) (ha : W64 a) (i : Nat) : arN a i / 2 + 9223372036854775808 = arN a (i + 1) ∧ W64 (arN a i / 2 + 9223372036854775808) := by
  have h1 := sg_div_neg h ha i
  unfold arN W64
  rw [sg_div_step]
  omega

/-! ### The document's bits, one by one -/
def opN (how a b : Nat) : Nat := match how with | 0 => a &&& b | 1 => a ||| b | _ => a ^^^ b
def opB (how : Nat) (x y : Bool) : Bool := match how with | 0 => x && y | 1 => x || y | _ => x != y
theorem opN_bit (how a b i : Nat) : (opN how a b).testBit i = opB how (a.testBit i) (b.testBit i) := by
  unfold opN opB
  split
  · exact Nat.testBit_and _ _ _
  · exact Nat.testBit_or _ _ _
  · rw [Nat.testBit_xor]
theorem opN_lt (how : Nat) {a b : Nat} (ha : W64 a) (hb : W64 b) : W64 (opN how a b) := by
  unfold opN
  split
  · exact Nat.lt_of_le_of_lt Nat.and_le_left ha
  · exact or_lt ha hb
  · exact xor_lt ha hb
/-- A round: the sum so far, the worth of the next bit. -/
theorem bit_step (how a b i : Nat) : opN how a b % 2 ^ (i + 1) = opN how a b % 2 ^ i + (if opB how (a.testBit i) (b.testBit i) = true then 2 ^ i else 0) := by
  rw [Nat.mod_pow_succ, ← opN_bit, Nat.testBit_eq_decide_div_mod_eq]
  have h := Nat.mod_two_eq_zero_or_one (opN how a b / 2 ^ i)
  rcases h with h | h <;> simp [h]
theorem bit_of (a i : Nat) : (((a / 2 ^ i : Nat) : Int) % 2 == 1) = a.testBit i := by
  rw [Nat.testBit_eq_decide_div_mod_eq]
  generalize a / 2 ^ i = x
  cases h : decide (x % 2 = 1) <;> simp at h ⊢ <;> omega

/-! ### What follows -/
theorem put_together (a b : Nat) (ha : W64 a) : doN 0 (doN 2 (doN 3 a b) b) (doN 4 a b) = a := by
  have h := Nat.div_add_mod' a b
  unfold W64 at ha
  unfold doN
  simp only
  generalize hx : a / b * b = x at *
  generalize a % b = y at *
  omega
theorem sg_lt {a b : Nat} (ha : W64 a) (hb : W64 b) : (decide (sg a < sg b)) = (if decide (9223372036854775808 ≤ a) != decide (9223372036854775808 ≤ b) then decide (9223372036854775808 ≤ a) else decide (a < b)) := by
  unfold W64 at ha hb
  unfold sg
  by_cases h1 : 9223372036854775808 ≤ a <;> by_cases h2 : 9223372036854775808 ≤ b <;> simp [h1, h2] <;> omega
end Go.Proofs.YtpbdmlipdfdblaaDoor

namespace Go.Proofs.YtpbdmlipdfdblaaDoor
open Go.RowKit Go.BigFrame

attribute [local go_sem] Oper.semAt_some

theorem with_low {op last : Int} (h : op ≤ last) (w : World) : Calls Tryd.prog 91 #[.int .i64 op, .int .i64 last] w fun e w' => e = .returned (.int .i64 op) ∧ w' = w := by
  have hd : decide (op > last) = false := decide_eq_false (by omega)
  clear h
  go_enter Tryd.func91, Tryd.ntmps91
  go_wp2
  go_ret
  exact ⟨rfl, rfl⟩
theorem with_high {op last : Int} (h : last < op) (h0 : 0 ≤ op) (h1 : op < 100) (w : World) : Calls Tryd.prog 91 #[.int .i64 op, .int .i64 last] w fun e w' => e = .returned (.int .i64 (op - 16)) ∧ w' = w := by
  have hd : decide (op > last) = true := decide_eq_true (by omega)
  have hw : IntKind.i64.wrap (op - 16) = op - 16 := by rw [IntKind.wrap_i64]; omega
  clear h h0 h1
  go_enter Tryd.func91, Tryd.ntmps91
  go_wp2
  go_ret
  exact ⟨rfl, rfl⟩

/-- The closure: 0, and all is rest. -/
theorem undiv_any {a : Nat} {A : Nat} {w : World} (hc : w.cell? ⟨A, 0, none⟩ = some (.int .u64 (a : Int))) :
    Calls Tryd.prog 97 #[.pointer (some ⟨A, 0, none⟩)] w fun e w' => e = .returned (.tuple #[.int .u64 0, .int .u64 (a : Int)]) ∧ ∃ n, w' = w.drewN n := by
  go_enter Tryd.func97, Tryd.ntmps97
  go_wp2
  go_quiet (fail)
  go_wp2
  go_ret2
  exact ⟨rfl, _, rfl⟩

theorem div_zero {a A : Nat} {w : World} (hc : w.cell? ⟨A, 0, none⟩ = some (.int .u64 (a : Int))) :
    Calls Tryd.prog 96 #[.int .u64 (a : Int), .int .u64 0, .func (.func 97) #[] #[.pointer (some ⟨A, 0, none⟩)]] w fun e w' => e = .returned (.tuple #[.int .u64 0, .int .u64 (a : Int)]) ∧ ∃ n, w' = w.drewN n := by
  have HU := Lib.hid (undiv_any hc)
  clear hc
  go_enter Tryd.func96, Tryd.ntmps96
  go_wp2_with (with_reducible refine HU.out.mono ?_; rintro e w' ⟨rfl, hw⟩)
  go_ret2
  exact ⟨rfl, hw⟩
theorem div_some {a b : Nat} (ha : W64 a) (hb : b ≠ 0) (F : Value) (w : World) :
    Calls Tryd.prog 96 #[.int .u64 (a : Int), .int .u64 (b : Int), F] w fun e w' => e = .returned (.tuple #[.int .u64 ((a / b : Nat) : Int), .int .u64 ((a % b : Nat) : Int)]) ∧ ∃ n, w' = w.drewN n := by
  obtain ⟨q, hq⟩ : ∃ q, q = a / b := ⟨_, rfl⟩
  obtain ⟨r, hr⟩ : ∃ r, r = a % b := ⟨_, rfl⟩
  have hql : q < 18446744073709551616 := by rw [hq]; exact Nat.lt_of_le_of_lt (Nat.div_le_self _ _) ha
  rw [← hq, ← hr]
  have h0 : ((b : Int) == 0) = false := by rw [beq_eq_false_iff_ne]; omega
  have hz : ¬ (b : Int) = 0 := by omega
  have hd : (a : Int).tdiv (b : Int) = (q : Int) := by rw [hq]; rfl
  have hm : (a : Int).tmod (b : Int) = (r : Int) := by rw [hr]; rfl
  have hw : IntKind.u64.wrap (q : Int) = (q : Int) := by rw [IntKind.wrap_u64]; omega
  clear hq hr hql ha hb
  go_enter Tryd.func96, Tryd.ntmps96
  go_wp2
  go_quiet (fail)
  go_wp2
  go_ret2
  exact ⟨rfl, _, rfl⟩
end Go.Proofs.YtpbdmlipdfdblaaDoor

namespace Go.Proofs.YtpbdmlipdfdblaaDoor
open Go.RowKit Go.BigFrame Go.Lib

attribute [local go_sem] Oper.semAt_some

theorem sum_0 {a b : Nat} (_ha : W64 a) (_hb : W64 b) (w : World) : Calls Tryd.prog 95 #[.int .i64 0, .int .u64 (a : Int), .int .u64 (b : Int)] w fun e w' => e = .returned (.int .u64 ((doN 0 a b : Nat) : Int)) ∧ Ch [] w w' := by
  obtain ⟨r, hr⟩ : ∃ r, r = doN 0 a b := ⟨_, rfl⟩
  rw [← hr]
  have h1 : IntKind.u64.wrap ((a : Int) + (b : Int)) = (r : Int) := by rw [IntKind.wrap_u64, hr]; unfold doN; simp only; omega
  clear hr _ha _hb
  go_enter Tryd.func95, Tryd.ntmps95
  go_wp2
  go_ret
  exact ⟨rfl, (Ch.refl [] _).alloc _⟩
theorem sum_1 {a b : Nat} (_ha : W64 a) (hb : W64 b) (w : World) : Calls Tryd.prog 95 #[.int .i64 1, .int .u64 (a : Int), .int .u64 (b : Int)] w fun e w' => e = .returned (.int .u64 ((doN 1 a b : Nat) : Int)) ∧ Ch [] w w' := by
  obtain ⟨r, hr⟩ : ∃ r, r = doN 1 a b := ⟨_, rfl⟩
  rw [← hr]
  have h1 : IntKind.u64.wrap ((a : Int) - (b : Int)) = (r : Int) := by rw [IntKind.wrap_u64, hr]; unfold doN; simp only; unfold W64 at hb; omega
  clear hr _ha hb
  go_enter Tryd.func95, Tryd.ntmps95
  go_wp2
  go_ret
  exact ⟨rfl, (Ch.refl [] _).alloc _⟩
theorem sum_2 {a b : Nat} (_ha : W64 a) (_hb : W64 b) (w : World) : Calls Tryd.prog 95 #[.int .i64 2, .int .u64 (a : Int), .int .u64 (b : Int)] w fun e w' => e = .returned (.int .u64 ((doN 2 a b : Nat) : Int)) ∧ Ch [] w w' := by
  obtain ⟨r, hr⟩ : ∃ r, r = doN 2 a b := ⟨_, rfl⟩
  rw [← hr]
  have h1 : IntKind.u64.wrap ((a : Int) * (b : Int)) = (r : Int) := by rw [IntKind.wrap_u64, hr, ← Int.natCast_mul]; unfold doN; simp only; generalize a * b = x; omega
  clear hr _ha _hb
  go_enter Tryd.func95, Tryd.ntmps95
  go_wp2
  go_ret
  exact ⟨rfl, (Ch.refl [] _).alloc _⟩
theorem sum_3 {a b : Nat} (ha : W64 a) (_hb : W64 b) (w : World) : Calls Tryd.prog 95 #[.int .i64 3, .int .u64 (a : Int), .int .u64 (b : Int)] w fun e w' => e = .returned (.int .u64 ((doN 3 a b : Nat) : Int)) ∧ Ch [] w w' := by
  by_cases h : b = 0
  · subst h
    have e : doN 3 a 0 = 0 := by unfold doN; simp
    rw [e]
    have HC := Lib.hid (div_zero (a := a) (A := w.heap.size) (w := w.alloc (.cells #[.int .u64 (a : Int)] 28)) (by rw [World.cell?_alloc_at _ _ _ _ rfl]; rfl))
    clear e ha
    go_enter Tryd.func95, Tryd.ntmps95
    go_wp2_with (first | (with_reducible refine HC.out.mono ?_; rintro e w' ⟨rfl, n, rfl⟩) | fail)
    go_ret
    exact ⟨rfl, ((Ch.refl [] _).alloc _).drewN n⟩
  · have e : doN 3 a b = a / b := rfl
    rw [e]
    have HC := Lib.hid (fun F w => div_some ha h F w)
    generalize a / b = q at *
    generalize a % b = r at *
    clear e ha h
    go_enter Tryd.func95, Tryd.ntmps95
    go_wp2_with (first | (with_reducible refine (HC.out _ _).mono ?_; rintro e w' ⟨rfl, n, rfl⟩) | fail)
    go_ret
    exact ⟨rfl, ((Ch.refl [] _).alloc _).drewN n⟩
theorem sum_4 {a b : Nat} (ha : W64 a) (_hb : W64 b) (w : World) : Calls Tryd.prog 95 #[.int .i64 4, .int .u64 (a : Int), .int .u64 (b : Int)] w fun e w' => e = .returned (.int .u64 ((doN 4 a b : Nat) : Int)) ∧ Ch [] w w' := by
  by_cases h : b = 0
  · subst h
    have e : doN 4 a 0 = a := by unfold doN; simp
    rw [e]
    have HC := Lib.hid (div_zero (a := a) (A := w.heap.size) (w := w.alloc (.cells #[.int .u64 (a : Int)] 28)) (by rw [World.cell?_alloc_at _ _ _ _ rfl]; rfl))
    clear e ha
    go_enter Tryd.func95, Tryd.ntmps95
    go_wp2_with (first | (with_reducible refine HC.out.mono ?_; rintro e w' ⟨rfl, n, rfl⟩) | fail)
    go_ret
    exact ⟨rfl, ((Ch.refl [] _).alloc _).drewN n⟩
  · have e : doN 4 a b = a % b := rfl
    rw [e]
    have HC := Lib.hid (fun F w => div_some ha h F w)
    generalize a / b = q at *
    generalize a % b = r at *
    clear e ha h
    go_enter Tryd.func95, Tryd.ntmps95
    go_wp2_with (first | (with_reducible refine (HC.out _ _).mono ?_; rintro e w' ⟨rfl, n, rfl⟩) | fail)
    go_ret
    exact ⟨rfl, ((Ch.refl [] _).alloc _).drewN n⟩
theorem sum_5 {a b : Nat} (ha : W64 a) (hb : W64 b) (w : World) : Calls Tryd.prog 95 #[.int .i64 5, .int .u64 (a : Int), .int .u64 (b : Int)] w fun e w' => e = .returned (.int .u64 ((doN 5 a b : Nat) : Int)) ∧ Ch [] w w' := by
  obtain ⟨r, hr⟩ : ∃ r, r = doN 5 a b := ⟨_, rfl⟩
  rw [← hr]
  have h1 : bits .and .u64 (a : Int) (b : Int) = (r : Int) := by rw [hr]; exact u64_and_nat a b ha hb
  clear hr ha hb
  go_enter Tryd.func95, Tryd.ntmps95
  go_wp2
  go_ret
  exact ⟨rfl, (Ch.refl [] _).alloc _⟩
theorem sum_6 {a b : Nat} (ha : W64 a) (hb : W64 b) (w : World) : Calls Tryd.prog 95 #[.int .i64 6, .int .u64 (a : Int), .int .u64 (b : Int)] w fun e w' => e = .returned (.int .u64 ((doN 6 a b : Nat) : Int)) ∧ Ch [] w w' := by
  obtain ⟨r, hr⟩ : ∃ r, r = doN 6 a b := ⟨_, rfl⟩
  rw [← hr]
  have h1 : bits .or .u64 (a : Int) (b : Int) = (r : Int) := by rw [hr]; exact u64_or_nat a b ha hb
  clear hr ha hb
  go_enter Tryd.func95, Tryd.ntmps95
  go_wp2
  go_ret
  exact ⟨rfl, (Ch.refl [] _).alloc _⟩
theorem sum_7 {a b : Nat} (ha : W64 a) (hb : W64 b) (w : World) : Calls Tryd.prog 95 #[.int .i64 7, .int .u64 (a : Int), .int .u64 (b : Int)] w fun e w' => e = .returned (.int .u64 ((doN 7 a b : Nat) : Int)) ∧ Ch [] w w' := by
  obtain ⟨r, hr⟩ : ∃ r, r = doN 7 a b := ⟨_, rfl⟩
  rw [← hr]
  have h1 : bits .xor .u64 (a : Int) (b : Int) = (r : Int) := by rw [hr]; exact u64_xor_nat a b ha hb
  clear hr ha hb
  go_enter Tryd.func95, Tryd.ntmps95
  go_wp2
  go_ret
  exact ⟨rfl, (Ch.refl [] _).alloc _⟩
theorem sum_8 {a b : Nat} (_ha : W64 a) (_hb : W64 b) (w : World) : Calls Tryd.prog 95 #[.int .i64 8, .int .u64 (a : Int), .int .u64 (b : Int)] w fun e w' => e = .returned (.int .u64 ((doN 8 a b : Nat) : Int)) ∧ Ch [] w w' := by
  obtain ⟨r, hr⟩ : ∃ r, r = doN 8 a b := ⟨_, rfl⟩
  rw [← hr]
  obtain ⟨s, hs⟩ : ∃ s, s = b % 64 := ⟨_, rfl⟩
  have h0 : (b : Int).tmod 64 = (s : Int) := by rw [hs]; rfl
  have h1 : IntKind.u64.wrap ((a : Int) * 2 ^ s) = (r : Int) := by rw [IntKind.wrap_u64, hr, show (2 : Int) ^ s = ((2 ^ s : Nat) : Int) by simp, ← Int.natCast_mul]; unfold doN; simp only; rw [← hs]; generalize a * 2 ^ s = x; omega
  have h2 : (s : Int) ≤ 64 := by omega
  have h3 : s ≤ 64 := by omega
  clear hs
  clear hr _ha _hb
  go_enter Tryd.func95, Tryd.ntmps95
  go_wp2
  go_ret
  exact ⟨rfl, (Ch.refl [] _).alloc _⟩
theorem sum_9 {a b : Nat} (_ha : W64 a) (_hb : W64 b) (w : World) : Calls Tryd.prog 95 #[.int .i64 9, .int .u64 (a : Int), .int .u64 (b : Int)] w fun e w' => e = .returned (.int .u64 ((doN 9 a b : Nat) : Int)) ∧ Ch [] w w' := by
  obtain ⟨r, hr⟩ : ∃ r, r = doN 9 a b := ⟨_, rfl⟩
  rw [← hr]
  obtain ⟨s, hs⟩ : ∃ s, s = b % 64 := ⟨_, rfl⟩
  have h0 : (b : Int).tmod 64 = (s : Int) := by rw [hs]; rfl
  have h1 : (a : Int) / 2 ^ s = (r : Int) := by rw [hr, show (2 : Int) ^ s = ((2 ^ s : Nat) : Int) by simp, ← Int.natCast_ediv, hs]; rfl
  have h2 : (s : Int) ≤ 64 := by omega
  have h3 : s ≤ 64 := by omega
  clear hs
  clear hr _ha _hb
  go_enter Tryd.func95, Tryd.ntmps95
  go_wp2
  go_ret
  exact ⟨rfl, (Ch.refl [] _).alloc _⟩
theorem sum_10 {a b : Nat} (ha : W64 a) (_hb : W64 b) (w : World) : Calls Tryd.prog 95 #[.int .i64 10, .int .u64 (a : Int), .int .u64 (b : Int)] w fun e w' => e = .returned (.int .u64 ((doN 10 a b : Nat) : Int)) ∧ Ch [] w w' := by
  obtain ⟨r, hr⟩ : ∃ r, r = doN 10 a b := ⟨_, rfl⟩
  rw [← hr]
  obtain ⟨s, hs⟩ : ∃ s, s = b % 64 := ⟨_, rfl⟩
  obtain ⟨g, hg⟩ : ∃ g, g = sg a := ⟨_, rfl⟩
  obtain ⟨t, ht⟩ : ∃ t, t = g / 2 ^ s := ⟨_, rfl⟩
  have h0 : (b : Int).tmod 64 = (s : Int) := by rw [hs]; rfl
  have h5 : IntKind.i64.wrap (a : Int) = g := by rw [IntKind.wrap_i64, hg]; unfold sg; unfold W64 at ha; split <;> omega
  have h1 : IntKind.u64.wrap t = (r : Int) := by rw [IntKind.wrap_u64, hr]; unfold doN arN; simp only; rw [← hs, ← hg, ← ht]; omega
  have h6 : g / 2 ^ s = t := ht.symm
  have h2 : (s : Int) ≤ 64 := by omega
  have h3 : s ≤ 64 := by omega
  clear hs hg ht
  clear hr ha _hb
  go_enter Tryd.func95, Tryd.ntmps95
  go_wp2
  go_ret
  exact ⟨rfl, (Ch.refl [] _).alloc _⟩
theorem sum_11 {a b : Nat} (_ha : W64 a) (_hb : W64 b) (w : World) : Calls Tryd.prog 95 #[.int .i64 11, .int .u64 (a : Int), .int .u64 (b : Int)] w fun e w' => e = .returned (.int .u64 ((doN 11 a b : Nat) : Int)) ∧ Ch [] w w' := by
  go_enter Tryd.func95, Tryd.ntmps95
  go_wp2
  go_ret
  exact ⟨rfl, (Ch.refl [] _).alloc _⟩
theorem sum_12 {a b : Nat} (ha : W64 a) (_hb : W64 b) (w : World) : Calls Tryd.prog 95 #[.int .i64 12, .int .u64 (a : Int), .int .u64 (b : Int)] w fun e w' => e = .returned (.int .u64 ((doN 12 a b : Nat) : Int)) ∧ Ch [] w w' := by
  obtain ⟨r, hr⟩ : ∃ r, r = doN 12 a b := ⟨_, rfl⟩
  rw [← hr]
  have h1 : IntKind.u64.wrap (-(a : Int)) = (r : Int) := by rw [IntKind.wrap_u64, hr]; unfold doN; simp only; unfold W64 at ha; omega
  clear hr ha _hb
  go_enter Tryd.func95, Tryd.ntmps95
  go_wp2
  go_ret
  exact ⟨rfl, (Ch.refl [] _).alloc _⟩

theorem sum_any {p : Nat} (hp : p ≤ 12) {a b : Nat} (ha : W64 a) (hb : W64 b) (w : World) : Calls Tryd.prog 95 #[.int .i64 (p : Int), .int .u64 (a : Int), .int .u64 (b : Int)] w fun e w' => e = .returned (.int .u64 ((doN p a b : Nat) : Int)) ∧ Ch [] w w' := by
  obtain (rfl | rfl | rfl | rfl | rfl | rfl | rfl | rfl | rfl | rfl | rfl | rfl | rfl) := (show p = 0 ∨ p = 1 ∨ p = 2 ∨ p = 3 ∨ p = 4 ∨ p = 5 ∨ p = 6 ∨ p = 7 ∨ p = 8 ∨ p = 9 ∨ p = 10 ∨ p = 11 ∨ p = 12 by omega)
  · exact sum_0 ha hb w
  · exact sum_1 ha hb w
  · exact sum_2 ha hb w
  · exact sum_3 ha hb w
  · exact sum_4 ha hb w
  · exact sum_5 ha hb w
  · exact sum_6 ha hb w
  · exact sum_7 ha hb w
  · exact sum_8 ha hb w
  · exact sum_9 ha hb w
  · exact sum_10 ha hb w
  · exact sum_11 ha hb w
  · exact sum_12 ha hb w
end Go.Proofs.YtpbdmlipdfdblaaDoor

namespace Go.Proofs.YtpbdmlipdfdblaaDoor
open Go.RowKit Go.BigFrame Go.Lib

attribute [local go_sem] Oper.semAt_some

theorem pl_alu {op : Int} (h : cls op = 1) : ∃ p : Nat, pl op = (p : Int) ∧ p ≤ 12 ∧ 0 ≤ op ∧ op < 100 ∧ (op ≤ 12 → pl op = op) ∧ (12 < op → pl op = op - 16) := by
  refine ⟨(pl op).toNat, ?_⟩
  unfold cls at h
  unfold pl
  repeat' split at h
  all_goals first | (exfalso; omega) | skip
  all_goals (split <;> omega)
theorem pl_jump {op : Int} (h : cls op = 2) : ∃ p : Nat, pl op = (p : Int) + 32 ∧ p ≤ 9 ∧ 0 ≤ op ∧ op < 100 ∧ (op ≤ 41 → pl op = op) ∧ (41 < op → pl op = op - 16) := by
  refine ⟨(pl op - 32).toNat, ?_⟩
  unfold cls at h
  unfold pl
  repeat' split at h
  all_goals first | (exfalso; omega) | skip
  all_goals (split <;> omega)
theorem with_alu {op : Int} (h : cls op = 1) (w : World) : Calls Tryd.prog 91 #[.int .i64 op, .int .i64 12] w fun e w' => e = .returned (.int .i64 (pl op)) ∧ w' = w := by
  obtain ⟨p, _, _, h0, h1, h2, h3⟩ := pl_alu h
  rcases Int.lt_or_le 12 op with hl | hl
  · rw [h3 hl]; exact with_high hl h0 h1 w
  · rw [h2 hl]; exact with_low hl w
theorem with_jump {op : Int} (h : cls op = 2) (w : World) : Calls Tryd.prog 91 #[.int .i64 op, .int .i64 41] w fun e w' => e = .returned (.int .i64 (pl op)) ∧ w' = w := by
  obtain ⟨p, _, _, h0, h1, h2, h3⟩ := pl_jump h
  rcases Int.lt_or_le 41 op with hl | hl
  · rw [h3 hl]; exact with_high hl h0 h1 w
  · rw [h2 hl]; exact with_low hl w

theorem do_any {op : Int} (ho : fit op) {a b : Nat} (ha : W64 a) (hb : W64 b) (w : World) :
    Calls Tryd.prog 93 #[.int .i64 op, .int .u64 (a : Int), .int .u64 (b : Int)] w fun e w' => e = .returned (.tuple #[.int .u64 ((doV op a b : Nat) : Int), .int .i64 (doE op)]) ∧ Ch [] w w' := by
  have HY := Lib.hid (fun w => class_any ho.1 ho.2 w)
  by_cases h : cls op = 1
  · obtain ⟨p, hp, hl, _⟩ := pl_alu h
    have HX := Lib.hid (fun w => with_alu h w)
    have HS := Lib.hid (fun w => sum_any hl ha hb w)
    have e1 : doV op a b = doN p a b := by unfold doV; rw [if_pos h, hp]; rfl
    have e2 : doE op = 0 := by unfold doE; rw [if_pos h]
    rw [e1, e2]
    rw [hp] at HX
    rw [h] at HY
    generalize doN p a b = r at *
    clear e1 e2 h hp hl ha hb ho
    go_enter Tryd.func93, Tryd.ntmps93
    go_wp2_with (first
      | (with_reducible refine (HY.out _).mono ?_; rintro e w' ⟨rfl, rfl⟩)
      | (with_reducible refine (HX.out _).mono ?_; rintro e w' ⟨rfl, rfl⟩)
      | (with_reducible refine (HS.out _).mono ?_; rintro e w' ⟨rfl, hc⟩)
      | fail)
    go_ret2
    exact ⟨rfl, hc⟩
  · have e1 : doV op a b = 0 := by unfold doV; rw [if_neg h]
    have e2 : doE op = 11 := by unfold doE; rw [if_neg h]
    rw [e1, e2]
    have hn : (cls op != 1) = true := by simpa using h
    generalize cls op = c at *
    clear e1 e2 h ha hb ho
    go_enter Tryd.func93, Tryd.ntmps93
    go_wp2_with (first
      | (with_reducible refine (HY.out _).mono ?_; rintro e w' ⟨rfl, rfl⟩)
      | fail)
    go_ret2
    exact ⟨rfl, Ch.refl _ _⟩

theorem goes_0 {a b : Nat} (_ha : W64 a) (_hb : W64 b) (w : World) : Calls Tryd.prog 90 #[.int .i64 32, .int .u64 (a : Int), .int .u64 (b : Int)] w fun e w' => e = .returned (.bool (goN 0 a b)) ∧ w' = w := by
  go_enter Tryd.func90, Tryd.ntmps90
  go_wp2
  go_ret
  exact ⟨rfl, rfl⟩
theorem goes_1 {a b : Nat} (_ha : W64 a) (_hb : W64 b) (w : World) : Calls Tryd.prog 90 #[.int .i64 33, .int .u64 (a : Int), .int .u64 (b : Int)] w fun e w' => e = .returned (.bool (goN 1 a b)) ∧ w' = w := by
  have hr : goN 1 a b = ((a : Int) == (b : Int)) := by unfold goN; simp only; rw [Bool.eq_iff_iff]; simp <;> omega
  rw [hr]
  clear hr
  generalize (a : Int) = x at *
  generalize (b : Int) = y at *
  go_enter Tryd.func90, Tryd.ntmps90
  go_wp2
  go_ret
  exact ⟨rfl, rfl⟩
theorem goes_2 {a b : Nat} (_ha : W64 a) (_hb : W64 b) (w : World) : Calls Tryd.prog 90 #[.int .i64 34, .int .u64 (a : Int), .int .u64 (b : Int)] w fun e w' => e = .returned (.bool (goN 2 a b)) ∧ w' = w := by
  have hr : goN 2 a b = ((a : Int) != (b : Int)) := by unfold goN; simp only; rw [Bool.eq_iff_iff]; simp <;> omega
  rw [hr]
  clear hr
  generalize (a : Int) = x at *
  generalize (b : Int) = y at *
  go_enter Tryd.func90, Tryd.ntmps90
  go_wp2
  go_ret
  exact ⟨rfl, rfl⟩
theorem goes_3 {a b : Nat} (_ha : W64 a) (_hb : W64 b) (w : World) : Calls Tryd.prog 90 #[.int .i64 35, .int .u64 (a : Int), .int .u64 (b : Int)] w fun e w' => e = .returned (.bool (goN 3 a b)) ∧ w' = w := by
  have hr : goN 3 a b = decide ((b : Int) < (a : Int)) := by unfold goN; simp only; rw [Bool.eq_iff_iff]; simp <;> omega
  rw [hr]
  clear hr
  generalize (a : Int) = x at *
  generalize (b : Int) = y at *
  go_enter Tryd.func90, Tryd.ntmps90
  go_wp2
  go_ret
  exact ⟨rfl, rfl⟩
theorem goes_4 {a b : Nat} (_ha : W64 a) (_hb : W64 b) (w : World) : Calls Tryd.prog 90 #[.int .i64 36, .int .u64 (a : Int), .int .u64 (b : Int)] w fun e w' => e = .returned (.bool (goN 4 a b)) ∧ w' = w := by
  have hr : goN 4 a b = decide ((b : Int) ≤ (a : Int)) := by unfold goN; simp only; rw [Bool.eq_iff_iff]; simp <;> omega
  rw [hr]
  clear hr
  generalize (a : Int) = x at *
  generalize (b : Int) = y at *
  go_enter Tryd.func90, Tryd.ntmps90
  go_wp2
  go_ret
  exact ⟨rfl, rfl⟩
theorem goes_5 {a b : Nat} (_ha : W64 a) (_hb : W64 b) (w : World) : Calls Tryd.prog 90 #[.int .i64 37, .int .u64 (a : Int), .int .u64 (b : Int)] w fun e w' => e = .returned (.bool (goN 5 a b)) ∧ w' = w := by
  have hr : goN 5 a b = decide ((a : Int) < (b : Int)) := by unfold goN; simp only; rw [Bool.eq_iff_iff]; simp <;> omega
  rw [hr]
  clear hr
  generalize (a : Int) = x at *
  generalize (b : Int) = y at *
  go_enter Tryd.func90, Tryd.ntmps90
  go_wp2
  go_ret
  exact ⟨rfl, rfl⟩
theorem goes_6 {a b : Nat} (_ha : W64 a) (_hb : W64 b) (w : World) : Calls Tryd.prog 90 #[.int .i64 38, .int .u64 (a : Int), .int .u64 (b : Int)] w fun e w' => e = .returned (.bool (goN 6 a b)) ∧ w' = w := by
  have hr : goN 6 a b = decide ((a : Int) ≤ (b : Int)) := by unfold goN; simp only; rw [Bool.eq_iff_iff]; simp <;> omega
  rw [hr]
  clear hr
  generalize (a : Int) = x at *
  generalize (b : Int) = y at *
  go_enter Tryd.func90, Tryd.ntmps90
  go_wp2
  go_ret
  exact ⟨rfl, rfl⟩
theorem goes_7 {a b : Nat} (ha : W64 a) (hb : W64 b) (w : World) : Calls Tryd.prog 90 #[.int .i64 39, .int .u64 (a : Int), .int .u64 (b : Int)] w fun e w' => e = .returned (.bool (goN 7 a b)) ∧ w' = w := by
  obtain ⟨r, hr⟩ : ∃ r, r = a &&& b := ⟨_, rfl⟩
  have h1 : bits .and .u64 (a : Int) (b : Int) = (r : Int) := by rw [hr]; exact u64_and_nat a b ha hb
  have h2 : goN 7 a b = ((r : Int) != 0) := by show decide ((a &&& b) ≠ 0) = _; rw [← hr, Bool.eq_iff_iff]; simp
  rw [h2]
  generalize (r : Int) = x at *
  clear h2 hr ha hb
  go_enter Tryd.func90, Tryd.ntmps90
  go_wp2
  go_ret
  exact ⟨rfl, rfl⟩
theorem goes_8 {a b : Nat} (ha : W64 a) (hb : W64 b) (w : World) : Calls Tryd.prog 90 #[.int .i64 40, .int .u64 (a : Int), .int .u64 (b : Int)] w fun e w' => e = .returned (.bool (goN 8 a b)) ∧ w' = w := by
  obtain ⟨x, hx⟩ : ∃ x, x = sg a := ⟨_, rfl⟩
  obtain ⟨y, hy⟩ : ∃ y, y = sg b := ⟨_, rfl⟩
  have h1 : IntKind.i64.wrap (a : Int) = x := by rw [IntKind.wrap_i64, hx]; unfold sg; unfold W64 at ha; split <;> omega
  have h2 : IntKind.i64.wrap (b : Int) = y := by rw [IntKind.wrap_i64, hy]; unfold sg; unfold W64 at hb; split <;> omega
  have h3 : goN 8 a b = decide (y < x) := by rw [hx, hy]; rfl
  rw [h3]
  clear h3 hx hy ha hb
  go_enter Tryd.func90, Tryd.ntmps90
  go_wp2
  go_ret
  exact ⟨rfl, rfl⟩
theorem goes_9 {a b : Nat} (ha : W64 a) (hb : W64 b) (w : World) : Calls Tryd.prog 90 #[.int .i64 41, .int .u64 (a : Int), .int .u64 (b : Int)] w fun e w' => e = .returned (.bool (goN 9 a b)) ∧ w' = w := by
  obtain ⟨x, hx⟩ : ∃ x, x = sg a := ⟨_, rfl⟩
  obtain ⟨y, hy⟩ : ∃ y, y = sg b := ⟨_, rfl⟩
  have h1 : IntKind.i64.wrap (a : Int) = x := by rw [IntKind.wrap_i64, hx]; unfold sg; unfold W64 at ha; split <;> omega
  have h2 : IntKind.i64.wrap (b : Int) = y := by rw [IntKind.wrap_i64, hy]; unfold sg; unfold W64 at hb; split <;> omega
  have h3 : goN 9 a b = decide (x < y) := by rw [hx, hy]; rfl
  rw [h3]
  clear h3 hx hy ha hb
  go_enter Tryd.func90, Tryd.ntmps90
  go_wp2
  go_ret
  exact ⟨rfl, rfl⟩
theorem goes_any {p : Nat} (hp : p ≤ 9) {a b : Nat} (ha : W64 a) (hb : W64 b) (w : World) : Calls Tryd.prog 90 #[.int .i64 ((p : Int) + 32), .int .u64 (a : Int), .int .u64 (b : Int)] w fun e w' => e = .returned (.bool (goN p a b)) ∧ w' = w := by
  obtain (rfl | rfl | rfl | rfl | rfl | rfl | rfl | rfl | rfl | rfl) := (show p = 0 ∨ p = 1 ∨ p = 2 ∨ p = 3 ∨ p = 4 ∨ p = 5 ∨ p = 6 ∨ p = 7 ∨ p = 8 ∨ p = 9 by omega)
  · exact goes_0 ha hb w
  · exact goes_1 ha hb w
  · exact goes_2 ha hb w
  · exact goes_3 ha hb w
  · exact goes_4 ha hb w
  · exact goes_5 ha hb w
  · exact goes_6 ha hb w
  · exact goes_7 ha hb w
  · exact goes_8 ha hb w
  · exact goes_9 ha hb w

theorem jumps_any {op : Int} (ho : fit op) {a b : Nat} (ha : W64 a) (hb : W64 b) (w : World) :
    Calls Tryd.prog 82 #[.int .i64 op, .int .u64 (a : Int), .int .u64 (b : Int)] w fun e w' => e = .returned (.tuple #[.bool (goV op a b), .int .i64 (goE op)]) ∧ w' = w := by
  have HY := Lib.hid (fun w => class_any ho.1 ho.2 w)
  by_cases h : cls op = 2
  · obtain ⟨p, hp, hl, _⟩ := pl_jump h
    have HX := Lib.hid (fun w => with_jump h w)
    have HS := Lib.hid (fun w => goes_any hl ha hb w)
    have e1 : goV op a b = goN p a b := by unfold goV; rw [if_pos h, hp]; congr 1; omega
    have e2 : goE op = 0 := by unfold goE; rw [if_pos h]
    rw [e1, e2]
    rw [hp] at HX
    rw [h] at HY
    generalize goN p a b = r at *
    generalize (p : Int) + 32 = q at *
    clear e1 e2 h hp hl ha hb ho
    go_enter Tryd.func82, Tryd.ntmps82
    go_wp2_with (first
      | (with_reducible refine (HY.out _).mono ?_; rintro e w' ⟨rfl, rfl⟩)
      | (with_reducible refine (HX.out _).mono ?_; rintro e w' ⟨rfl, rfl⟩)
      | (with_reducible refine (HS.out _).mono ?_; rintro e w' ⟨rfl, rfl⟩)
      | fail)
    go_ret2
    exact ⟨rfl, rfl⟩
  · have e1 : goV op a b = false := by unfold goV; rw [if_neg h]
    have e2 : goE op = 11 := by unfold goE; rw [if_neg h]
    rw [e1, e2]
    have hn : (cls op != 2) = true := by simpa using h
    generalize cls op = c at *
    clear e1 e2 h ha hb ho
    go_enter Tryd.func82, Tryd.ntmps82
    go_wp2_with (first
      | (with_reducible refine (HY.out _).mono ?_; rintro e w' ⟨rfl, rfl⟩)
      | fail)
    go_ret2
    exact ⟨rfl, rfl⟩

/-- A number as a word. -/
def wdN (n : Int) : Nat := (n % 18446744073709551616).toNat
theorem wdN_lt (n : Int) : W64 (wdN n) := by
  unfold wdN W64
  omega
theorem word_any (n : Int) (w : World) : Calls Tryd.prog 92 #[.int .i64 n] w fun e w' => e = .returned (.int .u64 ((wdN n : Nat) : Int)) ∧ w' = w := by
  have h1 : IntKind.u64.wrap n = ((wdN n : Nat) : Int) := by rw [IntKind.wrap_u64]; unfold wdN; omega
  go_enter Tryd.func92, Tryd.ntmps92
  go_wp2
  go_ret
  exact ⟨rfl, rfl⟩
end Go.Proofs.YtpbdmlipdfdblaaDoor
