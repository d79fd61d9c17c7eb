/-
  The program's sum at each plain operation (written by gen/sum16.py), Do.
-/
import Derived.Test.YtlffcccicpdnfaaAlB
namespace Go.Proofs.Ytlffcccicpdnfaa
open Go.RowKit Go.BigFrame Go.Lib

attribute [local go_sem] Oper.semAt_some

theorem sum_0 {a b : Nat} (_ha : W64 a) (_hb : W64 b) (w : World) : Calls Try.prog 56 #[.int .i64 0, .int .u64 (a : Int), .int .u64 (b : Int)] w fun e w' => e = .returned (.int .u64 ((doN 0 a b : Nat) : Int)) ∧ Ch [] w w' := by
  obtain ⟨r, hr⟩ : ∃ r, r = doN 0 a b := ⟨_, rfl⟩
  rw [← hr]
  have h1 : IntKind.u64.wrap ((a : Int) + (b : Int)) = (r : Int) := by rw [IntKind.wrap_u64, hr]; unfold doN; simp only; omega
  clear hr _ha _hb
  go_enter Try.func56, Try.ntmps56
  go_wp2
  go_ret
  exact ⟨rfl, (Ch.refl [] _).alloc _⟩
theorem sum_1 {a b : Nat} (_ha : W64 a) (hb : W64 b) (w : World) : Calls Try.prog 56 #[.int .i64 1, .int .u64 (a : Int), .int .u64 (b : Int)] w fun e w' => e = .returned (.int .u64 ((doN 1 a b : Nat) : Int)) ∧ Ch [] w w' := by
  obtain ⟨r, hr⟩ : ∃ r, r = doN 1 a b := ⟨_, rfl⟩
  rw [← hr]
  have h1 : IntKind.u64.wrap ((a : Int) - (b : Int)) = (r : Int) := by rw [IntKind.wrap_u64, hr]; unfold doN; simp only; unfold W64 at hb; omega
  clear hr _ha hb
  go_enter Try.func56, Try.ntmps56
  go_wp2
  go_ret
  exact ⟨rfl, (Ch.refl [] _).alloc _⟩
theorem sum_2 {a b : Nat} (_ha : W64 a) (_hb : W64 b) (w : World) : Calls Try.prog 56 #[.int .i64 2, .int .u64 (a : Int), .int .u64 (b : Int)] w fun e w' => e = .returned (.int .u64 ((doN 2 a b : Nat) : Int)) ∧ Ch [] w w' := by
  obtain ⟨r, hr⟩ : ∃ r, r = doN 2 a b := ⟨_, rfl⟩
  rw [← hr]
  have h1 : IntKind.u64.wrap ((a : Int) * (b : Int)) = (r : Int) := by rw [IntKind.wrap_u64, hr, ← Int.natCast_mul]; unfold doN; simp only; generalize a * b = x; omega
  clear hr _ha _hb
  go_enter Try.func56, Try.ntmps56
  go_wp2
  go_ret
  exact ⟨rfl, (Ch.refl [] _).alloc _⟩
theorem sum_3 {a b : Nat} (ha : W64 a) (_hb : W64 b) (w : World) : Calls Try.prog 56 #[.int .i64 3, .int .u64 (a : Int), .int .u64 (b : Int)] w fun e w' => e = .returned (.int .u64 ((doN 3 a b : Nat) : Int)) ∧ Ch [] w w' := by
  by_cases h : b = 0
  · subst h
    have e : doN 3 a 0 = 0 := by unfold doN; simp
    rw [e]
    have HC := Lib.hid (div_zero (a := a) (A := w.heap.size) (w := w.alloc (.cells #[.int .u64 (a : Int)] 27)) (by rw [World.cell?_alloc_at _ _ _ _ rfl]; rfl))
    clear e ha
    go_enter Try.func56, Try.ntmps56
    go_wp2_with (first | (with_reducible refine HC.out.mono ?_; rintro e w' ⟨rfl, n, rfl⟩) | fail)
    go_ret
    exact ⟨rfl, ((Ch.refl [] _).alloc _).drewN n⟩
  · have e : doN 3 a b = a / b := rfl
    rw [e]
    have HC := Lib.hid (fun F w => div_some ha h F w)
    generalize a / b = q at *
    generalize a % b = r at *
    clear e ha h
    go_enter Try.func56, Try.ntmps56
    go_wp2_with (first | (with_reducible refine (HC.out _ _).mono ?_; rintro e w' ⟨rfl, n, rfl⟩) | fail)
    go_ret
    exact ⟨rfl, ((Ch.refl [] _).alloc _).drewN n⟩
theorem sum_4 {a b : Nat} (ha : W64 a) (_hb : W64 b) (w : World) : Calls Try.prog 56 #[.int .i64 4, .int .u64 (a : Int), .int .u64 (b : Int)] w fun e w' => e = .returned (.int .u64 ((doN 4 a b : Nat) : Int)) ∧ Ch [] w w' := by
  by_cases h : b = 0
  · subst h
    have e : doN 4 a 0 = a := by unfold doN; simp
    rw [e]
    have HC := Lib.hid (div_zero (a := a) (A := w.heap.size) (w := w.alloc (.cells #[.int .u64 (a : Int)] 27)) (by rw [World.cell?_alloc_at _ _ _ _ rfl]; rfl))
    clear e ha
    go_enter Try.func56, Try.ntmps56
    go_wp2_with (first | (with_reducible refine HC.out.mono ?_; rintro e w' ⟨rfl, n, rfl⟩) | fail)
    go_ret
    exact ⟨rfl, ((Ch.refl [] _).alloc _).drewN n⟩
  · have e : doN 4 a b = a % b := rfl
    rw [e]
    have HC := Lib.hid (fun F w => div_some ha h F w)
    generalize a / b = q at *
    generalize a % b = r at *
    clear e ha h
    go_enter Try.func56, Try.ntmps56
    go_wp2_with (first | (with_reducible refine (HC.out _ _).mono ?_; rintro e w' ⟨rfl, n, rfl⟩) | fail)
    go_ret
    exact ⟨rfl, ((Ch.refl [] _).alloc _).drewN n⟩
theorem sum_5 {a b : Nat} (ha : W64 a) (hb : W64 b) (w : World) : Calls Try.prog 56 #[.int .i64 5, .int .u64 (a : Int), .int .u64 (b : Int)] w fun e w' => e = .returned (.int .u64 ((doN 5 a b : Nat) : Int)) ∧ Ch [] w w' := by
  obtain ⟨r, hr⟩ : ∃ r, r = doN 5 a b := ⟨_, rfl⟩
  rw [← hr]
  have h1 : bits .and .u64 (a : Int) (b : Int) = (r : Int) := by rw [hr]; exact u64_and_nat a b ha hb
  clear hr ha hb
  go_enter Try.func56, Try.ntmps56
  go_wp2
  go_ret
  exact ⟨rfl, (Ch.refl [] _).alloc _⟩
theorem sum_6 {a b : Nat} (ha : W64 a) (hb : W64 b) (w : World) : Calls Try.prog 56 #[.int .i64 6, .int .u64 (a : Int), .int .u64 (b : Int)] w fun e w' => e = .returned (.int .u64 ((doN 6 a b : Nat) : Int)) ∧ Ch [] w w' := by
  obtain ⟨r, hr⟩ : ∃ r, r = doN 6 a b := ⟨_, rfl⟩
  rw [← hr]
  have h1 : bits .or .u64 (a : Int) (b : Int) = (r : Int) := by rw [hr]; exact u64_or_nat a b ha hb
  clear hr ha hb
  go_enter Try.func56, Try.ntmps56
  go_wp2
  go_ret
  exact ⟨rfl, (Ch.refl [] _).alloc _⟩
theorem sum_7 {a b : Nat} (ha : W64 a) (hb : W64 b) (w : World) : Calls Try.prog 56 #[.int .i64 7, .int .u64 (a : Int), .int .u64 (b : Int)] w fun e w' => e = .returned (.int .u64 ((doN 7 a b : Nat) : Int)) ∧ Ch [] w w' := by
  obtain ⟨r, hr⟩ : ∃ r, r = doN 7 a b := ⟨_, rfl⟩
  rw [← hr]
  have h1 : bits .xor .u64 (a : Int) (b : Int) = (r : Int) := by rw [hr]; exact u64_xor_nat a b ha hb
  clear hr ha hb
  go_enter Try.func56, Try.ntmps56
  go_wp2
  go_ret
  exact ⟨rfl, (Ch.refl [] _).alloc _⟩
theorem sum_8 {a b : Nat} (_ha : W64 a) (_hb : W64 b) (w : World) : Calls Try.prog 56 #[.int .i64 8, .int .u64 (a : Int), .int .u64 (b : Int)] w fun e w' => e = .returned (.int .u64 ((doN 8 a b : Nat) : Int)) ∧ Ch [] w w' := by
  obtain ⟨r, hr⟩ : ∃ r, r = doN 8 a b := ⟨_, rfl⟩
  rw [← hr]
  obtain ⟨s, hs⟩ : ∃ s, s = b % 64 := ⟨_, rfl⟩
  have h0 : (b : Int).tmod 64 = (s : Int) := by rw [hs]; rfl
  have h1 : IntKind.u64.wrap ((a : Int) * 2 ^ s) = (r : Int) := by rw [IntKind.wrap_u64, hr, show (2 : Int) ^ s = ((2 ^ s : Nat) : Int) by simp, ← Int.natCast_mul]; unfold doN; simp only; rw [← hs]; generalize a * 2 ^ s = x; omega
  have h2 : (s : Int) ≤ 64 := by omega
  have h3 : s ≤ 64 := by omega
  clear hs
  clear hr _ha _hb
  go_enter Try.func56, Try.ntmps56
  go_wp2
  go_ret
  exact ⟨rfl, (Ch.refl [] _).alloc _⟩
theorem sum_9 {a b : Nat} (_ha : W64 a) (_hb : W64 b) (w : World) : Calls Try.prog 56 #[.int .i64 9, .int .u64 (a : Int), .int .u64 (b : Int)] w fun e w' => e = .returned (.int .u64 ((doN 9 a b : Nat) : Int)) ∧ Ch [] w w' := by
  obtain ⟨r, hr⟩ : ∃ r, r = doN 9 a b := ⟨_, rfl⟩
  rw [← hr]
  obtain ⟨s, hs⟩ : ∃ s, s = b % 64 := ⟨_, rfl⟩
  have h0 : (b : Int).tmod 64 = (s : Int) := by rw [hs]; rfl
  have h1 : (a : Int) / 2 ^ s = (r : Int) := by rw [hr, show (2 : Int) ^ s = ((2 ^ s : Nat) : Int) by simp, ← Int.natCast_ediv, hs]; rfl
  have h2 : (s : Int) ≤ 64 := by omega
  have h3 : s ≤ 64 := by omega
  clear hs
  clear hr _ha _hb
  go_enter Try.func56, Try.ntmps56
  go_wp2
  go_ret
  exact ⟨rfl, (Ch.refl [] _).alloc _⟩
theorem sum_10 {a b : Nat} (ha : W64 a) (_hb : W64 b) (w : World) : Calls Try.prog 56 #[.int .i64 10, .int .u64 (a : Int), .int .u64 (b : Int)] w fun e w' => e = .returned (.int .u64 ((doN 10 a b : Nat) : Int)) ∧ Ch [] w w' := by
  obtain ⟨r, hr⟩ : ∃ r, r = doN 10 a b := ⟨_, rfl⟩
  rw [← hr]
  obtain ⟨s, hs⟩ : ∃ s, s = b % 64 := ⟨_, rfl⟩
  obtain ⟨g, hg⟩ : ∃ g, g = sg a := ⟨_, rfl⟩
  obtain ⟨t, ht⟩ : ∃ t, t = g / 2 ^ s := ⟨_, rfl⟩
  have h0 : (b : Int).tmod 64 = (s : Int) := by rw [hs]; rfl
  have h5 : IntKind.i64.wrap (a : Int) = g := by rw [IntKind.wrap_i64, hg]; unfold sg; unfold W64 at ha; split <;> omega
  have h1 : IntKind.u64.wrap t = (r : Int) := by rw [IntKind.wrap_u64, hr]; unfold doN arN; simp only; rw [← hs, ← hg, ← ht]; omega
  have h6 : g / 2 ^ s = t := ht.symm
  have h2 : (s : Int) ≤ 64 := by omega
  have h3 : s ≤ 64 := by omega
  clear hs hg ht
  clear hr ha _hb
  go_enter Try.func56, Try.ntmps56
  go_wp2
  go_ret
  exact ⟨rfl, (Ch.refl [] _).alloc _⟩
theorem sum_11 {a b : Nat} (_ha : W64 a) (_hb : W64 b) (w : World) : Calls Try.prog 56 #[.int .i64 11, .int .u64 (a : Int), .int .u64 (b : Int)] w fun e w' => e = .returned (.int .u64 ((doN 11 a b : Nat) : Int)) ∧ Ch [] w w' := by
  go_enter Try.func56, Try.ntmps56
  go_wp2
  go_ret
  exact ⟨rfl, (Ch.refl [] _).alloc _⟩
theorem sum_12 {a b : Nat} (ha : W64 a) (_hb : W64 b) (w : World) : Calls Try.prog 56 #[.int .i64 12, .int .u64 (a : Int), .int .u64 (b : Int)] w fun e w' => e = .returned (.int .u64 ((doN 12 a b : Nat) : Int)) ∧ Ch [] w w' := by
  obtain ⟨r, hr⟩ : ∃ r, r = doN 12 a b := ⟨_, rfl⟩
  rw [← hr]
  have h1 : IntKind.u64.wrap (-(a : Int)) = (r : Int) := by rw [IntKind.wrap_u64, hr]; unfold doN; simp only; unfold W64 at ha; omega
  clear hr ha _hb
  go_enter Try.func56, Try.ntmps56
  go_wp2
  go_ret
  exact ⟨rfl, (Ch.refl [] _).alloc _⟩

theorem sum_any {p : Nat} (hp : p ≤ 12) {a b : Nat} (ha : W64 a) (hb : W64 b) (w : World) : Calls Try.prog 56 #[.int .i64 (p : Int), .int .u64 (a : Int), .int .u64 (b : Int)] w fun e w' => e = .returned (.int .u64 ((doN p a b : Nat) : Int)) ∧ Ch [] w w' := by
  obtain (rfl | rfl | rfl | rfl | rfl | rfl | rfl | rfl | rfl | rfl | rfl | rfl | rfl) := (show p = 0 ∨ p = 1 ∨ p = 2 ∨ p = 3 ∨ p = 4 ∨ p = 5 ∨ p = 6 ∨ p = 7 ∨ p = 8 ∨ p = 9 ∨ p = 10 ∨ p = 11 ∨ p = 12 by omega)
  · exact sum_0 ha hb w
  · exact sum_1 ha hb w
  · exact sum_2 ha hb w
  · exact sum_3 ha hb w
  · exact sum_4 ha hb w
  · exact sum_5 ha hb w
  · exact sum_6 ha hb w
  · exact sum_7 ha hb w
  · exact sum_8 ha hb w
  · exact sum_9 ha hb w
  · exact sum_10 ha hb w
  · exact sum_11 ha hb w
  · exact sum_12 ha hb w
end Go.Proofs.Ytlffcccicpdnfaa
