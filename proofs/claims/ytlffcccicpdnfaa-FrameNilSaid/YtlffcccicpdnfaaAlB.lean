/-
  The program's sums: withNumber, divided, sum, Do.
-/
import Derived.Test.YtlffcccicpdnfaaAlA
import Derived.BigQuiet
namespace Go.Proofs.Ytlffcccicpdnfaa
open Go.RowKit Go.BigFrame

attribute [local go_sem] Oper.semAt_some

theorem with_low {op last : Int} (h : op ≤ last) (w : World) : Calls Try.prog 52 #[.int .i64 op, .int .i64 last] w fun e w' => e = .returned (.int .i64 op) ∧ w' = w := by
  have hd : decide (op > last) = false := decide_eq_false (by omega)
  clear h
  go_enter Try.func52, Try.ntmps52
  go_wp2
  go_ret
  exact ⟨rfl, rfl⟩
theorem with_high {op last : Int} (h : last < op) (h0 : 0 ≤ op) (h1 : op < 100) (w : World) : Calls Try.prog 52 #[.int .i64 op, .int .i64 last] w fun e w' => e = .returned (.int .i64 (op - 16)) ∧ w' = w := by
  have hd : decide (op > last) = true := decide_eq_true (by omega)
  have hw : IntKind.i64.wrap (op - 16) = op - 16 := by rw [IntKind.wrap_i64]; omega
  clear h h0 h1
  go_enter Try.func52, Try.ntmps52
  go_wp2
  go_ret
  exact ⟨rfl, rfl⟩

/-- The closure: 0, and all is rest. -/
theorem undiv_any {a : Nat} {A : Nat} {w : World} (hc : w.cell? ⟨A, 0, none⟩ = some (.int .u64 (a : Int))) :
    Calls Try.prog 58 #[.pointer (some ⟨A, 0, none⟩)] w fun e w' => e = .returned (.tuple #[.int .u64 0, .int .u64 (a : Int)]) ∧ ∃ n, w' = w.drewN n := by
  go_enter Try.func58, Try.ntmps58
  go_wp2
  go_quiet (fail)
  go_wp2
  go_ret2
  exact ⟨rfl, _, rfl⟩

theorem div_zero {a A : Nat} {w : World} (hc : w.cell? ⟨A, 0, none⟩ = some (.int .u64 (a : Int))) :
    Calls Try.prog 57 #[.int .u64 (a : Int), .int .u64 0, .func (.func 58) #[] #[.pointer (some ⟨A, 0, none⟩)]] w fun e w' => e = .returned (.tuple #[.int .u64 0, .int .u64 (a : Int)]) ∧ ∃ n, w' = w.drewN n := by
  have HU := Lib.hid (undiv_any hc)
  clear hc
  go_enter Try.func57, Try.ntmps57
  go_wp2_with (with_reducible refine HU.out.mono ?_; rintro e w' ⟨rfl, hw⟩)
  go_ret2
  exact ⟨rfl, hw⟩
theorem div_some {a b : Nat} (ha : W64 a) (hb : b ≠ 0) (F : Value) (w : World) :
    Calls Try.prog 57 #[.int .u64 (a : Int), .int .u64 (b : Int), F] w fun e w' => e = .returned (.tuple #[.int .u64 ((a / b : Nat) : Int), .int .u64 ((a % b : Nat) : Int)]) ∧ ∃ n, w' = w.drewN n := by
  obtain ⟨q, hq⟩ : ∃ q, q = a / b := ⟨_, rfl⟩
  obtain ⟨r, hr⟩ : ∃ r, r = a % b := ⟨_, rfl⟩
  have hql : q < 18446744073709551616 := by rw [hq]; exact Nat.lt_of_le_of_lt (Nat.div_le_self _ _) ha
  rw [← hq, ← hr]
  have h0 : ((b : Int) == 0) = false := by rw [beq_eq_false_iff_ne]; omega
  have hz : ¬ (b : Int) = 0 := by omega
  have hd : (a : Int).tdiv (b : Int) = (q : Int) := by rw [hq]; rfl
  have hm : (a : Int).tmod (b : Int) = (r : Int) := by rw [hr]; rfl
  have hw : IntKind.u64.wrap (q : Int) = (q : Int) := by rw [IntKind.wrap_u64]; omega
  clear hq hr hql ha hb
  go_enter Try.func57, Try.ntmps57
  go_wp2
  go_quiet (fail)
  go_wp2
  go_ret2
  exact ⟨rfl, _, rfl⟩
end Go.Proofs.Ytlffcccicpdnfaa
