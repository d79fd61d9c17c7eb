/-
  The program's with, filled, bounded, Check.
-/
import Derived.Test.YtlffcccicpdnfaaIsB
import Derived.BigQuiet
namespace Go.Proofs.Ytlffcccicpdnfaa
open Go.RowKit Go.BigFrame

attribute [local go_sem] Oper.semAt_some

/-- An instruction as a value; its numbers fit. -/
def iv (x : I5) : Value := .agg #[.int .i64 x.op, .int .i64 x.d, .int .i64 x.s, .int .i64 x.o, .int .i64 x.i]
def fit (n : Int) : Prop := -9223372036854775808 ≤ n ∧ n ≤ 9223372036854775807
structure Fit (x : I5) : Prop where
  op : fit x.op
  d : fit x.d
  s : fit x.s
  o : fit x.o
  i : fit x.i

set_option maxHeartbeats 4000000 in
theorem with_any (a b c d p q r s : Bool) (w : World) :
    Calls Try.prog 47 #[.agg #[.bool a, .bool b, .bool c, .bool d], .agg #[.bool p, .bool q, .bool r, .bool s]] w fun e w' => e = .returned (.agg #[.bool (a || p), .bool (b || q), .bool (c || r), .bool (d || s)]) ∧ Ch [] w w' := by
  cases a <;> cases b <;> cases c <;> cases d
  all_goals
    go_enter Try.func47, Try.ntmps47
    go_wp2
    refine post_val ?_ rfl ((((Ch.refl [] _).alloc _).alloc _).alloc _)
    simp [results, Try.f47, go_sem]

theorem filled_any (op d s o i : Int) (w : World) :
    Calls Try.prog 48 #[.agg #[.int .i64 op, .int .i64 d, .int .i64 s, .int .i64 o, .int .i64 i]] w fun e w' => e = .returned (.agg #[.bool (d != 0), .bool (s != 0), .bool (o != 0), .bool (i != 0)]) ∧ Ch [] w w' := by
  obtain ⟨b1, h1⟩ : ∃ b, (d != 0) = b := ⟨_, rfl⟩
  obtain ⟨b2, h2⟩ : ∃ b, (s != 0) = b := ⟨_, rfl⟩
  obtain ⟨b3, h3⟩ : ∃ b, (o != 0) = b := ⟨_, rfl⟩
  obtain ⟨b4, h4⟩ : ∃ b, (i != 0) = b := ⟨_, rfl⟩
  rw [h1, h2, h3, h4]
  go_enter Try.func48, Try.ntmps48
  go_wp2
  refine post_val ?_ rfl (((Ch.refl [] _).alloc _).alloc _)
  simp [results, Try.f48, go_sem]

theorem bounded_any (op d s o i : Int) (w : World) :
    Calls Try.prog 46 #[.agg #[.int .i64 op, .int .i64 d, .int .i64 s, .int .i64 o, .int .i64 i]] w fun e w' => e = .returned (.bool (decide (inB ⟨op, d, s, o, i⟩))) ∧ Ch [] w w' := by
  obtain ⟨b1, h1⟩ : ∃ b, (decide (0 ≤ d) && decide (d ≤ 9)) = b := ⟨_, rfl⟩
  obtain ⟨b2, h2⟩ : ∃ b, (decide (0 ≤ s) && decide (s ≤ 9)) = b := ⟨_, rfl⟩
  obtain ⟨b3, h3⟩ : ∃ b, (decide (-32768 ≤ o) && decide (o ≤ 32767)) = b := ⟨_, rfl⟩
  obtain ⟨b4, h4⟩ : ∃ b, (decide (-2147483648 ≤ i) && decide (i ≤ 2147483647)) = b := ⟨_, rfl⟩
  have hR : decide (inB ⟨op, d, s, o, i⟩) = (b1 && b2 && b3 && b4) := by
    rw [← h1, ← h2, ← h3, ← h4]
    rw [Bool.eq_iff_iff, decide_eq_true_iff]
    simp [inB, and_assoc]
  rw [hR]
  have H1 := Lib.hid (fun w => within_any d 0 9 w)
  have H2 := Lib.hid (fun w => within_any s 0 9 w)
  have H3 := Lib.hid (fun w => within_any o (-32768) 32767 w)
  have H4 := Lib.hid (fun w => within_any i (-2147483648) 2147483647 w)
  rw [h1] at H1
  rw [h2] at H2
  rw [h3] at H3
  rw [h4] at H4
  clear h1 h2 h3 h4 hR
  cases b1 <;> cases b2 <;> cases b3 <;> cases b4
  all_goals
    go_enter Try.func46, Try.ntmps46
    go_wp2_with (first
      | (with_reducible refine (H1.out _).mono ?_; rintro e w' ⟨rfl, rfl⟩)
      | (with_reducible refine (H2.out _).mono ?_; rintro e w' ⟨rfl, rfl⟩)
      | (with_reducible refine (H3.out _).mono ?_; rintro e w' ⟨rfl, rfl⟩)
      | (with_reducible refine (H4.out _).mono ?_; rintro e w' ⟨rfl, rfl⟩)
      | fail)
    go_ret
    exact ⟨rfl, (Ch.refl [] _).alloc _⟩

end Go.Proofs.Ytlffcccicpdnfaa
