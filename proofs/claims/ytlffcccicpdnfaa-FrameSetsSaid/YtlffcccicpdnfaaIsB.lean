/-
  The program's plain, Class, Name, used, with, filled, within, bounded.
-/
import Derived.Test.YtlffcccicpdnfaaIsA
import Derived.Test.YtlffcccicpdnfaaBase
namespace Go.Proofs.Ytlffcccicpdnfaa
open Go.RowKit

theorem cls_pl (op : Int) : cls op = if 0 ≤ pl op ∧ pl op ≤ 12 then 1 else if 32 ≤ pl op ∧ pl op ≤ 41 then 2 else if 64 ≤ pl op ∧ pl op ≤ 67 then 3 else if pl op = 72 ∨ pl op = 73 then 4 else 0 := by
  unfold cls pl
  repeat' split
  all_goals omega

theorem cls_cases (op : Int) : cls op = 0 ∨ cls op = 1 ∨ cls op = 2 ∨ cls op = 3 ∨ cls op = 4 := by
  unfold cls
  repeat' split
  all_goals omega

theorem plain_any {op : Int} (h0 : -9223372036854775808 ≤ op) (h1 : op ≤ 9223372036854775807) (w : World) : Calls Try.prog 49 #[.int .i64 op] w fun e w' => e = .returned (.int .i64 (pl op)) ∧ w' = w := by
  obtain ⟨p, hp⟩ : ∃ p, p = pl op := ⟨_, rfl⟩
  rw [← hp]
  have HP := Lib.hid hp
  have HB := Lib.hid (And.intro h0 h1)
  clear hp h0 h1
  by_cases hr : (16 ≤ op ∧ op ≤ 27) ∨ (49 ≤ op ∧ op ≤ 57)
  · have hw : IntKind.i64.wrap (op - 16) = op - 16 := by rw [IntKind.wrap_i64]; omega
    have HR := Lib.hid hr
    clear hr
    go_enter Try.func49, Try.ntmps49
    go_wp2_with fail
    all_goals
      go_ret
      refine ⟨?_, rfl⟩
      have hr := HR.out
      have hp := HP.out
      unfold pl at hp
      rw [if_pos hr] at hp
      exact congrArg (fun z => Ending.returned (.int .i64 z)) (by omega)
  · have HR := Lib.hid hr
    clear hr
    go_enter Try.func49, Try.ntmps49
    go_wp2_with fail
    all_goals
      go_ret
      refine ⟨?_, rfl⟩
      have hr := HR.out
      have hp := HP.out
      unfold pl at hp
      rw [if_neg hr] at hp
      exact congrArg (fun z => Ending.returned (.int .i64 z)) (by omega)

theorem within_any (n a b : Int) (w : World) : Calls Try.prog 55 #[.int .i64 n, .int .i64 a, .int .i64 b] w fun e w' => e = .returned (.bool (decide (a ≤ n) && decide (n ≤ b))) ∧ w' = w := by
  obtain ⟨p, hp⟩ : ∃ p, p = decide (n ≤ b) := ⟨_, rfl⟩
  rw [← hp]
  have HP := Lib.hid hp
  clear hp
  by_cases h : a ≤ n
  · have hd : decide (a ≤ n) = true := decide_eq_true h
    clear h
    rw [hd, Bool.true_and]
    go_enter Try.func55, Try.ntmps55
    go_wp2_with fail
    go_ret
    exact ⟨congrArg (fun z => Ending.returned (.bool z)) HP.out.symm, rfl⟩
  · have hd : decide (a ≤ n) = false := decide_eq_false h
    clear h
    rw [hd, Bool.false_and]
    go_enter Try.func55, Try.ntmps55
    go_wp2_with fail
    go_ret
    exact ⟨rfl, rfl⟩

theorem class_any {op : Int} (h0 : -9223372036854775808 ≤ op) (h1 : op ≤ 9223372036854775807) (w : World) : Calls Try.prog 38 #[.int .i64 op] w fun e w' => e = .returned (.int .i64 (cls op)) ∧ w' = w := by
  have hc := cls_pl op
  have HX := Lib.hid (fun w => plain_any h0 h1 w)
  generalize pl op = p at *
  generalize cls op = c at *
  have HC := Lib.hid hc
  clear hc h0 h1
  go_enter Try.func38, Try.ntmps38
  go_wp2_with (with_reducible refine (HX.out _).mono ?_; rintro e w' ⟨rfl, rfl⟩)
  all_goals
    go_ret
    refine ⟨?_, rfl⟩
    have hc := HC.out
    clear HC HX
    try simp only [beq_iff_eq, beq_eq_false_iff_ne, ne_eq] at *
    exact congrArg (fun z => Ending.returned (.int .i64 z)) (by omega)

/-- The end of a call whose answer is a struct in memory. -/
theorem post_val {P : Program} {fn : Func} {V : Value} {S : List Nat} {w0 w : World} {a : Act} (hr : (results fn a.tmps).run P w = .ok V w) (hd : a.defers = []) (hc : Ch S w0 w) : bodyPost P fn (fun e w' => e = .returned V ∧ Ch S w0 w') .ret a w := bodyPost_ret hr hd ⟨rfl, hc⟩
/-- What an operation uses, by its class. -/
theorem used1 {op p : Int} (b1 b2 : Bool) (h1 : (p != op) = b1) (h2 : (op != 12) = b2) (HX : Hid (∀ w, Calls Try.prog 49 #[.int .i64 op] w fun e w' => e = .returned (.int .i64 p) ∧ w' = w)) (HY : Hid (∀ w, Calls Try.prog 38 #[.int .i64 op] w fun e w' => e = .returned (.int .i64 1) ∧ w' = w)) (w : World) :
    Calls Try.prog 45 #[.int .i64 op] w fun e w' => e = .returned (.agg #[.bool (true), .bool (b1), .bool (false), .bool (!b1 && b2)]) ∧ Ch [] w w' := by
  cases b1 <;> cases b2
  all_goals
    go_enter Try.func45, Try.ntmps45
    go_wp2_with (first
      | (with_reducible refine (HY.out _).mono ?_; rintro e w' ⟨rfl, rfl⟩)
      | (with_reducible refine (HX.out _).mono ?_; rintro e w' ⟨rfl, rfl⟩)
      | fail)
    refine post_val ?_ rfl ((Ch.refl [] _).alloc _)
    simp [results, Try.f45, go_sem]
theorem used2 {op p : Int} (b1 b2 : Bool) (h1 : (p != op) = b1) (h2 : (op != 32) = b2) (HX : Hid (∀ w, Calls Try.prog 49 #[.int .i64 op] w fun e w' => e = .returned (.int .i64 p) ∧ w' = w)) (HY : Hid (∀ w, Calls Try.prog 38 #[.int .i64 op] w fun e w' => e = .returned (.int .i64 2) ∧ w' = w)) (w : World) :
    Calls Try.prog 45 #[.int .i64 op] w fun e w' => e = .returned (.agg #[.bool (b2), .bool (b1), .bool (true), .bool (!b1 && b2)]) ∧ Ch [] w w' := by
  cases b1 <;> cases b2
  all_goals
    go_enter Try.func45, Try.ntmps45
    go_wp2_with (first
      | (with_reducible refine (HY.out _).mono ?_; rintro e w' ⟨rfl, rfl⟩)
      | (with_reducible refine (HX.out _).mono ?_; rintro e w' ⟨rfl, rfl⟩)
      | fail)
    refine post_val ?_ rfl ((Ch.refl [] _).alloc _)
    simp [results, Try.f45, go_sem]
theorem used3 {op p : Int} (b1 b2 : Bool) (h1 : (op != 65) = b1) (h2 : (op != 64) = b2) (HX : Hid (∀ w, Calls Try.prog 49 #[.int .i64 op] w fun e w' => e = .returned (.int .i64 p) ∧ w' = w)) (HY : Hid (∀ w, Calls Try.prog 38 #[.int .i64 op] w fun e w' => e = .returned (.int .i64 3) ∧ w' = w)) (w : World) :
    Calls Try.prog 45 #[.int .i64 op] w fun e w' => e = .returned (.agg #[.bool (b1), .bool (b2), .bool (true), .bool (false)]) ∧ Ch [] w w' := by
  cases b1 <;> cases b2
  all_goals
    go_enter Try.func45, Try.ntmps45
    go_wp2_with (first
      | (with_reducible refine (HY.out _).mono ?_; rintro e w' ⟨rfl, rfl⟩)
      | (with_reducible refine (HX.out _).mono ?_; rintro e w' ⟨rfl, rfl⟩)
      | fail)
    refine post_val ?_ rfl ((Ch.refl [] _).alloc _)
    simp [results, Try.f45, go_sem]
theorem used4 {op p : Int} (b1 : Bool) (h1 : (op == 72) = b1) (HX : Hid (∀ w, Calls Try.prog 49 #[.int .i64 op] w fun e w' => e = .returned (.int .i64 p) ∧ w' = w)) (HY : Hid (∀ w, Calls Try.prog 38 #[.int .i64 op] w fun e w' => e = .returned (.int .i64 4) ∧ w' = w)) (w : World) :
    Calls Try.prog 45 #[.int .i64 op] w fun e w' => e = .returned (.agg #[.bool (false), .bool (false), .bool (false), .bool (b1)]) ∧ Ch [] w w' := by
  cases b1
  all_goals
    go_enter Try.func45, Try.ntmps45
    go_wp2_with (first
      | (with_reducible refine (HY.out _).mono ?_; rintro e w' ⟨rfl, rfl⟩)
      | (with_reducible refine (HX.out _).mono ?_; rintro e w' ⟨rfl, rfl⟩)
      | fail)
    refine post_val ?_ rfl ((Ch.refl [] _).alloc _)
    simp [results, Try.f45, go_sem]
theorem used0 {op p : Int} (b1 : Bool) (h1 : (op == 72) = b1) (HX : Hid (∀ w, Calls Try.prog 49 #[.int .i64 op] w fun e w' => e = .returned (.int .i64 p) ∧ w' = w)) (HY : Hid (∀ w, Calls Try.prog 38 #[.int .i64 op] w fun e w' => e = .returned (.int .i64 0) ∧ w' = w)) (w : World) :
    Calls Try.prog 45 #[.int .i64 op] w fun e w' => e = .returned (.agg #[.bool (false), .bool (false), .bool (false), .bool (b1)]) ∧ Ch [] w w' := by
  cases b1
  all_goals
    go_enter Try.func45, Try.ntmps45
    go_wp2_with (first
      | (with_reducible refine (HY.out _).mono ?_; rintro e w' ⟨rfl, rfl⟩)
      | (with_reducible refine (HX.out _).mono ?_; rintro e w' ⟨rfl, rfl⟩)
      | fail)
    refine post_val ?_ rfl ((Ch.refl [] _).alloc _)
    simp [results, Try.f45, go_sem]

theorem used_any {op : Int} (h0 : -9223372036854775808 ≤ op) (h1 : op ≤ 9223372036854775807) (w : World) :
    Calls Try.prog 45 #[.int .i64 op] w fun e w' => e = .returned (.agg #[.bool (has (shp op) 100), .bool (has (shp op) 115), .bool (has (shp op) 111), .bool (has (shp op) 105)]) ∧ Ch [] w w' := by
  have HX := Lib.hid (fun w => plain_any h0 h1 w)
  have HY := Lib.hid (fun w => class_any h0 h1 w)
  rcases cls_cases op with h | h | h | h | h
  · rw [h] at HY
    simp only [uses_none h]
    have h72 : (op == 72) = false := by rw [beq_eq_false_iff_ne]; rintro rfl; simp [cls] at h
    exact used0 false h72 HX HY w
  · rw [h] at HY
    obtain ⟨e1, e2, e3, e4⟩ := uses_alu h
    rw [e1, e2, e3, e4]
    exact used1 _ _ rfl rfl HX HY w
  · rw [h] at HY
    obtain ⟨e1, e2, e3, e4⟩ := uses_jump h
    rw [e1, e2, e3, e4]
    exact used2 _ _ rfl rfl HX HY w
  · rw [h] at HY
    obtain ⟨e1, e2, e3, e4⟩ := uses_mem h
    rw [e1, e2, e3, e4]
    exact used3 _ _ rfl rfl HX HY w
  · rw [h] at HY
    obtain ⟨e1, e2, e3, e4⟩ := uses_flow h
    rw [e1, e2, e3, e4]
    exact used4 _ rfl HX HY w
end Go.Proofs.Ytlffcccicpdnfaa
