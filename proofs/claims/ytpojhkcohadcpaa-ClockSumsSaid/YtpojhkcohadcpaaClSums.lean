/-
  The laws ClockSums and ClockDeadlines, walked.
-/
import Derived.Test.YtpojhkcohadcpaaClB
namespace Go.Proofs.Ytpojhkcohadcpaa
open Go.RowKit

attribute [local go_sem] Oper.semAt_some

theorem sums_law {a b h : Int} (ha : Wd a) (hb : Wd b) (hh : Wd h) (w : World) :
    Calls Try.prog 3 #[.int .u64 a, .int .u64 b, .int .u64 h] w fun e w' => e = .returned (.bool true) ∧ Below w.heap.size w w' := by
  have H1 := Lib.hid (add_any ha hb w)
  have H2 := Lib.hid (radd_any ha hb w)
  have H3 := Lib.hid (left_any ha hb w)
  have H4 := Lib.hid (rleft_any ha hb w)
  have H5 := Lib.hid (clamp_any (a := b) ha hh w)
  have H6 := Lib.hid (rclamp_any (a := b) ha hh w)
  generalize addV a b = V at *
  generalize addO a b = O at *
  generalize leftV a b = L at *
  generalize clampV a b h = C at *
  clear ha hb hh
  go_enter Try.func3, Try.ntmps3
  go_wp2_with fail
  with_reducible refine H1.out.mono ?_
  rintro e w1 ⟨rfl, rfl⟩
  go_wp2_with fail
  with_reducible refine H2.out.mono ?_
  rintro e w2 ⟨rfl, rfl⟩
  go_wp2_with fail
  with_reducible refine (known_any _).mono ?_
  rintro e w3 ⟨rfl, rfl⟩
  go_wp2_with fail
  with_reducible refine H3.out.mono ?_
  rintro e w4 ⟨rfl, rfl⟩
  go_wp2_with fail
  with_reducible refine H4.out.mono ?_
  rintro e w5 ⟨rfl, rfl⟩
  go_wp2_with fail
  with_reducible refine H5.out.mono ?_
  rintro e w6 ⟨rfl, rfl⟩
  go_wp2_with fail
  with_reducible refine H6.out.mono ?_
  rintro e w7 ⟨rfl, rfl⟩
  go_wp2
  go_ret
  exact ⟨rfl, Below.refl _ _⟩

theorem deadR_cases {a b : Int} (s : Bool) (ha : Wd a) (hb : Wd b) : (deadR a b s).2 = 12 ∨ ((deadR a b s).2 = 0 ∧ a ≤ (deadR a b s).1 ∧ (deadR a b s).1 ≠ 18446744073709551615) := by
  unfold deadR
  split
  · exact .inl rfl
  · rename_i h
    refine .inr ⟨rfl, ?_, h⟩
    cases s with
    | false => exact addV_ge ha hb
    | true => simp [deadV]; omega

theorem deadlines_law {a b : Int} (s : Bool) (ha : Wd a) (hb : Wd b) (w : World) :
    Calls Try.prog 4 #[.int .u64 a, .int .u64 b, .bool s] w fun e w' => e = .returned (.bool true) ∧ Below w.heap.size w w' := by
  have H1 := Lib.hid (deadline_any s ha hb w)
  have H2 := Lib.hid (rdeadline_any s ha hb w)
  have hc := deadR_cases s ha hb
  generalize (deadR a b s).1 = V at *
  generalize (deadR a b s).2 = E at *
  clear ha hb
  rcases hc with rfl | ⟨rfl, h1, h2⟩
  · go_enter Try.func4, Try.ntmps4
    go_wp2_with fail
    with_reducible refine H1.out.mono ?_
    rintro e w1 ⟨rfl, rfl⟩
    go_wp2_with fail
    with_reducible refine H2.out.mono ?_
    rintro e w2 ⟨rfl, rfl⟩
    go_wp2_with fail
    with_reducible refine (known_any _).mono ?_
    rintro e w3 ⟨rfl, rfl⟩
    go_wp2
    go_ret
    exact ⟨rfl, Below.refl _ _⟩
  · have hd1 : decide (a ≤ V) = true := decide_eq_true h1
    have hd2 : (V != 18446744073709551615) = true := by simpa using h2
    clear h1 h2
    go_enter Try.func4, Try.ntmps4
    go_wp2_with fail
    with_reducible refine H1.out.mono ?_
    rintro e w1 ⟨rfl, rfl⟩
    go_wp2_with fail
    with_reducible refine H2.out.mono ?_
    rintro e w2 ⟨rfl, rfl⟩
    go_wp2_with fail
    with_reducible refine (known_any _).mono ?_
    rintro e w3 ⟨rfl, rfl⟩
    go_wp2
    go_ret
    exact ⟨rfl, Below.refl _ _⟩
end Go.Proofs.Ytpojhkcohadcpaa
