/-
  Deadlines, what is clamped: the program's answers and the document's; the chapter's examples.
-/
import Derived.Test.YtnbfficaadlphaaClA
namespace Go.Proofs.Ytnbfficaadlphaa
open Go.RowKit

attribute [local go_sem] Oper.semAt_some

theorem clamp_any {f a h : Int} (hf : Wd f) (hh : Wd h) (w : World) :
    Calls Try.prog 21 #[.int .u64 f, .int .u64 a, .int .u64 h] w fun e w' => e = .returned (.int .u64 (clampV f a h)) ∧ w' = w := by
  have HA := Lib.hid (add_any hf one_wd w)
  have HB := Lib.hid (add_any hf hh w)
  unfold clampV
  generalize addV f 1 = L at *
  generalize addO f 1 = O1 at *
  generalize addV f h = H at *
  generalize addO f h = O2 at *
  clear hf hh
  rcases Int.lt_or_le a L with h1 | h1
  · have hd1 : decide (a < L) = true := by simpa using h1
    rw [show max a L = L by omega]
    rcases Int.lt_or_le H L with h2 | h2
    · have hd2 : decide (H < L) = true := by simpa using h2
      rw [show min L H = H by omega]
      go_enter Try.func21, Try.ntmps21
      go_wp2_with fail
      with_reducible refine HA.out.mono ?_
      rintro e w1 ⟨rfl, rfl⟩
      go_wp2_with fail
      with_reducible refine HB.out.mono ?_
      rintro e w2 ⟨rfl, rfl⟩
      go_wp2
      go_ret
      exact ⟨rfl, rfl⟩
    · have hd2 : decide (H < L) = false := by simpa using h2
      rw [show min L H = L by omega]
      go_enter Try.func21, Try.ntmps21
      go_wp2_with fail
      with_reducible refine HA.out.mono ?_
      rintro e w1 ⟨rfl, rfl⟩
      go_wp2_with fail
      with_reducible refine HB.out.mono ?_
      rintro e w2 ⟨rfl, rfl⟩
      go_wp2
      go_ret
      exact ⟨rfl, rfl⟩
  · have hd1 : decide (a < L) = false := by simpa using h1
    rw [show max a L = a by omega]
    rcases Int.lt_or_le H a with h2 | h2
    · have hd2 : decide (H < a) = true := by simpa using h2
      rw [show min a H = H by omega]
      go_enter Try.func21, Try.ntmps21
      go_wp2_with fail
      with_reducible refine HA.out.mono ?_
      rintro e w1 ⟨rfl, rfl⟩
      go_wp2_with fail
      with_reducible refine HB.out.mono ?_
      rintro e w2 ⟨rfl, rfl⟩
      go_wp2
      go_ret
      exact ⟨rfl, rfl⟩
    · have hd2 : decide (H < a) = false := by simpa using h2
      rw [show min a H = a by omega]
      go_enter Try.func21, Try.ntmps21
      go_wp2_with fail
      with_reducible refine HA.out.mono ?_
      rintro e w1 ⟨rfl, rfl⟩
      go_wp2_with fail
      with_reducible refine HB.out.mono ?_
      rintro e w2 ⟨rfl, rfl⟩
      go_wp2
      go_ret
      exact ⟨rfl, rfl⟩

theorem rclamp_any {f a h : Int} (hf : Wd f) (hh : Wd h) (w : World) :
    Calls Try.prog 23 #[.int .u64 f, .int .u64 a, .int .u64 h] w fun e w' => e = .returned (.int .u64 (clampV f a h)) ∧ w' = w := by
  have HA := Lib.hid (radd_any hf one_wd w)
  have HB := Lib.hid (radd_any hf hh w)
  unfold clampV
  generalize addV f 1 = L at *
  generalize addO f 1 = O1 at *
  generalize addV f h = H at *
  generalize addO f h = O2 at *
  clear hf hh
  rcases Int.lt_or_le a L with h1 | h1
  · have hd1 : decide (a < L) = true := by simpa using h1
    rw [show max a L = L by omega]
    rcases Int.lt_or_le H L with h2 | h2
    · have hd2 : decide (H < L) = true := by simpa using h2
      rw [show min L H = H by omega]
      go_enter Try.func23, Try.ntmps23
      go_wp2_with fail
      with_reducible refine HA.out.mono ?_
      rintro e w1 ⟨rfl, rfl⟩
      go_wp2_with fail
      with_reducible refine HB.out.mono ?_
      rintro e w2 ⟨rfl, rfl⟩
      go_wp2
      go_ret
      exact ⟨rfl, rfl⟩
    · have hd2 : decide (H < L) = false := by simpa using h2
      rw [show min L H = L by omega]
      go_enter Try.func23, Try.ntmps23
      go_wp2_with fail
      with_reducible refine HA.out.mono ?_
      rintro e w1 ⟨rfl, rfl⟩
      go_wp2_with fail
      with_reducible refine HB.out.mono ?_
      rintro e w2 ⟨rfl, rfl⟩
      go_wp2
      go_ret
      exact ⟨rfl, rfl⟩
  · have hd1 : decide (a < L) = false := by simpa using h1
    rw [show max a L = a by omega]
    rcases Int.lt_or_le H a with h2 | h2
    · have hd2 : decide (H < a) = true := by simpa using h2
      rw [show min a H = H by omega]
      go_enter Try.func23, Try.ntmps23
      go_wp2_with fail
      with_reducible refine HA.out.mono ?_
      rintro e w1 ⟨rfl, rfl⟩
      go_wp2_with fail
      with_reducible refine HB.out.mono ?_
      rintro e w2 ⟨rfl, rfl⟩
      go_wp2
      go_ret
      exact ⟨rfl, rfl⟩
    · have hd2 : decide (H < a) = false := by simpa using h2
      rw [show min a H = a by omega]
      go_enter Try.func23, Try.ntmps23
      go_wp2_with fail
      with_reducible refine HA.out.mono ?_
      rintro e w1 ⟨rfl, rfl⟩
      go_wp2_with fail
      with_reducible refine HB.out.mono ?_
      rintro e w2 ⟨rfl, rfl⟩
      go_wp2
      go_ret
      exact ⟨rfl, rfl⟩

end Go.Proofs.Ytnbfficaadlphaa
