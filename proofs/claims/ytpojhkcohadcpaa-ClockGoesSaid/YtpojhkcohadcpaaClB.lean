/-
  Deadlines, what is clamped: the program's answers and the document's; the chapter's examples.
-/
import Derived.Test.YtpojhkcohadcpaaClA
namespace Go.Proofs.Ytpojhkcohadcpaa
open Go.RowKit

attribute [local go_sem] Oper.semAt_some

def deadR (now d : Int) (abs : Bool) : Int × Int := if deadV now d abs = 18446744073709551615 then (0, 12) else (deadV now d abs, 0)

theorem deadline_any {a b : Int} (s : Bool) (ha : Wd a) (hb : Wd b) (w : World) :
    Calls Try.prog 15 #[.int .u64 a, .int .u64 b, .bool s] w fun e w' => e = .returned (.tuple #[.int .u64 (deadR a b s).1, .int .i64 (deadR a b s).2]) ∧ w' = w := by
  cases s with
  | false =>
    have HA := Lib.hid (add_any ha hb w)
    obtain ⟨V, hV⟩ : ∃ V, addV a b = V := ⟨_, rfl⟩
    have hD : deadV a b false = V := hV
    rw [hV] at HA
    generalize addO a b = O at HA
    unfold deadR
    rw [hD]
    clear hV hD ha hb
    by_cases h : V = 18446744073709551615
    · rw [if_pos h]
      have hd : (V == 18446744073709551615) = true := by simpa using h
      clear h
      rcases Int.lt_or_le b a with hl | hl
      all_goals
        go_enter Try.func15, Try.ntmps15
        go_wp2_with fail
        with_reducible refine HA.out.mono ?_
        rintro e w1 ⟨rfl, rfl⟩
        go_wp2
        go_ret2
        exact ⟨rfl, rfl⟩
    · rw [if_neg h]
      have hd : (V == 18446744073709551615) = false := by simpa using h
      clear h
      rcases Int.lt_or_le b a with hl | hl
      all_goals
        go_enter Try.func15, Try.ntmps15
        go_wp2_with fail
        with_reducible refine HA.out.mono ?_
        rintro e w1 ⟨rfl, rfl⟩
        go_wp2
        go_ret2
        exact ⟨rfl, rfl⟩
  | true =>
    unfold deadR
    rcases Int.lt_or_le b a with hl | hl
    · have hD : deadV a b true = a := by unfold deadV; simp only [if_true]; omega
      rw [hD]
      clear hD ha hb
      by_cases h : a = 18446744073709551615
      · rw [if_pos h]
        have hd : (a == 18446744073709551615) = true := by simpa using h
        clear h
        go_enter Try.func15, Try.ntmps15
        go_wp2
        go_ret2
        exact ⟨rfl, rfl⟩
      · rw [if_neg h]
        have hd : (a == 18446744073709551615) = false := by simpa using h
        clear h
        go_enter Try.func15, Try.ntmps15
        go_wp2
        go_ret2
        exact ⟨rfl, rfl⟩
    · have hD : deadV a b true = b := by unfold deadV; simp only [if_true]; omega
      rw [hD]
      clear hD ha hb
      by_cases h : b = 18446744073709551615
      · rw [if_pos h]
        have hd : (b == 18446744073709551615) = true := by simpa using h
        clear h
        go_enter Try.func15, Try.ntmps15
        go_wp2
        go_ret2
        exact ⟨rfl, rfl⟩
      · rw [if_neg h]
        have hd : (b == 18446744073709551615) = false := by simpa using h
        clear h
        go_enter Try.func15, Try.ntmps15
        go_wp2
        go_ret2
        exact ⟨rfl, rfl⟩

theorem rdeadline_any {a b : Int} (s : Bool) (ha : Wd a) (hb : Wd b) (w : World) :
    Calls Try.prog 16 #[.int .u64 a, .int .u64 b, .bool s] w fun e w' => e = .returned (.tuple #[.int .u64 (deadR a b s).1, .int .i64 (deadR a b s).2]) ∧ w' = w := by
  have h1 := ha.lo
  have h2 := ha.hi
  have h3 := hb.lo
  have h4 := hb.hi
  by_cases hm : a = 18446744073709551615
  · have e0 : deadR a b s = (0, 12) := by
      unfold deadR
      rw [if_pos]
      unfold deadV addV
      cases s <;> simp <;> omega
    have hd : (a == 18446744073709551615) = true := by simpa using hm
    rw [e0]
    clear e0 hm h1 h2 h3 h4 ha hb
    go_enter Try.func16, Try.ntmps16
    go_wp2
    go_ret2
    exact ⟨rfl, rfl⟩
  have hm0 : (a == 18446744073709551615) = false := by simpa using hm
  have HA := Lib.hid (radd_any ha hb w)
  cases s with
  | false =>
    have hO : addO a b = false → addV a b = 18446744073709551615 := by
      unfold addO addV
      intro h
      rw [if_pos (by simpa using h)]
    obtain ⟨V, hV⟩ : ∃ V, addV a b = V := ⟨_, rfl⟩
    have hD : deadV a b false = V := hV
    rw [hV] at HA hO
    generalize addO a b = O at HA hO
    unfold deadR
    rw [hD]
    clear hV hD ha hb h1 h2 h3 h4
    by_cases h : V = 18446744073709551615
    · rw [if_pos h]
      have hd : (V == 18446744073709551615) = true := by simpa using h
      clear h hO
      cases O with
      | true =>
        go_enter Try.func16, Try.ntmps16
        go_wp2_with fail
        with_reducible refine HA.out.mono ?_
        rintro e w1 ⟨rfl, rfl⟩
        go_wp2
        go_ret2
        exact ⟨rfl, rfl⟩
      | false =>
        go_enter Try.func16, Try.ntmps16
        go_wp2_with fail
        with_reducible refine HA.out.mono ?_
        rintro e w1 ⟨rfl, rfl⟩
        go_wp2
        go_ret2
        exact ⟨rfl, rfl⟩
    · rw [if_neg h]
      have hd : (V == 18446744073709551615) = false := by simpa using h
      cases O with
      | true =>
        clear h hO
        go_enter Try.func16, Try.ntmps16
        go_wp2_with fail
        with_reducible refine HA.out.mono ?_
        rintro e w1 ⟨rfl, rfl⟩
        go_wp2
        go_ret2
        exact ⟨rfl, rfl⟩
      | false => exact absurd (hO rfl) h
  | true =>
    generalize addV a b = V0 at HA
    generalize addO a b = O at HA
    obtain ⟨V, hV⟩ : ∃ V, (if b < a then a else b) = V := ⟨_, rfl⟩
    have hD : deadV a b true = V := by rw [← hV]; unfold deadV; simp only [if_true]; omega
    unfold deadR
    rw [hD]
    clear hD ha hb h1 h2 h3 h4 hm
    by_cases hl : b < a
    · have hdl : decide (b < a) = true := decide_eq_true hl
      rw [if_pos hl] at hV
      subst hV
      clear hl
      rw [if_neg (by simpa using hm0)]
      go_enter Try.func16, Try.ntmps16
      go_wp2_with fail
      with_reducible refine HA.out.mono ?_
      rintro e w1 ⟨rfl, rfl⟩
      go_wp2
      go_ret2
      exact ⟨rfl, rfl⟩
    · have hdl : decide (b < a) = false := decide_eq_false hl
      rw [if_neg hl] at hV
      subst hV
      clear hl
      by_cases h : b = 18446744073709551615
      · rw [if_pos h]
        have hd : (b == 18446744073709551615) = true := by simpa using h
        clear h
        go_enter Try.func16, Try.ntmps16
        go_wp2_with fail
        with_reducible refine HA.out.mono ?_
        rintro e w1 ⟨rfl, rfl⟩
        go_wp2
        go_ret2
        exact ⟨rfl, rfl⟩
      · rw [if_neg h]
        have hd : (b == 18446744073709551615) = false := by simpa using h
        clear h
        go_enter Try.func16, Try.ntmps16
        go_wp2_with fail
        with_reducible refine HA.out.mono ?_
        rintro e w1 ⟨rfl, rfl⟩
        go_wp2
        go_ret2
        exact ⟨rfl, rfl⟩

theorem clamp_any {f a h : Int} (hf : Wd f) (hh : Wd h) (w : World) :
    Calls Try.prog 13 #[.int .u64 f, .int .u64 a, .int .u64 h] w fun e w' => e = .returned (.int .u64 (clampV f a h)) ∧ w' = w := by
  have HA := Lib.hid (add_any hf one_wd w)
  have HB := Lib.hid (add_any hf hh w)
  unfold clampV
  generalize addV f 1 = L at *
  generalize addO f 1 = O1 at *
  generalize addV f h = H at *
  generalize addO f h = O2 at *
  clear hf hh
  rcases Int.lt_or_le a L with h1 | h1
  · have hd1 : decide (a < L) = true := by simpa using h1
    rw [show max a L = L by omega]
    rcases Int.lt_or_le H L with h2 | h2
    · have hd2 : decide (H < L) = true := by simpa using h2
      rw [show min L H = H by omega]
      go_enter Try.func13, Try.ntmps13
      go_wp2_with fail
      with_reducible refine HA.out.mono ?_
      rintro e w1 ⟨rfl, rfl⟩
      go_wp2_with fail
      with_reducible refine HB.out.mono ?_
      rintro e w2 ⟨rfl, rfl⟩
      go_wp2
      go_ret
      exact ⟨rfl, rfl⟩
    · have hd2 : decide (H < L) = false := by simpa using h2
      rw [show min L H = L by omega]
      go_enter Try.func13, Try.ntmps13
      go_wp2_with fail
      with_reducible refine HA.out.mono ?_
      rintro e w1 ⟨rfl, rfl⟩
      go_wp2_with fail
      with_reducible refine HB.out.mono ?_
      rintro e w2 ⟨rfl, rfl⟩
      go_wp2
      go_ret
      exact ⟨rfl, rfl⟩
  · have hd1 : decide (a < L) = false := by simpa using h1
    rw [show max a L = a by omega]
    rcases Int.lt_or_le H a with h2 | h2
    · have hd2 : decide (H < a) = true := by simpa using h2
      rw [show min a H = H by omega]
      go_enter Try.func13, Try.ntmps13
      go_wp2_with fail
      with_reducible refine HA.out.mono ?_
      rintro e w1 ⟨rfl, rfl⟩
      go_wp2_with fail
      with_reducible refine HB.out.mono ?_
      rintro e w2 ⟨rfl, rfl⟩
      go_wp2
      go_ret
      exact ⟨rfl, rfl⟩
    · have hd2 : decide (H < a) = false := by simpa using h2
      rw [show min a H = a by omega]
      go_enter Try.func13, Try.ntmps13
      go_wp2_with fail
      with_reducible refine HA.out.mono ?_
      rintro e w1 ⟨rfl, rfl⟩
      go_wp2_with fail
      with_reducible refine HB.out.mono ?_
      rintro e w2 ⟨rfl, rfl⟩
      go_wp2
      go_ret
      exact ⟨rfl, rfl⟩

theorem rclamp_any {f a h : Int} (hf : Wd f) (hh : Wd h) (w : World) :
    Calls Try.prog 14 #[.int .u64 f, .int .u64 a, .int .u64 h] w fun e w' => e = .returned (.int .u64 (clampV f a h)) ∧ w' = w := by
  have HA := Lib.hid (radd_any hf one_wd w)
  have HB := Lib.hid (radd_any hf hh w)
  unfold clampV
  generalize addV f 1 = L at *
  generalize addO f 1 = O1 at *
  generalize addV f h = H at *
  generalize addO f h = O2 at *
  clear hf hh
  rcases Int.lt_or_le a L with h1 | h1
  · have hd1 : decide (a < L) = true := by simpa using h1
    rw [show max a L = L by omega]
    rcases Int.lt_or_le H L with h2 | h2
    · have hd2 : decide (H < L) = true := by simpa using h2
      rw [show min L H = H by omega]
      go_enter Try.func14, Try.ntmps14
      go_wp2_with fail
      with_reducible refine HA.out.mono ?_
      rintro e w1 ⟨rfl, rfl⟩
      go_wp2_with fail
      with_reducible refine HB.out.mono ?_
      rintro e w2 ⟨rfl, rfl⟩
      go_wp2
      go_ret
      exact ⟨rfl, rfl⟩
    · have hd2 : decide (H < L) = false := by simpa using h2
      rw [show min L H = L by omega]
      go_enter Try.func14, Try.ntmps14
      go_wp2_with fail
      with_reducible refine HA.out.mono ?_
      rintro e w1 ⟨rfl, rfl⟩
      go_wp2_with fail
      with_reducible refine HB.out.mono ?_
      rintro e w2 ⟨rfl, rfl⟩
      go_wp2
      go_ret
      exact ⟨rfl, rfl⟩
  · have hd1 : decide (a < L) = false := by simpa using h1
    rw [show max a L = a by omega]
    rcases Int.lt_or_le H a with h2 | h2
    · have hd2 : decide (H < a) = true := by simpa using h2
      rw [show min a H = H by omega]
      go_enter Try.func14, Try.ntmps14
      go_wp2_with fail
      with_reducible refine HA.out.mono ?_
      rintro e w1 ⟨rfl, rfl⟩
      go_wp2_with fail
      with_reducible refine HB.out.mono ?_
      rintro e w2 ⟨rfl, rfl⟩
      go_wp2
      go_ret
      exact ⟨rfl, rfl⟩
    · have hd2 : decide (H < a) = false := by simpa using h2
      rw [show min a H = a by omega]
      go_enter Try.func14, Try.ntmps14
      go_wp2_with fail
      with_reducible refine HA.out.mono ?_
      rintro e w1 ⟨rfl, rfl⟩
      go_wp2_with fail
      with_reducible refine HB.out.mono ?_
      rintro e w2 ⟨rfl, rfl⟩
      go_wp2
      go_ret
      exact ⟨rfl, rfl⟩

theorem kadd (w : World) : Calls Try.prog 8 #[.int .u64 18446744073709551614, .int .u64 5] w fun e w' => e = .returned (.tuple #[.int .u64 18446744073709551615, .bool false]) ∧ w' = w :=
  add_any (a := 18446744073709551614) (b := 5) ⟨by decide, by decide⟩ ⟨by decide, by decide⟩ w
theorem kd1 (w : World) : Calls Try.prog 15 #[.int .u64 7, .int .u64 3, .bool false] w fun e w' => e = .returned (.tuple #[.int .u64 10, .int .i64 0]) ∧ w' = w :=
  deadline_any (a := 7) (b := 3) false ⟨by decide, by decide⟩ ⟨by decide, by decide⟩ w
theorem kd2 (w : World) : Calls Try.prog 15 #[.int .u64 7, .int .u64 3, .bool true] w fun e w' => e = .returned (.tuple #[.int .u64 7, .int .i64 0]) ∧ w' = w :=
  deadline_any (a := 7) (b := 3) true ⟨by decide, by decide⟩ ⟨by decide, by decide⟩ w
theorem kd3 (w : World) : Calls Try.prog 15 #[.int .u64 7, .int .u64 18446744073709551615, .bool true] w fun e w' => e = .returned (.tuple #[.int .u64 0, .int .i64 12]) ∧ w' = w :=
  deadline_any (a := 7) (b := 18446744073709551615) true ⟨by decide, by decide⟩ ⟨by decide, by decide⟩ w
theorem kc1 (w : World) : Calls Try.prog 13 #[.int .u64 10, .int .u64 3, .int .u64 100] w fun e w' => e = .returned (.int .u64 11) ∧ w' = w :=
  clamp_any (f := 10) (a := 3) (h := 100) ⟨by decide, by decide⟩ ⟨by decide, by decide⟩ w
theorem kc2 (w : World) : Calls Try.prog 13 #[.int .u64 10, .int .u64 500, .int .u64 100] w fun e w' => e = .returned (.int .u64 110) ∧ w' = w :=
  clamp_any (f := 10) (a := 500) (h := 100) ⟨by decide, by decide⟩ ⟨by decide, by decide⟩ w
theorem kc3 (w : World) : Calls Try.prog 13 #[.int .u64 10, .int .u64 500, .int .u64 0] w fun e w' => e = .returned (.int .u64 10) ∧ w' = w :=
  clamp_any (f := 10) (a := 500) (h := 0) ⟨by decide, by decide⟩ ⟨by decide, by decide⟩ w

/-- The chapter's examples. -/
theorem known_any (w : World) : Calls Try.prog 10 #[] w fun e w' => e = .returned (.bool true) ∧ w' = w := by
  go_enter Try.func10, Try.ntmps10
  go_wp2_with fail
  with_reducible refine (kadd w).mono ?_
  rintro e w1 ⟨rfl, rfl⟩
  go_wp2_with fail
  with_reducible refine (kd1 _).mono ?_
  rintro e w1 ⟨rfl, rfl⟩
  go_wp2_with fail
  with_reducible refine (kd2 _).mono ?_
  rintro e w1 ⟨rfl, rfl⟩
  go_wp2_with fail
  with_reducible refine (kd3 _).mono ?_
  rintro e w1 ⟨rfl, rfl⟩
  go_wp2_with fail
  with_reducible refine (kc1 _).mono ?_
  rintro e w1 ⟨rfl, rfl⟩
  go_wp2_with fail
  with_reducible refine (kc2 _).mono ?_
  rintro e w1 ⟨rfl, rfl⟩
  go_wp2_with fail
  with_reducible refine (kc3 _).mono ?_
  rintro e w1 ⟨rfl, rfl⟩
  go_wp2
  go_ret
  exact ⟨rfl, rfl⟩
end Go.Proofs.Ytpojhkcohadcpaa
