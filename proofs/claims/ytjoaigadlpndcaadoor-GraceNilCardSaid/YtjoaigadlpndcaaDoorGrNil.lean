/-
  The law GraceNil, walked.
-/
import Derived.Test.YtjoaigadlpndcaaDoorGrK
namespace Go.Proofs.YtjoaigadlpndcaaDoor
open Go.RowKit Go.Shelf

theorem nil_exit (r : Int) (w : World) : Calls Tryd.prog 31 #[.pointer none, .int .i64 r] w fun e w' => e = .returned (.tuple #[.bool false, .int .i64 6]) ∧ w = w' := by
  go_enter Tryd.func31, Tryd.ntmps31
  go_wp2
  go_ret2
  exact ⟨rfl, rfl⟩
theorem nil_enter (v : Value) (w : World) : Calls Tryd.prog 36 #[.pointer none, v] w fun e w' => e = .returned (.int .i64 6) ∧ w = w' := by
  go_enter Tryd.func36, Tryd.ntmps36
  go_wp2
  go_ret
  exact ⟨rfl, rfl⟩
theorem nil_depth (r : Int) (w : World) : Calls Tryd.prog 37 #[.pointer none, .int .i64 r] w fun e w' => e = .returned (.int .i64 0) ∧ w = w' := by
  go_enter Tryd.func37, Tryd.ntmps37
  go_wp2
  go_ret
  exact ⟨rfl, rfl⟩
theorem gn_sections (w : World) : Calls Tryd.prog 30 #[.pointer none] w fun e w' => e = .returned (.pointer none) ∧ w = w' := by
  go_enter Tryd.func30, Tryd.ntmps30
  go_wp2
  go_ret
  exact ⟨rfl, rfl⟩
theorem gn_exit (r : Int) (w : World) : Calls Tryd.prog 17 #[.pointer none, .int .i64 r] w fun e w' => e = .returned (.tuple #[.bool false, .int .i64 6]) ∧ w = w' := by
  go_enter Tryd.func17, Tryd.ntmps17
  go_wp2_with fail
  with_reducible refine (gn_sections _).mono ?_
  rintro e w' ⟨rfl, rfl⟩
  go_wp2_with fail
  with_reducible refine (nil_exit _ _).mono ?_
  rintro e w' ⟨rfl, rfl⟩
  go_wp2_with fail
  go_ret2
  exact ⟨rfl, rfl⟩
theorem gn_enter (v : Value) (w : World) : Calls Tryd.prog 22 #[.pointer none, v] w fun e w' => e = .returned (.int .i64 6) ∧ w = w' := by
  go_enter Tryd.func22, Tryd.ntmps22
  go_wp2_with fail
  with_reducible refine (gn_sections _).mono ?_
  rintro e w' ⟨rfl, rfl⟩
  go_wp2_with fail
  with_reducible refine (nil_enter _ _).mono ?_
  rintro e w' ⟨rfl, rfl⟩
  go_wp2_with fail
  go_ret
  exact ⟨rfl, rfl⟩
theorem gn_depth (r : Int) (w : World) : Calls Tryd.prog 23 #[.pointer none, .int .i64 r] w fun e w' => e = .returned (.int .i64 0) ∧ w = w' := by
  go_enter Tryd.func23, Tryd.ntmps23
  go_wp2_with fail
  with_reducible refine (gn_sections _).mono ?_
  rintro e w' ⟨rfl, rfl⟩
  go_wp2_with fail
  with_reducible refine (nil_depth _ _).mono ?_
  rintro e w' ⟨rfl, rfl⟩
  go_wp2_with fail
  go_ret
  exact ⟨rfl, rfl⟩
theorem gn_in (w : World) : Calls Tryd.prog 18 #[.pointer none] w fun e w' => e = .returned (.int .u64 0) ∧ Ch [] w w' := by
  have H2 := Lib.hid (nil_in w)
  rw [mskN_none (fun _ _ => rfl)] at H2
  go_enter Tryd.func18, Tryd.ntmps18
  go_wp2_with fail
  with_reducible refine (gn_sections _).mono ?_
  rintro e w' ⟨rfl, rfl⟩
  go_wp2_with fail
  with_reducible refine H2.out.mono ?_
  rintro e w2 ⟨rfl, hc⟩
  have HC := Lib.hid hc
  clear hc
  go_wp2_with fail
  go_ret
  exact ⟨rfl, HC.out⟩
theorem gn_call (i : Int) (v : Value) (w : World) : Calls Tryd.prog 10 #[.pointer none, .int .i64 i, v] w fun e w' => e = .returned (.int .i64 6) ∧ w = w' := by
  go_enter Tryd.func10, Tryd.ntmps10
  go_wp2
  go_ret
  exact ⟨rfl, rfl⟩
theorem gn_ticket (w : World) : Calls Tryd.prog 11 #[.pointer none] w fun e w' => e = .returned (.int .i64 0) ∧ w = w' := by
  go_enter Tryd.func11, Tryd.ntmps11
  go_wp2
  go_ret
  exact ⟨rfl, rfl⟩
theorem gn_barrier (w : World) : Calls Tryd.prog 21 #[.pointer none] w fun e w' => e = .returned (.int .i64 0) ∧ w = w' := by
  go_enter Tryd.func21, Tryd.ntmps21
  go_wp2
  go_ret
  exact ⟨rfl, rfl⟩
theorem gn_over (t : Int) (w : World) : Calls Tryd.prog 15 #[.pointer none, .int .i64 t] w fun e w' => e = .returned (.bool false) ∧ w = w' := by
  go_enter Tryd.func15, Tryd.ntmps15
  go_wp2
  go_ret
  exact ⟨rfl, rfl⟩
theorem gn_poll (w : World) : Calls Tryd.prog 13 #[.pointer none] w fun e w' => e = .returned (.slice none 0 0) ∧ w = w' := by
  go_enter Tryd.func13, Tryd.ntmps13
  go_wp2_with fail
  go_ret
  exact ⟨rfl, rfl⟩
theorem gn_gen (w : World) : Calls Tryd.prog 24 #[.pointer none] w fun e w' => e = .returned (.int .i64 0) ∧ w = w' := by
  go_enter Tryd.func24, Tryd.ntmps24
  go_wp2
  go_ret
  exact ⟨rfl, rfl⟩
theorem gn_running (w : World) : Calls Tryd.prog 20 #[.pointer none] w fun e w' => e = .returned (.bool false) ∧ w = w' := by
  go_enter Tryd.func20, Tryd.ntmps20
  go_wp2
  go_ret
  exact ⟨rfl, rfl⟩
theorem gn_done (w : World) : Calls Tryd.prog 12 #[.pointer none] w fun e w' => e = .returned (.int .i64 0) ∧ w = w' := by
  go_enter Tryd.func12, Tryd.ntmps12
  go_wp2_with fail
  with_reducible refine (gn_running _).mono ?_
  rintro e w' ⟨rfl, rfl⟩
  go_wp2_with fail
  with_reducible refine (gn_gen _).mono ?_
  rintro e w' ⟨rfl, rfl⟩
  go_wp2_with fail
  go_ret
  exact ⟨rfl, rfl⟩
theorem gn_holdouts (w : World) : Calls Tryd.prog 25 #[.pointer none] w fun e w' => e = .returned (.int .u64 0) ∧ w = w' := by
  go_enter Tryd.func25, Tryd.ntmps25
  go_wp2
  go_ret
  exact ⟨rfl, rfl⟩
theorem gn_waiting (w : World) : Calls Tryd.prog 19 #[.pointer none] w fun e w' => e = .returned (.int .i64 0) ∧ w = w' := by
  go_enter Tryd.func19, Tryd.ntmps19
  go_wp2
  go_ret
  exact ⟨rfl, rfl⟩
set_option maxRecDepth 100000 in
set_option maxHeartbeats 4000000 in
theorem nil_law (n r : Int) (w : World) (hT : Mk.Tab w) :
    Calls Tryd.prog 6 #[.int .i64 n, .int .i64 r] w fun e w' => e = .returned (.bool true) ∧ Ch [] w w' := by
  have HT := Lib.hid hT
  by_cases hr : 1 ≤ n ∧ n ≤ 64
  · have HN := Lib.hid (show Calls Tryd.prog 7 #[.int .i64 n] w fun e w' => ∃ a, e = .returned (.tuple #[.pointer (some ⟨a, 0, none⟩), .int .i64 0]) ∧ Ch [] w w' from by
      obtain ⟨k, rfl⟩ : ∃ k : Nat, n = (k : Int) := ⟨n.toNat, by omega⟩
      exact (dl_new (Ch.refl [] w) hT (show 1 ≤ k by omega) (show k ≤ 64 by omega)).mono fun _ _ ⟨a, h1, _, h3⟩ => ⟨a, h1, h3⟩)
    have hge : decide (n ≥ 1) = true := decide_eq_true hr.1
    have hle : decide (n ≤ 64) = true := decide_eq_true hr.2
    clear hT hr
    go_enter Tryd.func6, Tryd.ntmps6
    go_wp2_with fail
    with_reducible refine (gn_exit _ _).mono ?_
    rintro e w' ⟨rfl, rfl⟩
    go_wp2_with fail
    with_reducible refine HN.out.mono ?_
    rintro e w1 ⟨a, rfl, hc1⟩
    have HC1 := Lib.hid hc1
    clear hc1 HN
    go_wp2_with fail
    with_reducible refine (known_any _ (tab_ch HT.out HC1.out (by simp))).mono ?_
    rintro e w2 ⟨rfl, hk⟩
    have HC2 := Lib.hid (HC1.out.trans hk)
    clear hk HC1
    go_wp2_with fail
    all_goals try (simp only [undef, Option.some.injEq, reduceCtorEq] at *; done)
    with_reducible refine (gn_enter _ _).mono ?_
    rintro e w3 ⟨rfl, e3⟩
    have HC3 := Lib.hid (HC2.out.alloc (.cells #[.int .i64 r] 3))
    rw [e3] at HC3
    clear HC2
    go_wp2_with fail
    with_reducible refine (gn_depth _ _).mono ?_
    rintro e w' ⟨rfl, rfl⟩
    go_wp2_with fail
    with_reducible refine (gn_in _).mono ?_
    rintro e w4 ⟨rfl, hc4⟩
    have HC4 := Lib.hid (HC3.out.trans hc4)
    clear hc4 HC3
    go_wp2_with fail
    with_reducible refine (gn_call _ _ _).mono ?_
    rintro e w5 ⟨rfl, e5⟩
    have HC5 := Lib.hid (HC4.out.alloc (.cells #[.int .i64 r] 3))
    rw [e5] at HC5
    clear HC4
    go_wp2_with fail
    with_reducible refine (gn_ticket _).mono ?_
    rintro e w' ⟨rfl, rfl⟩
    go_wp2_with fail
    with_reducible refine (gn_barrier _).mono ?_
    rintro e w' ⟨rfl, rfl⟩
    go_wp2_with fail
    with_reducible refine (gn_over _ _).mono ?_
    rintro e w' ⟨rfl, rfl⟩
    go_wp2_with fail
    with_reducible refine (gn_poll _).mono ?_
    rintro e w' ⟨rfl, rfl⟩
    go_wp2_with fail
    with_reducible refine (gn_gen _).mono ?_
    rintro e w' ⟨rfl, rfl⟩
    go_wp2_with fail
    with_reducible refine (gn_done _).mono ?_
    rintro e w' ⟨rfl, rfl⟩
    go_wp2_with fail
    with_reducible refine (gn_running _).mono ?_
    rintro e w' ⟨rfl, rfl⟩
    go_wp2_with fail
    with_reducible refine (gn_holdouts _).mono ?_
    rintro e w' ⟨rfl, rfl⟩
    go_wp2_with fail
    with_reducible refine (gn_waiting _).mono ?_
    rintro e w' ⟨rfl, rfl⟩
    go_wp2_with fail
    go_ret
    exact ⟨rfl, HC5.out⟩
  · have HN := Lib.hid (gb_bad (i := n) (by omega) w)
    have HC1 := Lib.hid (Ch.refl [] w)
    rcases Int.lt_or_le n 1 with h1 | h1
    · have hge : decide (n ≥ 1) = false := decide_eq_false (by omega)
      clear hT hr h1
      go_enter Tryd.func6, Tryd.ntmps6
      go_wp2_with fail
      with_reducible refine (gn_exit _ _).mono ?_
      rintro e w' ⟨rfl, rfl⟩
      go_wp2_with fail
      with_reducible refine HN.out.mono ?_
      rintro e w' ⟨rfl, rfl⟩
      clear HN
      go_wp2_with fail
      with_reducible refine (known_any _ (tab_ch HT.out HC1.out (by simp))).mono ?_
      rintro e w2 ⟨rfl, hk⟩
      have HC2 := Lib.hid (HC1.out.trans hk)
      clear hk HC1
      go_wp2_with fail
      all_goals try (simp only [undef, Option.some.injEq, reduceCtorEq] at *; done)
      with_reducible refine (gn_enter _ _).mono ?_
      rintro e w3 ⟨rfl, e3⟩
      have HC3 := Lib.hid (HC2.out.alloc (.cells #[.int .i64 r] 3))
      rw [e3] at HC3
      clear HC2
      go_wp2_with fail
      with_reducible refine (gn_depth _ _).mono ?_
      rintro e w' ⟨rfl, rfl⟩
      go_wp2_with fail
      with_reducible refine (gn_in _).mono ?_
      rintro e w4 ⟨rfl, hc4⟩
      have HC4 := Lib.hid (HC3.out.trans hc4)
      clear hc4 HC3
      go_wp2_with fail
      with_reducible refine (gn_call _ _ _).mono ?_
      rintro e w5 ⟨rfl, e5⟩
      have HC5 := Lib.hid (HC4.out.alloc (.cells #[.int .i64 r] 3))
      rw [e5] at HC5
      clear HC4
      go_wp2_with fail
      with_reducible refine (gn_ticket _).mono ?_
      rintro e w' ⟨rfl, rfl⟩
      go_wp2_with fail
      with_reducible refine (gn_barrier _).mono ?_
      rintro e w' ⟨rfl, rfl⟩
      go_wp2_with fail
      with_reducible refine (gn_over _ _).mono ?_
      rintro e w' ⟨rfl, rfl⟩
      go_wp2_with fail
      with_reducible refine (gn_poll _).mono ?_
      rintro e w' ⟨rfl, rfl⟩
      go_wp2_with fail
      with_reducible refine (gn_gen _).mono ?_
      rintro e w' ⟨rfl, rfl⟩
      go_wp2_with fail
      with_reducible refine (gn_done _).mono ?_
      rintro e w' ⟨rfl, rfl⟩
      go_wp2_with fail
      with_reducible refine (gn_running _).mono ?_
      rintro e w' ⟨rfl, rfl⟩
      go_wp2_with fail
      with_reducible refine (gn_holdouts _).mono ?_
      rintro e w' ⟨rfl, rfl⟩
      go_wp2_with fail
      with_reducible refine (gn_waiting _).mono ?_
      rintro e w' ⟨rfl, rfl⟩
      go_wp2_with fail
      go_ret
      exact ⟨rfl, HC5.out⟩
    · have hle : decide (n ≤ 64) = false := decide_eq_false (by omega)
      have hge : decide (n ≥ 1) = true := decide_eq_true h1
      clear hT hr h1
      go_enter Tryd.func6, Tryd.ntmps6
      go_wp2_with fail
      with_reducible refine (gn_exit _ _).mono ?_
      rintro e w' ⟨rfl, rfl⟩
      go_wp2_with fail
      with_reducible refine HN.out.mono ?_
      rintro e w' ⟨rfl, rfl⟩
      clear HN
      go_wp2_with fail
      with_reducible refine (known_any _ (tab_ch HT.out HC1.out (by simp))).mono ?_
      rintro e w2 ⟨rfl, hk⟩
      have HC2 := Lib.hid (HC1.out.trans hk)
      clear hk HC1
      go_wp2_with fail
      all_goals try (simp only [undef, Option.some.injEq, reduceCtorEq] at *; done)
      with_reducible refine (gn_enter _ _).mono ?_
      rintro e w3 ⟨rfl, e3⟩
      have HC3 := Lib.hid (HC2.out.alloc (.cells #[.int .i64 r] 3))
      rw [e3] at HC3
      clear HC2
      go_wp2_with fail
      with_reducible refine (gn_depth _ _).mono ?_
      rintro e w' ⟨rfl, rfl⟩
      go_wp2_with fail
      with_reducible refine (gn_in _).mono ?_
      rintro e w4 ⟨rfl, hc4⟩
      have HC4 := Lib.hid (HC3.out.trans hc4)
      clear hc4 HC3
      go_wp2_with fail
      with_reducible refine (gn_call _ _ _).mono ?_
      rintro e w5 ⟨rfl, e5⟩
      have HC5 := Lib.hid (HC4.out.alloc (.cells #[.int .i64 r] 3))
      rw [e5] at HC5
      clear HC4
      go_wp2_with fail
      with_reducible refine (gn_ticket _).mono ?_
      rintro e w' ⟨rfl, rfl⟩
      go_wp2_with fail
      with_reducible refine (gn_barrier _).mono ?_
      rintro e w' ⟨rfl, rfl⟩
      go_wp2_with fail
      with_reducible refine (gn_over _ _).mono ?_
      rintro e w' ⟨rfl, rfl⟩
      go_wp2_with fail
      with_reducible refine (gn_poll _).mono ?_
      rintro e w' ⟨rfl, rfl⟩
      go_wp2_with fail
      with_reducible refine (gn_gen _).mono ?_
      rintro e w' ⟨rfl, rfl⟩
      go_wp2_with fail
      with_reducible refine (gn_done _).mono ?_
      rintro e w' ⟨rfl, rfl⟩
      go_wp2_with fail
      with_reducible refine (gn_running _).mono ?_
      rintro e w' ⟨rfl, rfl⟩
      go_wp2_with fail
      with_reducible refine (gn_holdouts _).mono ?_
      rintro e w' ⟨rfl, rfl⟩
      go_wp2_with fail
      with_reducible refine (gn_waiting _).mono ?_
      rintro e w' ⟨rfl, rfl⟩
      go_wp2_with fail
      go_ret
      exact ⟨rfl, HC5.out⟩
end Go.Proofs.YtjoaigadlpndcaaDoor
