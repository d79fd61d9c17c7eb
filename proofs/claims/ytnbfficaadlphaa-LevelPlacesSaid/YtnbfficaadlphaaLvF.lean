/-
  The law LevelNear, walked.
-/
import Derived.Test.YtnbfficaadlphaaLvE
namespace Go.Proofs.Ytnbfficaadlphaa
open Go.RowKit Go.BigFrame

attribute [local go_sem] Oper.semAt_some

/-- A spot and what holds of it. -/
theorem place_good {f a : Int} (hf : Wd f) (ha : Wd a) (hm : f ≠ 18446744073709551615) : ∃ (n : Nat) (s c D : Int),
    (∀ W, Calls Try.prog 15 #[.int .u64 f, .int .u64 a] W fun e w' => e = .returned (.tuple #[.agg #[.int .i64 (n : Int), .int .i64 s, .int .u64 c, .int .u64 D], .int .i64 0]) ∧ Ch [] W w') ∧
    c = (if a ≤ f then f + 1 else if 132120575 < a - f then f + 132120575 else a) ∧ n < 8 ∧ 0 ≤ s ∧ s < 64 ∧ c ≤ D ∧ D < c + g8 n ∧ f < D ∧ D ≤ 18446744073709551615 ∧ Wd c ∧ ∀ x, f ≤ x → x < D → timeV x n s = D := by
  obtain ⟨h1, h2, h3, h4, h5, h6, h7, h8, h9⟩ := placed hf ha hm
  exact ⟨_, _, _, _, fun W => place_any hf ha hm W, (clampV_of hf ha hm).1, h1, h2, h3, h4, h5, h6, h7, h8, h9⟩

theorem near_max {a : Int} (w : World) :
    Calls Try.prog 6 #[.int .u64 18446744073709551615, .int .u64 a] w fun e w' => e = .returned (.bool true) ∧ Below w.heap.size w w' := by
  go_enter Try.func6, Try.ntmps6
  go_wp2_with fail
  with_reducible refine (place_max a w).mono ?_
  rintro e w1 ⟨rfl, hc1⟩
  have HC1 := Lib.hid (hc1.alloc (.cells #[.int .i64 0, .int .i64 0, .int .u64 0, .int .u64 0] 29))
  clear hc1
  go_wp2_with fail
  with_reducible refine (known_any _).mono ?_
  rintro e w2 ⟨rfl, hc2⟩
  have HC2 := Lib.hid (HC1.out.trans hc2)
  clear hc2
  go_wp2
  go_ret
  exact ⟨rfl, HC2.out.below _ (by simp) (Nat.le_refl _)⟩

set_option maxHeartbeats 2000000 in
theorem near_law {f a : Int} (hf : Wd f) (ha : Wd a) (w : World) :
    Calls Try.prog 6 #[.int .u64 f, .int .u64 a] w fun e w' => e = .returned (.bool true) ∧ Below w.heap.size w w' := by
  by_cases hm : f = 18446744073709551615
  · subst hm; exact near_max w
  obtain ⟨n, s, c, D, h1, hc, hn, hs0, hs1, hD1, hD2, hD3, hD4, hcw, -⟩ := place_good hf ha hm
  have H1 := Lib.hid h1
  have HG := Lib.hid (fun W => gran_k hn W)
  have hd1 : decide (c ≤ D) = true := decide_eq_true hD1
  have hw1 : IntKind.u64.wrap (D - c) = D - c := by have := hcw.lo; rw [IntKind.wrap_u64]; omega
  have hd2 : decide (D - c < g8 n) = true := decide_eq_true (by omega)
  have hd3 : decide (0 ≤ s) = true := decide_eq_true hs0
  have hd4 : decide (s < 64) = true := decide_eq_true hs1
  have hd5 : decide (0 ≤ (n : Int)) = true := decide_eq_true (by omega)
  have hd6 : decide ((n : Int) < 8) = true := decide_eq_true (by omega)
  have hmf : (f == 18446744073709551615) = false := by simpa using hm
  have hf0 := hf.lo
  have hf1 := hf.hi
  have ha0 := ha.lo
  have ha1 := ha.hi
  generalize g8 n = g at *
  clear h1 hn hs0 hs1 hD1 hD2 hD3 hD4 hcw hf ha
  rcases Int.lt_or_le f a with hfa | hfa
  · have hfar1 : decide (f < a) = true := decide_eq_true hfa
    have hnear : decide (a ≤ f) = false := decide_eq_false (by omega)
    have hwa : IntKind.u64.wrap (a - f) = a - f := by rw [IntKind.wrap_u64]; omega
    rw [if_neg (by omega)] at hc
    by_cases hh : 132120575 < a - f
    · have hfar2 : decide (132120575 < a - f) = true := decide_eq_true hh
      have hwb : IntKind.u64.wrap (f + 132120575) = f + 132120575 := by rw [IntKind.wrap_u64]; omega
      rw [if_pos hh] at hc
      subst hc
      clear hh hm hfa hf0 hf1 ha0 ha1
      go_enter Try.func6, Try.ntmps6
      go_wp2_with fail
      with_reducible refine (H1.out _).mono ?_
      rintro e w1 ⟨rfl, hc1⟩
      have HF1 := Lib.hid (Four.new w1 (.int .i64 (n : Int)) (.int .i64 s) (.int .u64 (f + 132120575)) (.int .u64 D) 29)
      have HC1 := Lib.hid (hc1.alloc (.cells #[.int .i64 (n : Int), .int .i64 s, .int .u64 (f + 132120575), .int .u64 D] 29))
      obtain ⟨w2, hw2⟩ : ∃ w2, w1.alloc (.cells #[.int .i64 (n : Int), .int .i64 s, .int .u64 (f + 132120575), .int .u64 D] 29) = w2 := ⟨_, rfl⟩
      rw [hw2] at HF1 HC1
      have HW := Lib.hid hw2
      obtain ⟨G, f', hf1, hf2⟩ := worlds_of w2
      have hx0 : ∀ g : G, (f' g).cell? ⟨w1.heap.size, 0, none⟩ = some (.int .i64 (n : Int)) := fun g => (HF1.out.ch (hf1 g) (by simp)).c0
      have hx1 : ∀ g : G, (f' g).cell? ⟨w1.heap.size, 1, none⟩ = some (.int .i64 s) := fun g => (HF1.out.ch (hf1 g) (by simp)).c1
      have hx2 : ∀ g : G, (f' g).cell? ⟨w1.heap.size, 2, none⟩ = some (.int .u64 (f + 132120575)) := fun g => (HF1.out.ch (hf1 g) (by simp)).c2
      have hx3 : ∀ g : G, (f' g).cell? ⟨w1.heap.size, 3, none⟩ = some (.int .u64 D) := fun g => (HF1.out.ch (hf1 g) (by simp)).c3
      have hne : Nonempty G := ⟨(hf2 w2 (Ch.refl _ _)).choose⟩
      have HX1 := Lib.hid hf1
      have HX2 := Lib.hid hf2
      have HQ := Ch.refl [] w2
      clear hf1 hf2 hw2 hc1
      go_wp2_with fail
      rw [HW.out]
      refine wp_region_worlds f' (by kernel_rfl) (by kernel_rfl) (HX2.out _ HQ.drew) ?_
      repeat (go_big_quiet_step (first
        | (with_reducible refine (known_any _).mono ?_; rintro r w' ⟨rfl, hcw⟩; exact ⟨rfl, HX2.out w' ((HX1.out _).trans hcw)⟩)
        | (with_reducible refine (HG.out _).mono ?_; rintro r w' ⟨rfl, rfl⟩; exact ⟨rfl, _, rfl⟩)))
      refine wpQuiet_nil ?_
      rintro _ ⟨gz, rfl⟩
      have HZ := Lib.hid (HC1.out.trans (HX1.out gz))
      generalize f' gz = wz at *
      clear hx0 hx1 hx2 hx3 hne HQ
      go_wp2
      go_ret
      exact ⟨rfl, HZ.out.below _ (by simp) (Nat.le_refl _)⟩
    · have hfar2 : decide (132120575 < a - f) = false := decide_eq_false hh
      rw [if_neg hh] at hc
      subst hc
      clear hh hm hfa hf0 hf1 ha0 ha1
      go_enter Try.func6, Try.ntmps6
      go_wp2_with fail
      with_reducible refine (H1.out _).mono ?_
      rintro e w1 ⟨rfl, hc1⟩
      have HF1 := Lib.hid (Four.new w1 (.int .i64 (n : Int)) (.int .i64 s) (.int .u64 c) (.int .u64 D) 29)
      have HC1 := Lib.hid (hc1.alloc (.cells #[.int .i64 (n : Int), .int .i64 s, .int .u64 c, .int .u64 D] 29))
      obtain ⟨w2, hw2⟩ : ∃ w2, w1.alloc (.cells #[.int .i64 (n : Int), .int .i64 s, .int .u64 c, .int .u64 D] 29) = w2 := ⟨_, rfl⟩
      rw [hw2] at HF1 HC1
      have HW := Lib.hid hw2
      obtain ⟨G, f', hf1, hf2⟩ := worlds_of w2
      have hx0 : ∀ g : G, (f' g).cell? ⟨w1.heap.size, 0, none⟩ = some (.int .i64 (n : Int)) := fun g => (HF1.out.ch (hf1 g) (by simp)).c0
      have hx1 : ∀ g : G, (f' g).cell? ⟨w1.heap.size, 1, none⟩ = some (.int .i64 s) := fun g => (HF1.out.ch (hf1 g) (by simp)).c1
      have hx2 : ∀ g : G, (f' g).cell? ⟨w1.heap.size, 2, none⟩ = some (.int .u64 c) := fun g => (HF1.out.ch (hf1 g) (by simp)).c2
      have hx3 : ∀ g : G, (f' g).cell? ⟨w1.heap.size, 3, none⟩ = some (.int .u64 D) := fun g => (HF1.out.ch (hf1 g) (by simp)).c3
      have hne : Nonempty G := ⟨(hf2 w2 (Ch.refl _ _)).choose⟩
      have HX1 := Lib.hid hf1
      have HX2 := Lib.hid hf2
      have HQ := Ch.refl [] w2
      clear hf1 hf2 hw2 hc1
      go_wp2_with fail
      rw [HW.out]
      refine wp_region_worlds f' (by kernel_rfl) (by kernel_rfl) (HX2.out _ HQ.drew) ?_
      repeat (go_big_quiet_step (first
        | (with_reducible refine (known_any _).mono ?_; rintro r w' ⟨rfl, hcw⟩; exact ⟨rfl, HX2.out w' ((HX1.out _).trans hcw)⟩)
        | (with_reducible refine (HG.out _).mono ?_; rintro r w' ⟨rfl, rfl⟩; exact ⟨rfl, _, rfl⟩)))
      refine wpQuiet_nil ?_
      rintro _ ⟨gz, rfl⟩
      have HZ := Lib.hid (HC1.out.trans (HX1.out gz))
      generalize f' gz = wz at *
      clear hx0 hx1 hx2 hx3 hne HQ
      go_wp2
      go_ret
      exact ⟨rfl, HZ.out.below _ (by simp) (Nat.le_refl _)⟩
  · have hfar1 : decide (f < a) = false := decide_eq_false (by omega)
    have hnear : decide (a ≤ f) = true := decide_eq_true hfa
    have hwb : IntKind.u64.wrap (f + 1) = f + 1 := by rw [IntKind.wrap_u64]; omega
    rw [if_pos hfa] at hc
    subst hc
    clear hfa hm hf0 hf1 ha0 ha1
    go_enter Try.func6, Try.ntmps6
    go_wp2_with fail
    with_reducible refine (H1.out _).mono ?_
    rintro e w1 ⟨rfl, hc1⟩
    have HF1 := Lib.hid (Four.new w1 (.int .i64 (n : Int)) (.int .i64 s) (.int .u64 (f + 1)) (.int .u64 D) 29)
    have HC1 := Lib.hid (hc1.alloc (.cells #[.int .i64 (n : Int), .int .i64 s, .int .u64 (f + 1), .int .u64 D] 29))
    obtain ⟨w2, hw2⟩ : ∃ w2, w1.alloc (.cells #[.int .i64 (n : Int), .int .i64 s, .int .u64 (f + 1), .int .u64 D] 29) = w2 := ⟨_, rfl⟩
    rw [hw2] at HF1 HC1
    have HW := Lib.hid hw2
    obtain ⟨G, f', hf1, hf2⟩ := worlds_of w2
    have hx0 : ∀ g : G, (f' g).cell? ⟨w1.heap.size, 0, none⟩ = some (.int .i64 (n : Int)) := fun g => (HF1.out.ch (hf1 g) (by simp)).c0
    have hx1 : ∀ g : G, (f' g).cell? ⟨w1.heap.size, 1, none⟩ = some (.int .i64 s) := fun g => (HF1.out.ch (hf1 g) (by simp)).c1
    have hx2 : ∀ g : G, (f' g).cell? ⟨w1.heap.size, 2, none⟩ = some (.int .u64 (f + 1)) := fun g => (HF1.out.ch (hf1 g) (by simp)).c2
    have hx3 : ∀ g : G, (f' g).cell? ⟨w1.heap.size, 3, none⟩ = some (.int .u64 D) := fun g => (HF1.out.ch (hf1 g) (by simp)).c3
    have hne : Nonempty G := ⟨(hf2 w2 (Ch.refl _ _)).choose⟩
    have HX1 := Lib.hid hf1
    have HX2 := Lib.hid hf2
    have HQ := Ch.refl [] w2
    clear hf1 hf2 hw2 hc1
    go_wp2_with fail
    rw [HW.out]
    refine wp_region_worlds f' (by kernel_rfl) (by kernel_rfl) (HX2.out _ HQ.drew) ?_
    repeat (go_big_quiet_step (first
      | (with_reducible refine (known_any _).mono ?_; rintro r w' ⟨rfl, hcw⟩; exact ⟨rfl, HX2.out w' ((HX1.out _).trans hcw)⟩)
      | (with_reducible refine (HG.out _).mono ?_; rintro r w' ⟨rfl, rfl⟩; exact ⟨rfl, _, rfl⟩)))
    refine wpQuiet_nil ?_
    rintro _ ⟨gz, rfl⟩
    have HZ := Lib.hid (HC1.out.trans (HX1.out gz))
    generalize f' gz = wz at *
    clear hx0 hx1 hx2 hx3 hne HQ
    go_wp2
    go_ret
    exact ⟨rfl, HZ.out.below _ (by simp) (Nat.le_refl _)⟩
end Go.Proofs.Ytnbfficaadlphaa
