/-
  The laws LevelMeets and LevelApart, walked.
-/
import Derived.Test.YtnbfficaadlphaaLvF
namespace Go.Proofs.Ytnbfficaadlphaa
open Go.RowKit Go.BigFrame

attribute [local go_sem] Oper.semAt_some

theorem meets_max {a y : Int} (w : World) :
    Calls Try.prog 7 #[.int .u64 18446744073709551615, .int .u64 a, .int .u64 y] w fun e w' => e = .returned (.bool true) ∧ Below w.heap.size w w' := by
  go_enter Try.func7, Try.ntmps7
  go_wp2_with fail
  with_reducible refine (place_max a w).mono ?_
  rintro e w1 ⟨rfl, hc1⟩
  have HC1 := Lib.hid (hc1.alloc (.cells #[.int .i64 0, .int .i64 0, .int .u64 0, .int .u64 0] 29))
  clear hc1
  go_wp2_with fail
  with_reducible refine (known_any _).mono ?_
  rintro e w2 ⟨rfl, hc2⟩
  have HC2 := Lib.hid (HC1.out.trans hc2)
  clear hc2
  go_wp2
  go_ret
  exact ⟨rfl, HC2.out.below _ (by simp) (Nat.le_refl _)⟩

/-- A tick between. -/
theorem between {f D y : Int} (hf : 0 ≤ f) (hD : D ≤ 18446744073709551615) (h : f < D) (hy : 0 ≤ y) : ∃ x, IntKind.u64.wrap (D - f) = D - f ∧ ¬ D - f = 0 ∧ IntKind.u64.wrap (f + Int.tmod y (D - f)) = x ∧ f ≤ x ∧ x < D := by
  have h1 : 0 ≤ y % (D - f) := Int.emod_nonneg _ (by omega)
  have h2 : y % (D - f) < D - f := Int.emod_lt_of_pos _ (by omega)
  refine ⟨f + y % (D - f), by rw [IntKind.wrap_u64]; omega, by omega, ?_, by omega, by omega⟩
  rw [Int.tmod_eq_emod_of_nonneg hy, IntKind.wrap_u64]
  omega

set_option maxHeartbeats 2000000 in
theorem meets_law {f a y : Int} (hf : Wd f) (ha : Wd a) (hy : Wd y) (w : World) :
    Calls Try.prog 7 #[.int .u64 f, .int .u64 a, .int .u64 y] w fun e w' => e = .returned (.bool true) ∧ Below w.heap.size w w' := by
  by_cases hm : f = 18446744073709551615
  · subst hm; exact meets_max w
  obtain ⟨n, s, c, D, h1, -, hn, hs0, hs1, -, -, hD3, hD4, hcw, hT⟩ := place_good hf ha hm
  obtain ⟨x, b1, b2, b3, b4, b5⟩ := between hf.lo hD4 hD3 hy.lo
  have H1 := Lib.hid h1
  have hxw : Wd x := ⟨by have := hf.lo; omega, by omega⟩
  have hti := fun W => time_any hxw hn ⟨hs0, hs1⟩ W
  rw [hT x b4 b5] at hti
  have HT := Lib.hid hti
  have hmf : (f == 18446744073709551615) = false := by simpa using hm
  have hd1 : decide (D ≤ f) = false := decide_eq_false (by omega)
  clear hf ha hy hm h1 hn hs0 hs1 hD3 hD4 hcw hT b4 b5 hxw hti
  go_enter Try.func7, Try.ntmps7
  go_wp2_with fail
  with_reducible refine (H1.out _).mono ?_
  rintro e w1 ⟨rfl, hc1⟩
  have HF1 := Lib.hid (Four.new w1 (.int .i64 (n : Int)) (.int .i64 s) (.int .u64 c) (.int .u64 D) 29)
  have HC1 := Lib.hid (hc1.alloc (.cells #[.int .i64 (n : Int), .int .i64 s, .int .u64 c, .int .u64 D] 29))
  obtain ⟨w2, hw2⟩ : ∃ w2, w1.alloc (.cells #[.int .i64 (n : Int), .int .i64 s, .int .u64 c, .int .u64 D] 29) = w2 := ⟨_, rfl⟩
  rw [hw2] at HF1 HC1
  have HW := Lib.hid hw2
  obtain ⟨G, f', hf1, hf2⟩ := worlds_of w2
  have hx0 : ∀ g : G, (f' g).cell? ⟨w1.heap.size, 0, none⟩ = some (.int .i64 (n : Int)) := fun g => (HF1.out.ch (hf1 g) (by simp)).c0
  have hx1 : ∀ g : G, (f' g).cell? ⟨w1.heap.size, 1, none⟩ = some (.int .i64 s) := fun g => (HF1.out.ch (hf1 g) (by simp)).c1
  have hx3 : ∀ g : G, (f' g).cell? ⟨w1.heap.size, 3, none⟩ = some (.int .u64 D) := fun g => (HF1.out.ch (hf1 g) (by simp)).c3
  have hne : Nonempty G := ⟨(hf2 w2 (Ch.refl _ _)).choose⟩
  have HX1 := Lib.hid hf1
  have HX2 := Lib.hid hf2
  have HQ := Ch.refl [] w2
  clear hf1 hf2 hw2 hc1
  go_wp2_with fail
  rw [HW.out]
  refine wp_region_worlds f' (by kernel_rfl) (by kernel_rfl) (HX2.out _ HQ.drew) ?_
  repeat (go_big_quiet_step (first
    | (with_reducible refine (HT.out _).mono ?_; rintro r w' ⟨rfl, rfl⟩; exact ⟨rfl, _, rfl⟩)))
  refine wpQuiet_nil ?_
  rintro _ ⟨gz, rfl⟩
  have HZ := Lib.hid (HX1.out gz)
  generalize f' gz = wz at *
  clear hx0 hx1 hx3 hne HQ
  go_wp2_with fail
  with_reducible refine (known_any _).mono ?_
  rintro e w3 ⟨rfl, hc3⟩
  obtain ⟨k0, k1, k2, k3⟩ := HF1.out.ch (HZ.out.trans hc3) (by simp)
  have HC3 := Lib.hid (HC1.out.trans (HZ.out.trans hc3))
  clear hc3 k0 k1 k2
  go_wp2
  go_ret
  exact ⟨rfl, HC3.out.below _ (by simp) (Nat.le_refl _)⟩

theorem apart_max {a y b : Int} (w : World) :
    Calls Try.prog 8 #[.int .u64 18446744073709551615, .int .u64 a, .int .u64 y, .int .u64 b] w fun e w' => e = .returned (.bool true) ∧ Below w.heap.size w w' := by
  go_enter Try.func8, Try.ntmps8
  go_wp2_with fail
  with_reducible refine (place_max a w).mono ?_
  rintro e w1 ⟨rfl, hc1⟩
  have HC1 := Lib.hid (hc1.alloc (.cells #[.int .i64 0, .int .i64 0, .int .u64 0, .int .u64 0] 29))
  clear hc1
  go_wp2_with fail
  with_reducible refine (known_any _).mono ?_
  rintro e w2 ⟨rfl, hc2⟩
  have HC2 := Lib.hid (HC1.out.trans hc2)
  clear hc2
  go_wp2
  go_ret
  exact ⟨rfl, HC2.out.below _ (by simp) (Nat.le_refl _)⟩

set_option maxHeartbeats 2000000 in
theorem apart_law {f a y b : Int} (hf : Wd f) (ha : Wd a) (hy : Wd y) (hb : Wd b) (w : World) :
    Calls Try.prog 8 #[.int .u64 f, .int .u64 a, .int .u64 y, .int .u64 b] w fun e w' => e = .returned (.bool true) ∧ Below w.heap.size w w' := by
  by_cases hm : f = 18446744073709551615
  · subst hm; exact apart_max w
  obtain ⟨n, s, c, D, h1, -, hn, hs0, hs1, -, -, hD3, hD4, hcw, hT⟩ := place_good hf ha hm
  obtain ⟨x, b1, b2, b3, b4, b5⟩ := between hf.lo hD4 hD3 hy.lo
  have H1 := Lib.hid h1
  have hxw : Wd x := ⟨by have := hf.lo; omega, by omega⟩
  obtain ⟨n2, s2, c2, D2, k1, -, -, -, -, -, -, kD3, -, -, kT⟩ := place_good hxw hb (by omega)
  have K1 := Lib.hid k1
  have hT1 := hT x b4 b5
  have hT2 := kT x (Int.le_refl _) kD3
  have hmf : (f == 18446744073709551615) = false := by simpa using hm
  have hd1 : decide (D ≤ f) = false := decide_eq_false (by omega)
  have hex : (n : Int) ≠ (n2 : Int) ∨ (n = n2 ∧ s ≠ s2) ∨ (n = n2 ∧ s = s2 ∧ D = D2) := by
    by_cases e1 : n = n2
    · by_cases e2 : s = s2
      · subst e1 e2; exact .inr (.inr ⟨rfl, rfl, hT1.symm.trans hT2⟩)
      · exact .inr (.inl ⟨e1, e2⟩)
    · exact .inl (by omega)
  clear hf ha hy hb hm h1 hn hs0 hs1 hD3 hD4 hcw hT b4 b5 hxw k1 kD3 kT hT1 hT2
  have HE := Lib.hid hex
  clear hex
  go_enter Try.func8, Try.ntmps8
  go_wp2_with fail
  with_reducible refine (H1.out _).mono ?_
  rintro e w1 ⟨rfl, hc1⟩
  have HF1 := Lib.hid (Four.new w1 (.int .i64 (n : Int)) (.int .i64 s) (.int .u64 c) (.int .u64 D) 29)
  have HC1 := Lib.hid (hc1.alloc (.cells #[.int .i64 (n : Int), .int .i64 s, .int .u64 c, .int .u64 D] 29))
  clear hc1
  have q3 := HF1.out.c3
  go_wp2_with fail
  with_reducible refine (K1.out _).mono ?_
  rintro e w2 ⟨rfl, hc2⟩
  have HF2 := Lib.hid (Four.new w2 (.int .i64 (n2 : Int)) (.int .i64 s2) (.int .u64 c2) (.int .u64 D2) 29)
  have hal := (Ch.refl [] w2).alloc (.cells #[.int .i64 (n2 : Int), .int .i64 s2, .int .u64 c2, .int .u64 D2] 29)
  have HC2 := Lib.hid (HC1.out.trans (hc2.trans hal))
  have HF1b := Lib.hid (HF1.out.ch (hc2.trans hal) (by simp))
  clear hc2 q3 hal
  go_wp2_with fail
  with_reducible refine (known_any _).mono ?_
  rintro e w3 ⟨rfl, hc3⟩
  obtain ⟨k0, k1, k2, k3⟩ := HF1b.out.ch hc3 (by simp)
  obtain ⟨j0, j1, j2, j3⟩ := HF2.out.ch hc3 (by simp)
  have HC3 := Lib.hid (HC2.out.trans hc3)
  clear hc3 k2 j2
  rcases HE.out with h | ⟨rfl, h⟩ | ⟨rfl, rfl, rfl⟩
  · have hd : ((n : Int) == (n2 : Int)) = false := by simpa using h
    have hd2 : ((n : Int) != (n2 : Int)) = true := by simpa using h
    clear h
    go_wp2
    go_ret
    exact ⟨rfl, HC3.out.below _ (by simp) (Nat.le_refl _)⟩
  · have hd : (s == s2) = false := by simpa using h
    have hd2 : (s != s2) = true := by simpa using h
    clear h
    go_wp2
    go_ret
    exact ⟨rfl, HC3.out.below _ (by simp) (Nat.le_refl _)⟩
  · go_wp2
    go_ret
    exact ⟨rfl, HC3.out.below _ (by simp) (Nat.le_refl _)⟩
end Go.Proofs.Ytnbfficaadlphaa
