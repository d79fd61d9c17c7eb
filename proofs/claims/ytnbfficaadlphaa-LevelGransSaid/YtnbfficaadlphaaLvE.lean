/-
  The laws LevelPlaces, LevelNear, LevelMeets, LevelApart, walked.
-/
import Derived.Test.YtnbfficaadlphaaLvD
namespace Go.Proofs.Ytnbfficaadlphaa
open Go.RowKit Go.BigFrame

attribute [local go_sem] Oper.semAt_some

theorem place_both {f a : Int} (hf : Wd f) (ha : Wd a) : ∃ n s c D E : Int,
    (∀ W, Calls Try.prog 15 #[.int .u64 f, .int .u64 a] W fun e w' => e = .returned (.tuple #[.agg #[.int .i64 n, .int .i64 s, .int .u64 c, .int .u64 D], .int .i64 E]) ∧ Ch [] W w') ∧
    (∀ W, Calls Try.prog 16 #[.int .u64 f, .int .u64 a] W fun e w' => e = .returned (.tuple #[.agg #[.int .i64 n, .int .i64 s, .int .u64 c, .int .u64 D], .int .i64 E]) ∧ Ch [] W w') := by
  by_cases h : f = 18446744073709551615
  · subst h
    exact ⟨_, _, _, _, _, fun W => place_max a W, fun W => rplace_max a W⟩
  · exact ⟨_, _, _, _, _, fun W => place_any hf ha h W, fun W => rplace_any hf ha h W⟩

set_option maxHeartbeats 1000000 in
theorem places_law {f a : Int} (hf : Wd f) (ha : Wd a) (w : World) :
    Calls Try.prog 4 #[.int .u64 f, .int .u64 a] w fun e w' => e = .returned (.bool true) ∧ Below w.heap.size w w' := by
  obtain ⟨n, s, c, D, E, h1, h2⟩ := place_both hf ha
  have H1 := Lib.hid h1
  have H2 := Lib.hid h2
  clear hf ha h1 h2
  go_enter Try.func4, Try.ntmps4
  go_wp2_with fail
  with_reducible refine (H1.out _).mono ?_
  rintro e w1 ⟨rfl, hc1⟩
  have HF1 := Lib.hid (Four.new w1 (.int .i64 n) (.int .i64 s) (.int .u64 c) (.int .u64 D) 29)
  have HC1 := Lib.hid (hc1.alloc (.cells #[.int .i64 n, .int .i64 s, .int .u64 c, .int .u64 D] 29))
  clear hc1
  go_wp2_with fail
  with_reducible refine (H2.out _).mono ?_
  rintro e w2 ⟨rfl, hc2⟩
  have HC2 := Lib.hid ((HC1.out.trans hc2).alloc (.cells #[.int .i64 n, .int .i64 s, .int .u64 c, .int .u64 D] 33))
  have HG2 := Lib.hid (Four.new w2 (.int .i64 n) (.int .i64 s) (.int .u64 c) (.int .u64 D) 33)
  have HF2 := Lib.hid ((HF1.out.ch hc2 (by simp)).ch ((Ch.refl [] w2).alloc (.cells #[.int .i64 n, .int .i64 s, .int .u64 c, .int .u64 D] 33)) (by simp))
  clear hc2
  obtain ⟨w3, hw3⟩ : ∃ w3, w2.alloc (.cells #[.int .i64 n, .int .i64 s, .int .u64 c, .int .u64 D] 33) = w3 := ⟨_, rfl⟩
  rw [hw3] at HC2 HG2 HF2
  have HW := Lib.hid hw3
  obtain ⟨G, f', hf1, hf2⟩ := worlds_of w3
  have hx0 : ∀ g : G, (f' g).cell? ⟨w1.heap.size, 0, none⟩ = some (.int .i64 n) := fun g => (HF2.out.ch (hf1 g) (by simp)).c0
  have hx1 : ∀ g : G, (f' g).cell? ⟨w1.heap.size, 1, none⟩ = some (.int .i64 s) := fun g => (HF2.out.ch (hf1 g) (by simp)).c1
  have hx2 : ∀ g : G, (f' g).cell? ⟨w1.heap.size, 2, none⟩ = some (.int .u64 c) := fun g => (HF2.out.ch (hf1 g) (by simp)).c2
  have hx3 : ∀ g : G, (f' g).cell? ⟨w1.heap.size, 3, none⟩ = some (.int .u64 D) := fun g => (HF2.out.ch (hf1 g) (by simp)).c3
  have hy0 : ∀ g : G, (f' g).cell? ⟨w2.heap.size, 0, none⟩ = some (.int .i64 n) := fun g => (HG2.out.ch (hf1 g) (by simp)).c0
  have hy1 : ∀ g : G, (f' g).cell? ⟨w2.heap.size, 1, none⟩ = some (.int .i64 s) := fun g => (HG2.out.ch (hf1 g) (by simp)).c1
  have hy2 : ∀ g : G, (f' g).cell? ⟨w2.heap.size, 2, none⟩ = some (.int .u64 c) := fun g => (HG2.out.ch (hf1 g) (by simp)).c2
  have hy3 : ∀ g : G, (f' g).cell? ⟨w2.heap.size, 3, none⟩ = some (.int .u64 D) := fun g => (HG2.out.ch (hf1 g) (by simp)).c3
  have hne : Nonempty G := ⟨(hf2 w3 (Ch.refl _ _)).choose⟩
  have HX1 := Lib.hid hf1
  have HX2 := Lib.hid hf2
  have HQ := Ch.refl [] w3
  clear hf1 hf2 hw3
  go_wp2_with fail
  rw [HW.out]
  refine wp_region_worlds f' (by kernel_rfl) (by kernel_rfl) (HX2.out _ HQ.drew) ?_
  repeat (go_big_quiet_step (first
    | (with_reducible refine (known_any _).mono ?_; rintro r w' ⟨rfl, hcw⟩; exact ⟨rfl, HX2.out w' ((HX1.out _).trans hcw)⟩)
    | (with_reducible refine (spot_of _ _ _ _ _).mono ?_; rintro r w' ⟨rfl, hcw⟩; exact ⟨rfl, HX2.out w' ((HX1.out _).trans hcw)⟩)))
  refine wpQuiet_nil ?_
  rintro _ ⟨gz, rfl⟩
  have HZ := Lib.hid (HC2.out.trans (HX1.out gz))
  generalize f' gz = wz at *
  clear hx0 hx1 hx2 hx3 hy0 hy1 hy2 hy3 hne HQ
  go_wp2
  go_ret
  exact ⟨rfl, HZ.out.below _ (by simp) (Nat.le_refl _)⟩
end Go.Proofs.Ytnbfficaadlphaa
