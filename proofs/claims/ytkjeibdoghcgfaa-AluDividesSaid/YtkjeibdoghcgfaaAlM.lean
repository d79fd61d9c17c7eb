/-
  The laws AluDivides, AluOpposites, AluWords, walked.
-/
import Derived.Test.YtkjeibdoghcgfaaAlH
namespace Go.Proofs.Ytkjeibdoghcgfaa
open Go.RowKit Go.BigFrame Go.Lib

attribute [local go_sem] Oper.semAt_some

theorem fit_lit {n : Int} (h : 0 ≤ n ∧ n ≤ 100) : fit n := ⟨by omega, by omega⟩

/-- An operation by its literal number. -/
theorem do_lit (p : Nat) (hp : p ≤ 12) {a b : Nat} (ha : W64 a) (hb : W64 b) (w : World) :
    Calls Try.prog 9 #[.int .i64 (p : Int), .int .u64 (a : Int), .int .u64 (b : Int)] w fun e w' => e = .returned (.tuple #[.int .u64 ((doN p a b : Nat) : Int), .int .i64 0]) ∧ Ch [] w w' := by
  have h := do_any (op := (p : Int)) (fit_lit (by omega)) ha hb w
  have hc : cls (p : Int) = 1 := by unfold cls; rw [if_pos (by omega)]
  have hq : pl (p : Int) = (p : Int) := by unfold pl; rw [if_neg (by omega)]
  unfold doV doE at h
  rw [if_pos hc, if_pos hc, hq] at h
  exact h
theorem go_lit (p : Nat) (hp : p ≤ 9) {a b : Nat} (ha : W64 a) (hb : W64 b) (w : World) :
    Calls Try.prog 12 #[.int .i64 ((p + 32 : Nat) : Int), .int .u64 (a : Int), .int .u64 (b : Int)] w fun e w' => e = .returned (.tuple #[.bool (goN p a b), .int .i64 0]) ∧ w' = w := by
  have h := jumps_any (op := ((p + 32 : Nat) : Int)) (fit_lit (by omega)) ha hb w
  have hc : cls ((p + 32 : Nat) : Int) = 2 := by unfold cls; rw [if_neg (by omega), if_pos (by omega)]
  have hq : (pl ((p + 32 : Nat) : Int) - 32).toNat = p := by unfold pl; rw [if_neg (by omega)]; omega
  unfold goV goE at h
  rw [if_pos hc, if_pos hc, hq] at h
  exact h

theorem divides_law {a b : Nat} (ha : W64 a) (hb : W64 b) (w : World) :
    Calls Try.prog 5 #[.int .u64 (a : Int), .int .u64 (b : Int)] w fun e w' => e = .returned (.bool true) ∧ Below w.heap.size w w' := by
  have D3 : ∀ w, Calls Try.prog 9 #[.int .i64 3, .int .u64 (a : Int), .int .u64 (b : Int)] w fun e w' => e = .returned (.tuple #[.int .u64 ((doN 3 a b : Nat) : Int), .int .i64 0]) ∧ Ch [] w w' := fun w => do_lit 3 (by decide) ha hb w
  have D4 : ∀ w, Calls Try.prog 9 #[.int .i64 4, .int .u64 (a : Int), .int .u64 (b : Int)] w fun e w' => e = .returned (.tuple #[.int .u64 ((doN 4 a b : Nat) : Int), .int .i64 0]) ∧ Ch [] w w' := fun w => do_lit 4 (by decide) ha hb w
  have D2 : ∀ w, Calls Try.prog 9 #[.int .i64 2, .int .u64 ((doN 3 a b : Nat) : Int), .int .u64 (b : Int)] w fun e w' => e = .returned (.tuple #[.int .u64 ((doN 2 (doN 3 a b) b : Nat) : Int), .int .i64 0]) ∧ Ch [] w w' := fun w => do_lit 2 (by decide) (doN_lt 3 ha hb) hb w
  have D0 : ∀ w, Calls Try.prog 9 #[.int .i64 0, .int .u64 ((doN 2 (doN 3 a b) b : Nat) : Int), .int .u64 ((doN 4 a b : Nat) : Int)] w fun e w' => e = .returned (.tuple #[.int .u64 (a : Int), .int .i64 0]) ∧ Ch [] w w' := fun w => by
    have h := do_lit 0 (by decide) (doN_lt 2 (doN_lt 3 ha hb) hb) (doN_lt 4 ha hb) w
    rw [put_together a b ha] at h
    exact h
  have hrest : b = 0 ∨ (b ≠ 0 ∧ doN 4 a b < b) := by
    by_cases h : b = 0
    · exact .inl h
    · exact .inr ⟨h, Nat.mod_lt _ (Nat.pos_of_ne_zero h)⟩
  generalize doN 2 (doN 3 a b) b = m at *
  generalize doN 3 a b = q at *
  generalize doN 4 a b = r at *
  have H3 := Lib.hid D3; have H4 := Lib.hid D4; have H2 := Lib.hid D2; have H0 := Lib.hid D0
  have HQ := Lib.hid hrest
  clear D3 D4 D2 D0 ha hb hrest
  go_enter Try.func5, Try.ntmps5
  go_wp2_with fail
  with_reducible refine (H3.out _).mono ?_
  rintro e w1 ⟨rfl, hc1⟩
  have C1 := Lib.hid hc1
  clear hc1
  go_wp2_with fail
  with_reducible refine (H4.out _).mono ?_
  rintro e w2 ⟨rfl, hc2⟩
  have C2 := Lib.hid (C1.out.trans hc2)
  clear hc2
  go_wp2_with fail
  with_reducible refine (H2.out _).mono ?_
  rintro e w3 ⟨rfl, hc3⟩
  have C3 := Lib.hid (C2.out.trans hc3)
  clear hc3
  go_wp2_with fail
  with_reducible refine (H0.out _).mono ?_
  rintro e w4 ⟨rfl, hc4⟩
  have C4 := Lib.hid (C3.out.trans hc4)
  clear hc4
  go_wp2_with fail
  with_reducible refine (known_any _).mono ?_
  rintro e w5 ⟨rfl, hc5⟩
  have C5 := Lib.hid (C4.out.trans hc5)
  clear hc5 H3 H4 H2 H0
  rcases HQ.out with h | ⟨h, h2⟩
  · subst h
    go_wp2
    go_ret
    exact ⟨rfl, C5.out.below _ (by simp) (Nat.le_refl _)⟩
  · have h0 : ((b : Int) == 0) = false := by rw [beq_eq_false_iff_ne]; omega
    clear h
    go_wp2
    go_ret
    exact ⟨rfl, C5.out.below _ (by simp) (Nat.le_refl _)⟩

theorem opposites_law {a b : Nat} (ha : W64 a) (hb : W64 b) (w : World) :
    Calls Try.prog 6 #[.int .u64 (a : Int), .int .u64 (b : Int)] w fun e w' => e = .returned (.bool true) ∧ Below w.heap.size w w' := by
  obtain ⟨q, hq⟩ : ∃ q, q = decide (a = b) := ⟨_, rfl⟩
  obtain ⟨g, hg⟩ : ∃ g, g = decide (b < a) := ⟨_, rfl⟩
  obtain ⟨l, hl⟩ : ∃ l, l = decide (a < b) := ⟨_, rfl⟩
  obtain ⟨sgt, hsg⟩ : ∃ g, g = decide (sg b < sg a) := ⟨_, rfl⟩
  obtain ⟨slt, hsl⟩ : ∃ l, l = decide (sg a < sg b) := ⟨_, rfl⟩
  have J1 : ∀ w, Calls Try.prog 12 #[.int .i64 33, .int .u64 (a : Int), .int .u64 (b : Int)] w fun e w' => e = .returned (.tuple #[.bool q, .int .i64 0]) ∧ w' = w := fun w => by rw [hq]; exact go_lit 1 (by decide) ha hb w
  have J2 : ∀ w, Calls Try.prog 12 #[.int .i64 34, .int .u64 (a : Int), .int .u64 (b : Int)] w fun e w' => e = .returned (.tuple #[.bool (!q), .int .i64 0]) ∧ w' = w := fun w => by rw [hq]; exact go_lit 2 (by decide) ha hb w
  have J3 : ∀ w, Calls Try.prog 12 #[.int .i64 35, .int .u64 (a : Int), .int .u64 (b : Int)] w fun e w' => e = .returned (.tuple #[.bool g, .int .i64 0]) ∧ w' = w := fun w => by rw [hg]; exact go_lit 3 (by decide) ha hb w
  have J4 : ∀ w, Calls Try.prog 12 #[.int .i64 36, .int .u64 (a : Int), .int .u64 (b : Int)] w fun e w' => e = .returned (.tuple #[.bool (!l), .int .i64 0]) ∧ w' = w := fun w => by rw [hl, show (!decide (a < b)) = decide (b ≤ a) by rw [Bool.eq_iff_iff]; simp]; exact go_lit 4 (by decide) ha hb w
  have J5 : ∀ w, Calls Try.prog 12 #[.int .i64 37, .int .u64 (a : Int), .int .u64 (b : Int)] w fun e w' => e = .returned (.tuple #[.bool l, .int .i64 0]) ∧ w' = w := fun w => by rw [hl]; exact go_lit 5 (by decide) ha hb w
  have J6 : ∀ w, Calls Try.prog 12 #[.int .i64 38, .int .u64 (a : Int), .int .u64 (b : Int)] w fun e w' => e = .returned (.tuple #[.bool (!g), .int .i64 0]) ∧ w' = w := fun w => by rw [hg, show (!decide (b < a)) = decide (a ≤ b) by rw [Bool.eq_iff_iff]; simp]; exact go_lit 6 (by decide) ha hb w
  have J8 : ∀ w, Calls Try.prog 12 #[.int .i64 40, .int .u64 (a : Int), .int .u64 (b : Int)] w fun e w' => e = .returned (.tuple #[.bool sgt, .int .i64 0]) ∧ w' = w := fun w => by rw [hsg]; exact go_lit 8 (by decide) ha hb w
  have J9 : ∀ w, Calls Try.prog 12 #[.int .i64 41, .int .u64 (a : Int), .int .u64 (b : Int)] w fun e w' => e = .returned (.tuple #[.bool slt, .int .i64 0]) ∧ w' = w := fun w => by rw [hsl]; exact go_lit 9 (by decide) ha hb w
  have hcases : (q = true ∧ g = false ∧ l = false ∧ sgt = false ∧ slt = false) ∨ (q = false ∧ ((g = true ∧ l = false) ∨ (g = false ∧ l = true)) ∧ ((sgt = true ∧ slt = false) ∨ (sgt = false ∧ slt = true))) := by
    rw [hq, hg, hl, hsg, hsl]
    unfold sg
    unfold W64 at ha hb
    simp only [decide_eq_true_iff, decide_eq_false_iff_not]
    omega
  have H1 := Lib.hid J1; have H2 := Lib.hid J2; have H3 := Lib.hid J3; have H4 := Lib.hid J4; have H5 := Lib.hid J5; have H6 := Lib.hid J6; have H8 := Lib.hid J8; have H9 := Lib.hid J9
  have HQ := Lib.hid hcases
  clear J1 J2 J3 J4 J5 J6 J8 J9 hcases hq hg hl hsg hsl ha hb
  go_enter Try.func6, Try.ntmps6
  go_wp2_with fail
  with_reducible refine (H1.out _).mono ?_
  rintro e w1 ⟨rfl, rfl⟩
  go_wp2_with fail
  with_reducible refine (H2.out _).mono ?_
  rintro e w2 ⟨rfl, rfl⟩
  go_wp2_with fail
  with_reducible refine (H3.out _).mono ?_
  rintro e w3 ⟨rfl, rfl⟩
  go_wp2_with fail
  with_reducible refine (H6.out _).mono ?_
  rintro e w4 ⟨rfl, rfl⟩
  go_wp2_with fail
  with_reducible refine (H5.out _).mono ?_
  rintro e w5 ⟨rfl, rfl⟩
  go_wp2_with fail
  with_reducible refine (H4.out _).mono ?_
  rintro e w6 ⟨rfl, rfl⟩
  go_wp2_with fail
  with_reducible refine (H8.out _).mono ?_
  rintro e w7 ⟨rfl, rfl⟩
  go_wp2_with fail
  with_reducible refine (H9.out _).mono ?_
  rintro e w8 ⟨rfl, rfl⟩
  go_wp2_with fail
  with_reducible refine (known_any _).mono ?_
  rintro e w9 ⟨rfl, hc⟩
  have C := Lib.hid hc
  clear hc H1 H2 H3 H4 H5 H6 H8 H9
  rcases HQ.out with ⟨rfl, rfl, rfl, rfl, rfl⟩ | ⟨rfl, ⟨rfl, rfl⟩ | ⟨rfl, rfl⟩, ⟨rfl, rfl⟩ | ⟨rfl, rfl⟩⟩
  all_goals
    clear HQ
    go_wp2
    go_ret
    exact ⟨rfl, C.out.below _ (by simp) (Nat.le_refl _)⟩

theorem words_law {n : Int} (hn : fit n) {a : Nat} (ha : W64 a) (w : World) :
    Calls Try.prog 8 #[.int .i64 n, .int .u64 (a : Int)] w fun e w' => e = .returned (.bool true) ∧ Below w.heap.size w w' := by
  obtain ⟨x, hx⟩ : ∃ x, x = wdN n := ⟨_, rfl⟩
  have hxl : W64 x := by rw [hx]; exact wdN_lt n
  obtain ⟨m, hm⟩ : ∃ m, m = doN 12 x a := ⟨_, rfl⟩
  have hml : W64 m := by rw [hm]; exact doN_lt 12 hxl ha
  obtain ⟨y, hy⟩ : ∃ y, y = (a + x) % 18446744073709551616 := ⟨_, rfl⟩
  have hyl : W64 y := by rw [hy]; exact Nat.mod_lt _ (by decide)
  have hyw : IntKind.u64.wrap ((a : Int) + (x : Int)) = (y : Int) := by rw [IntKind.wrap_u64, hy]; omega
  have hs : doN 0 x m = 0 := by rw [hm]; unfold doN; simp only; unfold W64 at hxl; omega
  have hb : doN 1 y x = a := by rw [hy]; unfold doN; simp only; unfold W64 at hxl ha; omega
  have HW := Lib.hid (fun w => word_any n w)
  rw [← hx] at HW
  have D12 : ∀ w, Calls Try.prog 9 #[.int .i64 12, .int .u64 (x : Int), .int .u64 (a : Int)] w fun e w' => e = .returned (.tuple #[.int .u64 (m : Int), .int .i64 0]) ∧ Ch [] w w' := fun w => by rw [hm]; exact do_lit 12 (by decide) hxl ha w
  have D0 : ∀ w, Calls Try.prog 9 #[.int .i64 0, .int .u64 (x : Int), .int .u64 (m : Int)] w fun e w' => e = .returned (.tuple #[.int .u64 0, .int .i64 0]) ∧ Ch [] w w' := fun w => by
    have h := do_lit 0 (by decide) hxl hml w
    rw [hs] at h
    exact h
  have D1 : ∀ w, Calls Try.prog 9 #[.int .i64 1, .int .u64 (y : Int), .int .u64 (x : Int)] w fun e w' => e = .returned (.tuple #[.int .u64 (a : Int), .int .i64 0]) ∧ Ch [] w w' := fun w => by
    have h := do_lit 1 (by decide) hyl hxl w
    rw [hb] at h
    exact h
  have hneg : goN 9 x 0 = decide (n < 0) := by
    show decide (sg x < sg 0) = _
    rw [hx]
    unfold fit at hn
    unfold sg wdN
    rw [Bool.eq_iff_iff]
    simp only [decide_eq_true_iff]
    omega
  have J9 : ∀ w, Calls Try.prog 12 #[.int .i64 41, .int .u64 (x : Int), .int .u64 0] w fun e w' => e = .returned (.tuple #[.bool (decide (n < 0)), .int .i64 0]) ∧ w' = w := fun w => by
    have h := go_lit 9 (by decide) hxl (b := 0) (by decide) w
    rw [hneg] at h
    exact h
  have hlow : n < 0 ∨ (¬ n < 0 ∧ x ≤ 9223372036854775807) := by
    rw [hx]
    unfold fit at hn
    unfold wdN
    omega
  have H12 := Lib.hid D12; have H0 := Lib.hid D0; have H1 := Lib.hid D1; have H9 := Lib.hid J9
  have HQ := Lib.hid hlow
  clear D12 D0 D1 J9 hlow hneg hs hb hy hyl hm hml hx hxl hn ha
  go_enter Try.func8, Try.ntmps8
  go_wp2_with fail
  with_reducible refine (HW.out _).mono ?_
  rintro e w0 ⟨rfl, rfl⟩
  go_wp2_with fail
  with_reducible refine (H12.out _).mono ?_
  rintro e w1 ⟨rfl, hc1⟩
  have C1 := Lib.hid hc1
  clear hc1
  go_wp2_with fail
  with_reducible refine (H0.out _).mono ?_
  rintro e w2 ⟨rfl, hc2⟩
  have C2 := Lib.hid (C1.out.trans hc2)
  clear hc2
  go_wp2_with fail
  with_reducible refine (H1.out _).mono ?_
  rintro e w3 ⟨rfl, hc3⟩
  have C3 := Lib.hid (C2.out.trans hc3)
  clear hc3
  go_wp2_with fail
  with_reducible refine (H9.out _).mono ?_
  rintro e w4 ⟨rfl, rfl⟩
  go_wp2_with fail
  with_reducible refine (known_any _).mono ?_
  rintro e w5 ⟨rfl, hc5⟩
  have C5 := Lib.hid (C3.out.trans hc5)
  clear hc5 HW H12 H0 H1 H9
  rcases HQ.out with h | ⟨h, h2⟩
  · have hd : decide (n < 0) = true := decide_eq_true h
    clear h HQ
    go_wp2
    go_ret
    exact ⟨rfl, C5.out.below _ (by simp) (Nat.le_refl _)⟩
  · have hd : decide (n < 0) = false := decide_eq_false (by omega)
    have hle : decide ((x : Int) ≤ 9223372036854775807) = true := decide_eq_true (by omega)
    clear h h2 HQ
    go_wp2
    go_ret
    exact ⟨rfl, C5.out.below _ (by simp) (Nat.le_refl _)⟩
end Go.Proofs.Ytkjeibdoghcgfaa
