/-
  The program's Do, goes, Jumps, Word, Fold (goes written by gen/goes16.py).
-/
import Derived.Test.YtlffcccicpdnfaaAlC
namespace Go.Proofs.Ytlffcccicpdnfaa
open Go.RowKit Go.BigFrame Go.Lib

attribute [local go_sem] Oper.semAt_some

theorem pl_alu {op : Int} (h : cls op = 1) : ∃ p : Nat, pl op = (p : Int) ∧ p ≤ 12 ∧ 0 ≤ op ∧ op < 100 ∧ (op ≤ 12 → pl op = op) ∧ (12 < op → pl op = op - 16) := by
  refine ⟨(pl op).toNat, ?_⟩
  unfold cls at h
  unfold pl
  repeat' split at h
  all_goals first | (exfalso; omega) | skip
  all_goals (split <;> omega)
theorem pl_jump {op : Int} (h : cls op = 2) : ∃ p : Nat, pl op = (p : Int) + 32 ∧ p ≤ 9 ∧ 0 ≤ op ∧ op < 100 ∧ (op ≤ 41 → pl op = op) ∧ (41 < op → pl op = op - 16) := by
  refine ⟨(pl op - 32).toNat, ?_⟩
  unfold cls at h
  unfold pl
  repeat' split at h
  all_goals first | (exfalso; omega) | skip
  all_goals (split <;> omega)
theorem with_alu {op : Int} (h : cls op = 1) (w : World) : Calls Try.prog 52 #[.int .i64 op, .int .i64 12] w fun e w' => e = .returned (.int .i64 (pl op)) ∧ w' = w := by
  obtain ⟨p, _, _, h0, h1, h2, h3⟩ := pl_alu h
  rcases Int.lt_or_le 12 op with hl | hl
  · rw [h3 hl]; exact with_high hl h0 h1 w
  · rw [h2 hl]; exact with_low hl w
theorem with_jump {op : Int} (h : cls op = 2) (w : World) : Calls Try.prog 52 #[.int .i64 op, .int .i64 41] w fun e w' => e = .returned (.int .i64 (pl op)) ∧ w' = w := by
  obtain ⟨p, _, _, h0, h1, h2, h3⟩ := pl_jump h
  rcases Int.lt_or_le 41 op with hl | hl
  · rw [h3 hl]; exact with_high hl h0 h1 w
  · rw [h2 hl]; exact with_low hl w

theorem do_any {op : Int} (ho : fit op) {a b : Nat} (ha : W64 a) (hb : W64 b) (w : World) :
    Calls Try.prog 50 #[.int .i64 op, .int .u64 (a : Int), .int .u64 (b : Int)] w fun e w' => e = .returned (.tuple #[.int .u64 ((doV op a b : Nat) : Int), .int .i64 (doE op)]) ∧ Ch [] w w' := by
  have HY := Lib.hid (fun w => class_any ho.1 ho.2 w)
  by_cases h : cls op = 1
  · obtain ⟨p, hp, hl, _⟩ := pl_alu h
    have HX := Lib.hid (fun w => with_alu h w)
    have HS := Lib.hid (fun w => sum_any hl ha hb w)
    have e1 : doV op a b = doN p a b := by unfold doV; rw [if_pos h, hp]; rfl
    have e2 : doE op = 0 := by unfold doE; rw [if_pos h]
    rw [e1, e2]
    rw [hp] at HX
    rw [h] at HY
    generalize doN p a b = r at *
    clear e1 e2 h hp hl ha hb ho
    go_enter Try.func50, Try.ntmps50
    go_wp2_with (first
      | (with_reducible refine (HY.out _).mono ?_; rintro e w' ⟨rfl, rfl⟩)
      | (with_reducible refine (HX.out _).mono ?_; rintro e w' ⟨rfl, rfl⟩)
      | (with_reducible refine (HS.out _).mono ?_; rintro e w' ⟨rfl, hc⟩)
      | fail)
    go_ret2
    exact ⟨rfl, hc⟩
  · have e1 : doV op a b = 0 := by unfold doV; rw [if_neg h]
    have e2 : doE op = 11 := by unfold doE; rw [if_neg h]
    rw [e1, e2]
    have hn : (cls op != 1) = true := by simpa using h
    generalize cls op = c at *
    clear e1 e2 h ha hb ho
    go_enter Try.func50, Try.ntmps50
    go_wp2_with (first
      | (with_reducible refine (HY.out _).mono ?_; rintro e w' ⟨rfl, rfl⟩)
      | fail)
    go_ret2
    exact ⟨rfl, Ch.refl _ _⟩

theorem goes_0 {a b : Nat} (_ha : W64 a) (_hb : W64 b) (w : World) : Calls Try.prog 51 #[.int .i64 32, .int .u64 (a : Int), .int .u64 (b : Int)] w fun e w' => e = .returned (.bool (goN 0 a b)) ∧ w' = w := by
  go_enter Try.func51, Try.ntmps51
  go_wp2
  go_ret
  exact ⟨rfl, rfl⟩
theorem goes_1 {a b : Nat} (_ha : W64 a) (_hb : W64 b) (w : World) : Calls Try.prog 51 #[.int .i64 33, .int .u64 (a : Int), .int .u64 (b : Int)] w fun e w' => e = .returned (.bool (goN 1 a b)) ∧ w' = w := by
  have hr : goN 1 a b = ((a : Int) == (b : Int)) := by unfold goN; simp only; rw [Bool.eq_iff_iff]; simp <;> omega
  rw [hr]
  clear hr
  generalize (a : Int) = x at *
  generalize (b : Int) = y at *
  go_enter Try.func51, Try.ntmps51
  go_wp2
  go_ret
  exact ⟨rfl, rfl⟩
theorem goes_2 {a b : Nat} (_ha : W64 a) (_hb : W64 b) (w : World) : Calls Try.prog 51 #[.int .i64 34, .int .u64 (a : Int), .int .u64 (b : Int)] w fun e w' => e = .returned (.bool (goN 2 a b)) ∧ w' = w := by
  have hr : goN 2 a b = ((a : Int) != (b : Int)) := by unfold goN; simp only; rw [Bool.eq_iff_iff]; simp <;> omega
  rw [hr]
  clear hr
  generalize (a : Int) = x at *
  generalize (b : Int) = y at *
  go_enter Try.func51, Try.ntmps51
  go_wp2
  go_ret
  exact ⟨rfl, rfl⟩
theorem goes_3 {a b : Nat} (_ha : W64 a) (_hb : W64 b) (w : World) : Calls Try.prog 51 #[.int .i64 35, .int .u64 (a : Int), .int .u64 (b : Int)] w fun e w' => e = .returned (.bool (goN 3 a b)) ∧ w' = w := by
  have hr : goN 3 a b = decide ((b : Int) < (a : Int)) := by unfold goN; simp only; rw [Bool.eq_iff_iff]; simp <;> omega
  rw [hr]
  clear hr
  generalize (a : Int) = x at *
  generalize (b : Int) = y at *
  go_enter Try.func51, Try.ntmps51
  go_wp2
  go_ret
  exact ⟨rfl, rfl⟩
theorem goes_4 {a b : Nat} (_ha : W64 a) (_hb : W64 b) (w : World) : Calls Try.prog 51 #[.int .i64 36, .int .u64 (a : Int), .int .u64 (b : Int)] w fun e w' => e = .returned (.bool (goN 4 a b)) ∧ w' = w := by
  have hr : goN 4 a b = decide ((b : Int) ≤ (a : Int)) := by unfold goN; simp only; rw [Bool.eq_iff_iff]; simp <;> omega
  rw [hr]
  clear hr
  generalize (a : Int) = x at *
  generalize (b : Int) = y at *
  go_enter Try.func51, Try.ntmps51
  go_wp2
  go_ret
  exact ⟨rfl, rfl⟩
theorem goes_5 {a b : Nat} (_ha : W64 a) (_hb : W64 b) (w : World) : Calls Try.prog 51 #[.int .i64 37, .int .u64 (a : Int), .int .u64 (b : Int)] w fun e w' => e = .returned (.bool (goN 5 a b)) ∧ w' = w := by
  have hr : goN 5 a b = decide ((a : Int) < (b : Int)) := by unfold goN; simp only; rw [Bool.eq_iff_iff]; simp <;> omega
  rw [hr]
  clear hr
  generalize (a : Int) = x at *
  generalize (b : Int) = y at *
  go_enter Try.func51, Try.ntmps51
  go_wp2
  go_ret
  exact ⟨rfl, rfl⟩
theorem goes_6 {a b : Nat} (_ha : W64 a) (_hb : W64 b) (w : World) : Calls Try.prog 51 #[.int .i64 38, .int .u64 (a : Int), .int .u64 (b : Int)] w fun e w' => e = .returned (.bool (goN 6 a b)) ∧ w' = w := by
  have hr : goN 6 a b = decide ((a : Int) ≤ (b : Int)) := by unfold goN; simp only; rw [Bool.eq_iff_iff]; simp <;> omega
  rw [hr]
  clear hr
  generalize (a : Int) = x at *
  generalize (b : Int) = y at *
  go_enter Try.func51, Try.ntmps51
  go_wp2
  go_ret
  exact ⟨rfl, rfl⟩
theorem goes_7 {a b : Nat} (ha : W64 a) (hb : W64 b) (w : World) : Calls Try.prog 51 #[.int .i64 39, .int .u64 (a : Int), .int .u64 (b : Int)] w fun e w' => e = .returned (.bool (goN 7 a b)) ∧ w' = w := by
  obtain ⟨r, hr⟩ : ∃ r, r = a &&& b := ⟨_, rfl⟩
  have h1 : bits .and .u64 (a : Int) (b : Int) = (r : Int) := by rw [hr]; exact u64_and_nat a b ha hb
  have h2 : goN 7 a b = ((r : Int) != 0) := by show decide ((a &&& b) ≠ 0) = _; rw [← hr, Bool.eq_iff_iff]; simp
  rw [h2]
  generalize (r : Int) = x at *
  clear h2 hr ha hb
  go_enter Try.func51, Try.ntmps51
  go_wp2
  go_ret
  exact ⟨rfl, rfl⟩
theorem goes_8 {a b : Nat} (ha : W64 a) (hb : W64 b) (w : World) : Calls Try.prog 51 #[.int .i64 40, .int .u64 (a : Int), .int .u64 (b : Int)] w fun e w' => e = .returned (.bool (goN 8 a b)) ∧ w' = w := by
  obtain ⟨x, hx⟩ : ∃ x, x = sg a := ⟨_, rfl⟩
  obtain ⟨y, hy⟩ : ∃ y, y = sg b := ⟨_, rfl⟩
  have h1 : IntKind.i64.wrap (a : Int) = x := by rw [IntKind.wrap_i64, hx]; unfold sg; unfold W64 at ha; split <;> omega
  have h2 : IntKind.i64.wrap (b : Int) = y := by rw [IntKind.wrap_i64, hy]; unfold sg; unfold W64 at hb; split <;> omega
  have h3 : goN 8 a b = decide (y < x) := by rw [hx, hy]; rfl
  rw [h3]
  clear h3 hx hy ha hb
  go_enter Try.func51, Try.ntmps51
  go_wp2
  go_ret
  exact ⟨rfl, rfl⟩
theorem goes_9 {a b : Nat} (ha : W64 a) (hb : W64 b) (w : World) : Calls Try.prog 51 #[.int .i64 41, .int .u64 (a : Int), .int .u64 (b : Int)] w fun e w' => e = .returned (.bool (goN 9 a b)) ∧ w' = w := by
  obtain ⟨x, hx⟩ : ∃ x, x = sg a := ⟨_, rfl⟩
  obtain ⟨y, hy⟩ : ∃ y, y = sg b := ⟨_, rfl⟩
  have h1 : IntKind.i64.wrap (a : Int) = x := by rw [IntKind.wrap_i64, hx]; unfold sg; unfold W64 at ha; split <;> omega
  have h2 : IntKind.i64.wrap (b : Int) = y := by rw [IntKind.wrap_i64, hy]; unfold sg; unfold W64 at hb; split <;> omega
  have h3 : goN 9 a b = decide (x < y) := by rw [hx, hy]; rfl
  rw [h3]
  clear h3 hx hy ha hb
  go_enter Try.func51, Try.ntmps51
  go_wp2
  go_ret
  exact ⟨rfl, rfl⟩
theorem goes_any {p : Nat} (hp : p ≤ 9) {a b : Nat} (ha : W64 a) (hb : W64 b) (w : World) : Calls Try.prog 51 #[.int .i64 ((p : Int) + 32), .int .u64 (a : Int), .int .u64 (b : Int)] w fun e w' => e = .returned (.bool (goN p a b)) ∧ w' = w := by
  obtain (rfl | rfl | rfl | rfl | rfl | rfl | rfl | rfl | rfl | rfl) := (show p = 0 ∨ p = 1 ∨ p = 2 ∨ p = 3 ∨ p = 4 ∨ p = 5 ∨ p = 6 ∨ p = 7 ∨ p = 8 ∨ p = 9 by omega)
  · exact goes_0 ha hb w
  · exact goes_1 ha hb w
  · exact goes_2 ha hb w
  · exact goes_3 ha hb w
  · exact goes_4 ha hb w
  · exact goes_5 ha hb w
  · exact goes_6 ha hb w
  · exact goes_7 ha hb w
  · exact goes_8 ha hb w
  · exact goes_9 ha hb w

theorem jumps_any {op : Int} (ho : fit op) {a b : Nat} (ha : W64 a) (hb : W64 b) (w : World) :
    Calls Try.prog 41 #[.int .i64 op, .int .u64 (a : Int), .int .u64 (b : Int)] w fun e w' => e = .returned (.tuple #[.bool (goV op a b), .int .i64 (goE op)]) ∧ w' = w := by
  have HY := Lib.hid (fun w => class_any ho.1 ho.2 w)
  by_cases h : cls op = 2
  · obtain ⟨p, hp, hl, _⟩ := pl_jump h
    have HX := Lib.hid (fun w => with_jump h w)
    have HS := Lib.hid (fun w => goes_any hl ha hb w)
    have e1 : goV op a b = goN p a b := by unfold goV; rw [if_pos h, hp]; congr 1; omega
    have e2 : goE op = 0 := by unfold goE; rw [if_pos h]
    rw [e1, e2]
    rw [hp] at HX
    rw [h] at HY
    generalize goN p a b = r at *
    generalize (p : Int) + 32 = q at *
    clear e1 e2 h hp hl ha hb ho
    go_enter Try.func41, Try.ntmps41
    go_wp2_with (first
      | (with_reducible refine (HY.out _).mono ?_; rintro e w' ⟨rfl, rfl⟩)
      | (with_reducible refine (HX.out _).mono ?_; rintro e w' ⟨rfl, rfl⟩)
      | (with_reducible refine (HS.out _).mono ?_; rintro e w' ⟨rfl, rfl⟩)
      | fail)
    go_ret2
    exact ⟨rfl, rfl⟩
  · have e1 : goV op a b = false := by unfold goV; rw [if_neg h]
    have e2 : goE op = 11 := by unfold goE; rw [if_neg h]
    rw [e1, e2]
    have hn : (cls op != 2) = true := by simpa using h
    generalize cls op = c at *
    clear e1 e2 h ha hb ho
    go_enter Try.func41, Try.ntmps41
    go_wp2_with (first
      | (with_reducible refine (HY.out _).mono ?_; rintro e w' ⟨rfl, rfl⟩)
      | fail)
    go_ret2
    exact ⟨rfl, rfl⟩

/-- A number as a word. -/
def wdN (n : Int) : Nat := (n % 18446744073709551616).toNat
theorem wdN_lt (n : Int) : W64 (wdN n) := by
  unfold wdN W64
  omega
theorem word_any (n : Int) (w : World) : Calls Try.prog 53 #[.int .i64 n] w fun e w' => e = .returned (.int .u64 ((wdN n : Nat) : Int)) ∧ w' = w := by
  have h1 : IntKind.u64.wrap n = ((wdN n : Nat) : Int) := by rw [IntKind.wrap_u64]; unfold wdN; omega
  go_enter Try.func53, Try.ntmps53
  go_wp2
  go_ret
  exact ⟨rfl, rfl⟩
end Go.Proofs.Ytlffcccicpdnfaa
