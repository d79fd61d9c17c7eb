/-
  The document's bits, one by one; high, less.
-/
import Derived.Test.YtkjeibdoghcgfaaAlD
namespace Go.Proofs.Ytkjeibdoghcgfaa
open Go.RowKit Go.BigFrame Go.Lib

attribute [local go_sem] Oper.semAt_some

set_option maxHeartbeats 1000000 in
theorem rbits_any {how : Nat} (hh : how ≤ 2) {a b : Nat} (ha : W64 a) (hb : W64 b) (w : World) :
    Calls Try.prog 20 #[.int .u64 (a : Int), .int .u64 (b : Int), .int .i64 (how : Int)] w fun e w' => e = .returned (.int .u64 ((opN how a b : Nat) : Int)) ∧ w' = w := by
  have HO := Lib.hid (opN_lt how ha hb)
  obtain ⟨r, hr⟩ : ∃ r, r = opN how a b := ⟨_, rfl⟩
  rw [← hr] at HO ⊢
  have HR := Lib.hid hr
  have HH := Lib.hid hh
  have HA := Lib.hid ha
  have HB := Lib.hid hb
  clear hr hh ha hb
  go_enter Try.func20, Try.ntmps20
  go_wp2_with fail
  go_loopw [0, 1, 7, 8, 9] (fun p q s t i wr => ∃ k x y z v : Nat, k ≤ 64 ∧ i = .int .i64 (k : Int) ∧ p = .int .u64 (x : Int) ∧ q = .int .u64 (y : Int) ∧ s = .int .u64 (z : Int) ∧ t = .int .u64 (v : Int) ∧ x = a / 2 ^ k ∧ y = b / 2 ^ k ∧ z = r % 2 ^ k ∧ v = 2 ^ k % 18446744073709551616 ∧ wr = w) (fun _ _ _ _ i _ => 64 - (intOf i).toNat)
  case atStart => exact ⟨0, a, b, 0, 1, by omega, rfl, rfl, rfl, rfl, rfl, by simp, by simp, by simp [Nat.mod_one], by simp, rfl⟩
  case round =>
    obtain ⟨k, x, y, z, v, hk, rfl, rfl, rfl, rfl, rfl, hx, hy, hz, hv, rfl⟩ := hrel
    have HX := Lib.hid hx
    have HY := Lib.hid hy
    have HZ := Lib.hid hz
    have HV := Lib.hid hv
    have hxl : x < 18446744073709551616 := by have := Nat.div_le_self a (2 ^ k); have := HA.out; unfold W64 at this; omega
    have hyl : y < 18446744073709551616 := by have := Nat.div_le_self b (2 ^ k); have := HB.out; unfold W64 at this; omega
    clear hx hy hz hv
    by_cases hlt : k < 64
    · have hpw : 2 ^ k ≤ 2 ^ 63 := Nat.pow_le_pow_right (by decide) (by omega)
      have hv2 : v = 2 ^ k := by rw [HV.out]; exact Nat.mod_eq_of_lt (Nat.lt_of_le_of_lt hpw (by decide))
      have hzl : z < 2 ^ k := by rw [HZ.out]; exact Nat.mod_lt _ (Nat.pow_pos (by decide))
      have bx := bit_of a k
      have bya := bit_of b k
      rw [← HX.out] at bx
      rw [← HY.out] at bya
      have hstep := bit_step how a b k
      rw [← HR.out, ← HZ.out] at hstep
      have hs1 : IntKind.u64.wrap ((z : Int) + (v : Int)) = ((z + v : Nat) : Int) := by rw [IntKind.wrap_u64]; omega
      have hvw : IntKind.u64.wrap ((v : Int) * 2) = ((v * 2 % 18446744073709551616 : Nat) : Int) := by rw [IntKind.wrap_u64]; omega
      have hxw : IntKind.u64.wrap ((x : Int) / 2) = ((x / 2 : Nat) : Int) := by rw [IntKind.wrap_u64]; omega
      have hyw : IntKind.u64.wrap ((y : Int) / 2) = ((y / 2 : Nat) : Int) := by rw [IntKind.wrap_u64]; omega
      have hve : v * 2 % 18446744073709551616 = 2 ^ (k + 1) % 18446744073709551616 := by rw [hv2, Nat.pow_succ]
      have hqx : x / 2 = a / 2 ^ (k + 1) := by rw [HX.out]; exact rsh_step a k
      have hqy : y / 2 = b / 2 ^ (k + 1) := by rw [HY.out]; exact rsh_step b k
      have HQX := Lib.hid hqx
      have HQY := Lib.hid hqy
      have HVE := Lib.hid hve
      have HST := Lib.hid hstep
      have HV2 := Lib.hid hv2
      generalize a.testBit k = p at *
      generalize b.testBit k = q at *
      generalize hzv : z + v = zv at *
      generalize v * 2 % 18446744073709551616 = v2 at *
      have HZV := Lib.hid hzv
      clear hpw hv2 hzl hve hqx hqy hstep hzv hxl hyl
      have hcase := HH.out
      obtain (rfl | rfl | rfl) := (show how = 0 ∨ how = 1 ∨ how = 2 by omega)
      all_goals
        clear hcase
        cases p <;> cases q
      all_goals
        go_wp2_with fail
        go_roundw
        case rel =>
          exact ⟨k + 1, x / 2, y / 2, _, v2, by omega, by go_num, rfl, rfl, rfl, rfl, HQX.out, HQY.out, by have h := HST.out; have h2 := HV2.out; have h3 := HZV.out; simp [opB] at h; omega, HVE.out, by trivial⟩
        case measure => simp [intOf]; omega
    · have hk64 : k = 64 := by omega
      have hzr : z = r := by rw [HZ.out, hk64]; exact Nat.mod_eq_of_lt (by have := HO.out; unfold W64 at this; simpa using this)
      clear hk64
      go_wp2_with fail
      go_ret
      exact ⟨by rw [hzr]; rfl, rfl⟩
theorem rbits_and {a b : Nat} (ha : W64 a) (hb : W64 b) (w : World) : Calls Try.prog 20 #[.int .u64 (a : Int), .int .u64 (b : Int), .int .i64 0] w fun e w' => e = .returned (.int .u64 ((a &&& b : Nat) : Int)) ∧ w' = w := rbits_any (how := 0) (by decide) ha hb w
theorem rbits_or {a b : Nat} (ha : W64 a) (hb : W64 b) (w : World) : Calls Try.prog 20 #[.int .u64 (a : Int), .int .u64 (b : Int), .int .i64 1] w fun e w' => e = .returned (.int .u64 ((a ||| b : Nat) : Int)) ∧ w' = w := rbits_any (how := 1) (by decide) ha hb w
theorem rbits_xor {a b : Nat} (ha : W64 a) (hb : W64 b) (w : World) : Calls Try.prog 20 #[.int .u64 (a : Int), .int .u64 (b : Int), .int .i64 2] w fun e w' => e = .returned (.int .u64 ((a ^^^ b : Nat) : Int)) ∧ w' = w := rbits_any (how := 2) (by decide) ha hb w

theorem high_any (a : Nat) (w : World) : Calls Try.prog 21 #[.int .u64 (a : Int)] w fun e w' => e = .returned (.bool (decide (9223372036854775808 ≤ a))) ∧ w' = w := by
  have h : decide (9223372036854775808 ≤ a) = decide (9223372036854775808 ≤ (a : Int)) := by rw [Bool.eq_iff_iff]; simp; omega
  rw [h]
  clear h
  generalize (a : Int) = x at *
  go_enter Try.func21, Try.ntmps21
  go_wp2
  go_ret
  exact ⟨rfl, rfl⟩
theorem less_any {a b : Nat} (ha : W64 a) (hb : W64 b) (w : World) : Calls Try.prog 23 #[.int .u64 (a : Int), .int .u64 (b : Int)] w fun e w' => e = .returned (.bool (decide (sg a < sg b))) ∧ w' = w := by
  rw [sg_lt ha hb]
  have HA := Lib.hid (fun w => high_any a w)
  have HB := Lib.hid (fun w => high_any b w)
  have hlt : decide (a < b) = decide ((a : Int) < (b : Int)) := by rw [Bool.eq_iff_iff]; simp
  rw [hlt]
  clear hlt ha hb
  generalize decide (9223372036854775808 ≤ a) = p at *
  generalize decide (9223372036854775808 ≤ b) = q at *
  generalize (a : Int) = x at *
  generalize (b : Int) = y at *
  cases p <;> cases q
  all_goals
    go_enter Try.func23, Try.ntmps23
    go_wp2_with (first
      | (with_reducible refine (HA.out _).mono ?_; rintro e w' ⟨rfl, rfl⟩)
      | (with_reducible refine (HB.out _).mono ?_; rintro e w' ⟨rfl, rfl⟩)
      | fail)
    go_ret
    exact ⟨rfl, rfl⟩
end Go.Proofs.Ytkjeibdoghcgfaa
