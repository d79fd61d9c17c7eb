/-
  The chapter's examples; Fold.
-/
import Derived.Test.YtkjeibdoghcgfaaAlD
namespace Go.Proofs.Ytkjeibdoghcgfaa
open Go.RowKit Go.BigFrame Go.Lib

attribute [local go_sem] Oper.semAt_some

theorem ex1 (w : World) : Calls Try.prog 9 #[.int .i64 3, .int .u64 7, .int .u64 0] w fun e w' => e = .returned (.tuple #[.int .u64 0, .int .i64 0]) ∧ Ch [] w w' := by
  have h := do_any (op := 3) ⟨by decide, by decide⟩ (a := 7) (b := 0) (by decide) (by decide) w
  rw [show doV 3 7 0 = 0 by decide +kernel, show doE 3 = 0 by decide +kernel] at h
  exact h
theorem ex2 (w : World) : Calls Try.prog 9 #[.int .i64 4, .int .u64 7, .int .u64 0] w fun e w' => e = .returned (.tuple #[.int .u64 7, .int .i64 0]) ∧ Ch [] w w' := by
  have h := do_any (op := 4) ⟨by decide, by decide⟩ (a := 7) (b := 0) (by decide) (by decide) w
  rw [show doV 4 7 0 = 7 by decide +kernel, show doE 4 = 0 by decide +kernel] at h
  exact h
theorem ex3 (w : World) : Calls Try.prog 9 #[.int .i64 10, .int .u64 9223372036854775808, .int .u64 63] w fun e w' => e = .returned (.tuple #[.int .u64 18446744073709551615, .int .i64 0]) ∧ Ch [] w w' := by
  have h := do_any (op := 10) ⟨by decide, by decide⟩ (a := 9223372036854775808) (b := 63) (by decide) (by decide) w
  rw [show doV 10 9223372036854775808 63 = 18446744073709551615 by decide +kernel, show doE 10 = 0 by decide +kernel] at h
  exact h
theorem ex4 (w : World) : Calls Try.prog 9 #[.int .i64 8, .int .u64 1, .int .u64 65] w fun e w' => e = .returned (.tuple #[.int .u64 2, .int .i64 0]) ∧ Ch [] w w' := by
  have h := do_any (op := 8) ⟨by decide, by decide⟩ (a := 1) (b := 65) (by decide) (by decide) w
  rw [show doV 8 1 65 = 2 by decide +kernel, show doE 8 = 0 by decide +kernel] at h
  exact h
theorem ex5 (w : World) : Calls Try.prog 12 #[.int .i64 40, .int .u64 0, .int .u64 18446744073709551615] w fun e w' => e = .returned (.tuple #[.bool true, .int .i64 0]) ∧ w' = w := by
  have h := jumps_any (op := 40) ⟨by decide, by decide⟩ (a := 0) (b := 18446744073709551615) (by decide) (by decide) w
  rw [show goV 40 0 18446744073709551615 = true by decide +kernel, show goE 40 = 0 by decide +kernel] at h
  exact h
theorem ex6 (w : World) : Calls Try.prog 12 #[.int .i64 35, .int .u64 0, .int .u64 18446744073709551615] w fun e w' => e = .returned (.tuple #[.bool false, .int .i64 0]) ∧ w' = w := by
  have h := jumps_any (op := 35) ⟨by decide, by decide⟩ (a := 0) (b := 18446744073709551615) (by decide) (by decide) w
  rw [show goV 35 0 18446744073709551615 = false by decide +kernel, show goE 35 = 0 by decide +kernel] at h
  exact h

theorem known_any (w : World) : Calls Try.prog 11 #[] w fun e w' => e = .returned (.bool true) ∧ Ch [] w w' := by
  go_enter Try.func11, Try.ntmps11
  go_wp2_with fail
  with_reducible refine (ex1 _).mono ?_
  rintro e w1 ⟨rfl, hc1⟩
  have H1 := Lib.hid hc1
  clear hc1
  go_wp2_with fail
  with_reducible refine (ex2 _).mono ?_
  rintro e w2 ⟨rfl, hc2⟩
  have H2 := Lib.hid (H1.out.trans hc2)
  clear hc2
  go_wp2_with fail
  with_reducible refine (ex3 _).mono ?_
  rintro e w3 ⟨rfl, hc3⟩
  have H3 := Lib.hid (H2.out.trans hc3)
  clear hc3
  go_wp2_with fail
  with_reducible refine (ex4 _).mono ?_
  rintro e w4 ⟨rfl, hc4⟩
  have H4 := Lib.hid (H3.out.trans hc4)
  clear hc4
  go_wp2_with fail
  with_reducible refine (ex5 _).mono ?_
  rintro e w5 ⟨rfl, rfl⟩
  go_wp2_with fail
  with_reducible refine (ex6 _).mono ?_
  rintro e w6 ⟨rfl, rfl⟩
  go_wp2
  go_ret
  exact ⟨rfl, H4.out⟩

/-! ### Fold -/
/-- Words that came in. -/
structure WordsAt (w : World) (a : Option Addr) (len : Nat) (z : Nat → Nat) : Prop where
  wd : ∀ i, W64 (z i)
  at' : len = 0 ∨ ∃ b off, a = some ⟨b, off, none⟩ ∧ ∀ i, i < len → w.cell? ⟨b, off + i, none⟩ = some (.int .u64 (z i : Int))
theorem WordsAt.ch {w w' : World} {a : Option Addr} {len : Nat} {z : Nat → Nat} (h : WordsAt w a len z) (hc : Ch [] w w') : WordsAt w' a len z := by
  refine ⟨h.wd, ?_⟩
  rcases h.at' with h0 | ⟨b, off, rfl, h1⟩
  · exact .inl h0
  · exact .inr ⟨b, off, rfl, fun i hi => (hc.cell (p := ⟨b, off + i, none⟩) (cell_lt (h1 i hi)) (by simp)).trans (h1 i hi)⟩
theorem WordsAt.take {w : World} {a : Option Addr} {len : Nat} {z : Nat → Nat} (h : WordsAt w a len z) (k : Nat) (hk : k ≤ len) : WordsAt w a k z := by
  refine ⟨h.wd, ?_⟩
  rcases h.at' with h0 | ⟨b, off, rfl, h1⟩
  · exact .inl (by omega)
  · exact .inr ⟨b, off, rfl, fun i hi => h1 i (by omega)⟩

/-- An operation on a with each of k words, one behind the other. -/
def foldN (op : Int) (a : Nat) (z : Nat → Nat) : Nat → Nat
  | 0 => a
  | k + 1 => doV op (foldN op a z k) (z k)
theorem foldN_lt (op : Int) {a : Nat} (ha : W64 a) {z : Nat → Nat} (hz : ∀ i, W64 (z i)) (k : Nat) : W64 (foldN op a z k) := by
  induction k with
  | zero => exact ha
  | succ k ih => exact doV_lt op ih (hz k)

theorem fold_any {op : Int} (ho : fit op) {a : Nat} (ha : W64 a) {ao : Option Addr} {len cap : Nat} {z : Nat → Nat} {w : World} (hz : WordsAt w ao len z) (hl : len ≤ 9223372036854775807) :
    Calls Try.prog 14 #[.int .i64 op, .int .u64 (a : Int), .slice ao len cap] w fun e w' => e = .returned (.tuple #[.int .u64 ((if cls op = 1 then foldN op a z len else 0 : Nat) : Int), .int .i64 (doE op)]) ∧ Ch [] w w' := by
  have HY := Lib.hid (fun w => class_any ho.1 ho.2 w)
  by_cases h : cls op = 1
  · have e2 : doE op = 0 := by unfold doE; rw [if_pos h]
    rw [if_pos h, e2]
    rw [h] at HY
    have HO := Lib.hid (show fit op ∧ doE op = 0 from ⟨ho, e2⟩)
    have HZ := Lib.hid hz
    have HA := Lib.hid ha
    have HL := Lib.hid hl
    clear ho e2 h hz ha hl
    go_enter Try.func14, Try.ntmps14
    go_wp2_with (first | (with_reducible refine (HY.out _).mono ?_; rintro e w1 ⟨rfl, rfl⟩) | fail)
    go_loopw [1, 15] (fun x i wr => ∃ k y : Nat, k ≤ len ∧ i = .int .i64 (k : Int) ∧ x = .int .u64 (y : Int) ∧ y = foldN op a z k ∧ Ch [] w1 wr) (fun _ i _ => len - (intOf i).toNat)
    case atStart => exact ⟨0, a, Nat.zero_le _, rfl, rfl, rfl, Ch.refl _ _⟩
    case round =>
      obtain ⟨k, y, hk, rfl, rfl, hy, hc⟩ := hrel
      have HC := Lib.hid hc
      have HX := Lib.hid hy
      clear hc
      by_cases hlt : k < len
      · obtain ⟨b, off, rfl, hcell⟩ := (HZ.out.ch HC.out).at'.resolve_left (by omega)
        have hx := hcell k hlt
        have hb0 : (0 : Int) ≤ (k : Int) := by omega
        have hkw : IntKind.i64.wrap ((k : Int) + 1) = ((k + 1 : Nat) : Int) := by rw [IntKind.wrap_i64]; have := HL.out; omega
        have hD := do_any HO.out.1 (a := y) (b := z k) (by rw [hy]; exact foldN_lt op HA.out HZ.out.wd k) (HZ.out.wd k) wr
        rw [HO.out.2] at hD
        obtain ⟨v, hv⟩ : ∃ v, v = doV op y (z k) := ⟨_, rfl⟩
        rw [← hv] at hD
        have HD := Lib.hid hD
        have HV := Lib.hid hv
        clear hD hv hcell hy
        go_wp2_with fail
        with_reducible refine HD.out.mono ?_
        rintro e w2 ⟨rfl, hc2⟩
        have HC2 := Lib.hid (HC.out.trans hc2)
        clear hc2
        go_wp2_with fail
        go_roundw
        case rel => exact ⟨k + 1, v, by omega, rfl, rfl, by rw [HV.out, HX.out]; rfl, HC2.out⟩
        case measure => simp [intOf]; omega
      · obtain rfl : k = len := by omega
        clear hy
        go_wp2_with fail
        go_ret2
        exact ⟨by rw [HX.out]; rfl, HC.out⟩
  · have e2 : doE op = 11 := by unfold doE; rw [if_neg h]
    rw [if_neg h, e2]
    have hn : (cls op != 1) = true := by simpa using h
    generalize cls op = c at *
    clear e2 h ha ho hz hl
    go_enter Try.func14, Try.ntmps14
    go_wp2_with (first | (with_reducible refine (HY.out _).mono ?_; rintro e w1 ⟨rfl, rfl⟩) | fail)
    go_ret2
    exact ⟨rfl, Ch.refl _ _⟩
end Go.Proofs.Ytkjeibdoghcgfaa
