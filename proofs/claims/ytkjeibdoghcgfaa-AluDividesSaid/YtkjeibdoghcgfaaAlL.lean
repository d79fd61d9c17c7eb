/-
  The laws AluSums, AluJumps, walked.
-/
import Derived.Test.YtkjeibdoghcgfaaAlG
import Derived.Test.YtkjeibdoghcgfaaAlH
namespace Go.Proofs.Ytkjeibdoghcgfaa
open Go.RowKit Go.BigFrame Go.Lib

attribute [local go_sem] Oper.semAt_some

theorem sums_law {op : Int} (hop : fit op) {a b : Nat} (ha : W64 a) (hb : W64 b) (w : World) :
    Calls Try.prog 3 #[.int .i64 op, .int .u64 (a : Int), .int .u64 (b : Int)] w fun e w' => e = .returned (.bool true) ∧ Below w.heap.size w w' := by
  have HO := Lib.hid hop
  have HA := Lib.hid ha
  have HB := Lib.hid hb
  clear hop ha hb
  go_enter Try.func3, Try.ntmps3
  go_wp2_with fail
  go_loopw [7] (fun i wr => ∃ j : Nat, i = .int .i64 (j : Int) ∧ j ≤ 30 ∧ Ch [] w wr) (fun i _ => 30 - (intOf i).toNat)
  case atStart => exact ⟨0, rfl, by decide, Ch.refl _ _⟩
  case round =>
    obtain ⟨j, rfl, hj, hch⟩ := hrel
    have HC := Lib.hid hch
    clear hch
    by_cases hlt : j < 30
    · have HD := Lib.hid (fun w => do_any (op := (j : Int)) ⟨by omega, by omega⟩ HA.out HB.out w)
      have HR := Lib.hid (fun w => rdo_any (j : Int) HA.out HB.out w)
      have hjw : IntKind.i64.wrap ((j : Int) + 1) = ((j + 1 : Nat) : Int) := by rw [IntKind.wrap_i64]; omega
      generalize doV (j : Int) a b = v at *
      generalize doE (j : Int) = x at *
      go_wp2_with fail
      with_reducible refine (HD.out _).mono ?_
      rintro e w1 ⟨rfl, hc1⟩
      have HC1 := Lib.hid (HC.out.trans hc1)
      clear hc1
      go_wp2_with fail
      with_reducible refine (HR.out _).mono ?_
      rintro e w2 ⟨rfl, hc2⟩
      have HC2 := Lib.hid (HC1.out.trans hc2)
      clear hc2
      go_wp2_with fail
      go_roundw
      case rel => exact ⟨j + 1, rfl, by omega, HC2.out⟩
      case measure => simp [intOf]; omega
    · have HD := Lib.hid (fun w => do_any HO.out HA.out HB.out w)
      have HR := Lib.hid (fun w => rdo_any op HA.out HB.out w)
      generalize doV op a b = v at *
      generalize doE op = x at *
      clear hj
      go_wp2_with fail
      with_reducible refine (HD.out _).mono ?_
      rintro e w1 ⟨rfl, hc1⟩
      have HC1 := Lib.hid (HC.out.trans hc1)
      clear hc1
      go_wp2_with fail
      with_reducible refine (HR.out _).mono ?_
      rintro e w2 ⟨rfl, hc2⟩
      have HC2 := Lib.hid (HC1.out.trans hc2)
      clear hc2
      go_wp2_with fail
      with_reducible refine (known_any _).mono ?_
      rintro e w3 ⟨rfl, hc3⟩
      have HC3 := Lib.hid (HC2.out.trans hc3)
      clear hc3
      go_wp2
      go_ret
      exact ⟨rfl, HC3.out.below _ (by simp) (Nat.le_refl _)⟩

theorem jumps_law {op : Int} (hop : fit op) {a b : Nat} (ha : W64 a) (hb : W64 b) (w : World) :
    Calls Try.prog 4 #[.int .i64 op, .int .u64 (a : Int), .int .u64 (b : Int)] w fun e w' => e = .returned (.bool true) ∧ Below w.heap.size w w' := by
  have HO := Lib.hid hop
  have HA := Lib.hid ha
  have HB := Lib.hid hb
  clear hop ha hb
  go_enter Try.func4, Try.ntmps4
  go_wp2_with fail
  go_loopw [7] (fun i wr => ∃ j : Nat, i = .int .i64 (j : Int) ∧ j ≤ 60 ∧ Ch [] w wr) (fun i _ => 60 - (intOf i).toNat)
  case atStart => exact ⟨30, rfl, by decide, Ch.refl _ _⟩
  case round =>
    obtain ⟨j, rfl, hj, hch⟩ := hrel
    have HC := Lib.hid hch
    clear hch
    by_cases hlt : j < 60
    · have HD := Lib.hid (fun w => jumps_any (op := (j : Int)) ⟨by omega, by omega⟩ HA.out HB.out w)
      have HR := Lib.hid (fun w => rjumps_any (j : Int) HA.out HB.out w)
      have hjw : IntKind.i64.wrap ((j : Int) + 1) = ((j + 1 : Nat) : Int) := by rw [IntKind.wrap_i64]; omega
      generalize goV (j : Int) a b = v at *
      generalize goE (j : Int) = x at *
      go_wp2_with fail
      with_reducible refine (HD.out _).mono ?_
      rintro e w1 ⟨rfl, rfl⟩
      go_wp2_with fail
      with_reducible refine (HR.out _).mono ?_
      rintro e w2 ⟨rfl, hc2⟩
      have HC2 := Lib.hid (HC.out.trans hc2)
      clear hc2
      go_wp2_with fail
      go_roundw
      case rel => exact ⟨j + 1, rfl, by omega, HC2.out⟩
      case measure => simp [intOf]; omega
    · have HD := Lib.hid (fun w => jumps_any HO.out HA.out HB.out w)
      have HR := Lib.hid (fun w => rjumps_any op HA.out HB.out w)
      generalize goV op a b = v at *
      generalize goE op = x at *
      clear hj
      go_wp2_with fail
      with_reducible refine (HD.out _).mono ?_
      rintro e w1 ⟨rfl, rfl⟩
      go_wp2_with fail
      with_reducible refine (HR.out _).mono ?_
      rintro e w2 ⟨rfl, hc2⟩
      have HC2 := Lib.hid (HC.out.trans hc2)
      clear hc2
      go_wp2_with fail
      with_reducible refine (known_any _).mono ?_
      rintro e w3 ⟨rfl, hc3⟩
      have HC3 := Lib.hid (HC2.out.trans hc3)
      clear hc3
      go_wp2
      go_ret
      exact ⟨rfl, HC3.out.below _ (by simp) (Nat.le_refl _)⟩
end Go.Proofs.Ytkjeibdoghcgfaa
