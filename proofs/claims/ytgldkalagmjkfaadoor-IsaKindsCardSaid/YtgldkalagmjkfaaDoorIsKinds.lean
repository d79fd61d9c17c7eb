/-
  The law IsaKinds, walked.
-/
import Derived.Test.YtgldkalagmjkfaaDoorIsP
namespace Go.Proofs.YtgldkalagmjkfaaDoor
open Go.RowKit Go.Lib

attribute [local go_sem] Oper.semAt_some

theorem kinds_law {op : Int} (hop : fit op) {w : World} (hT : Tb w) :
    Calls Tryd.prog 3 #[.int .i64 op] w fun e w' => e = .returned (.bool true) ∧ Below w.heap.size w w' := by
  have HT := Lib.hid hT
  have HO := Lib.hid hop
  clear hT hop
  go_enter Tryd.func3, Tryd.ntmps3
  go_wp2_with fail
  go_loopw [3] (fun i wr => ∃ j : Int, i = .int .i64 j ∧ -3 ≤ j ∧ j ≤ 260 ∧ Ch [] w wr) (fun i _ => (260 - RowKit.intOf i).toNat)
  case atStart => exact ⟨-3, rfl, by decide, by decide, Ch.refl _ _⟩
  case round =>
    obtain ⟨j, rfl, h0, h1, hch⟩ := hrel
    have HC := Lib.hid hch
    have HJ := Lib.hid (And.intro h0 h1)
    have HK := Lib.hid (fun w => kind_any j w)
    have HY := Lib.hid (fun w => class_any (op := j) (by omega) (by omega) w)
    have HN := Lib.hid (fun (w : World) (h : Tb w) => name_any (op := j) (by omega) (by omega) h)
    unfold kindR at HK
    by_cases hlt : j < 260
    · have hd : decide (j < 260) = true := decide_eq_true hlt
      have hw : IntKind.i64.wrap (j + 1) = j + 1 := by rw [IntKind.wrap_i64]; omega
      generalize nm j = n at *
      generalize shp j = l at *
      generalize cls j = c at *
      clear hch h0 h1 hlt
      go_wp2_with fail
      with_reducible refine (HK.out _).mono ?_
      rintro e w1 ⟨rfl, hc1⟩
      have HC1 := Lib.hid (HC.out.trans hc1)
      have HT1 := Lib.hid (HT.out.ch (HC.out.trans hc1))
      clear hc1
      go_wp2_with fail
      with_reducible refine (HY.out _).mono ?_
      rintro e w2 ⟨rfl, rfl⟩
      go_wp2_with fail
      with_reducible refine (HN.out _ HT1.out).mono ?_
      rintro e w3 ⟨rfl, rfl⟩
      go_wp2_with fail
      go_roundw
      case rel => exact ⟨j + 1, by trivial, by have := HJ.out; omega, by have := HJ.out; have := of_decide_eq_true hd; omega, HC1.out⟩
      case measure => simp [RowKit.intOf]; have := of_decide_eq_true hd; omega
    · have hd : decide (j < 260) = false := decide_eq_false hlt
      have HK2 := Lib.hid (fun w => kind_any op w)
      have HY2 := Lib.hid (fun w => class_any HO.out.1 HO.out.2 w)
      have HN2 := Lib.hid (fun (w : World) (h : Tb w) => name_any HO.out.1 HO.out.2 h)
      unfold kindR at HK2
      generalize nm op = n at *
      generalize shp op = l at *
      generalize cls op = c at *
      clear hch h0 h1 hlt HK HY HN
      go_wp2_with fail
      with_reducible refine (HK2.out _).mono ?_
      rintro e w1 ⟨rfl, hc1⟩
      have HC1 := Lib.hid (HC.out.trans hc1)
      clear hc1
      go_wp2_with fail
      with_reducible refine (known_any (HT.out.ch HC1.out)).mono ?_
      rintro e w2 ⟨rfl, hc2⟩
      have HC2 := Lib.hid (HC1.out.trans hc2)
      have HT2 := Lib.hid (HT.out.ch HC2.out)
      clear hc2
      go_wp2_with fail
      with_reducible refine (HY2.out _).mono ?_
      rintro e w3 ⟨rfl, rfl⟩
      go_wp2_with fail
      with_reducible refine (HN2.out _ HT2.out).mono ?_
      rintro e w4 ⟨rfl, rfl⟩
      go_wp2
      go_ret
      exact ⟨rfl, HC2.out.below _ (by simp) (Nat.le_refl _)⟩
end Go.Proofs.YtgldkalagmjkfaaDoor
