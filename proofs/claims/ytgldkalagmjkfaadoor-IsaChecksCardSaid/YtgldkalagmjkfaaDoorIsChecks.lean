/-
  The law IsaChecks, walked.
-/
import Derived.Test.YtgldkalagmjkfaaDoorIsP
namespace Go.Proofs.YtgldkalagmjkfaaDoor
open Go.RowKit Go.Lib

attribute [local go_sem] Oper.semAt_some

theorem checks_law {x : I5} (hx : Fit x) {w : World} (hT : Tb w) :
    Calls Tryd.prog 4 #[iv x] w fun e w' => e = .returned (.bool true) ∧ Below w.heap.size w w' := by
  have HT := Lib.hid hT
  have HR := Lib.hid (fun w => rcheck_any x w)
  have HK := Lib.hid (fun w => check_any hx w)
  have HTo := Lib.hid (fun w => to_any x w)
  have HF := Lib.hid (Five.new w x 29)
  have HC := Lib.hid ((Ch.refl [] w).alloc (.cells #[.int .i64 x.op, .int .i64 x.d, .int .i64 x.s, .int .i64 x.o, .int .i64 x.i] 29))
  by_cases hz : chk x = 0
  · have HX := Lib.hid (fun (w : World) (h : Tb w) => text_any hx hz h)
    have HX2 := Lib.hid (fun w => rtext_any hz w)
    rw [hz] at HR HK
    generalize txt x = t at *
    obtain ⟨op, d, s, o, i⟩ := x
    unfold iv at *
    simp only at *
    obtain ⟨a0, a1, a2, a3, a4⟩ := HF.out
    simp only at a0 a1 a2 a3 a4
    clear hT hx hz
    go_enter Tryd.func4, Tryd.ntmps4
    go_wp2_with fail
    with_reducible refine (HR.out _).mono ?_
    rintro e w1 ⟨rfl, hc1⟩
    have HC1 := Lib.hid (HC.out.trans hc1)
    have HF1 := Lib.hid (HF.out.ch hc1 (by simp))
    obtain ⟨b0, b1, b2, b3, b4⟩ := HF1.out
    simp only at b0 b1 b2 b3 b4
    clear hc1 a0 a1 a2 a3 a4
    go_wp2_with fail
    with_reducible refine (HX2.out _).mono ?_
    rintro e w2 ⟨rfl, hc2⟩
    have HC2 := Lib.hid (HC1.out.trans hc2)
    have HF2 := Lib.hid (HF1.out.ch hc2 (by simp))
    clear hc2 b0 b1 b2 b3 b4 HF1
    go_wp2_with fail
    with_reducible refine (known_any (HT.out.ch HC2.out)).mono ?_
    rintro e w3 ⟨rfl, hc3⟩
    have HC3 := Lib.hid (HC2.out.trans hc3)
    have HF3 := Lib.hid (HF2.out.ch hc3 (by simp))
    obtain ⟨b0, b1, b2, b3, b4⟩ := HF3.out
    simp only at b0 b1 b2 b3 b4
    clear hc3 HF2
    go_wp2_with fail
    with_reducible refine (HTo.out _).mono ?_
    rintro e w4 ⟨rfl, hc4⟩
    have HC4 := Lib.hid (HC3.out.trans hc4)
    have HF4 := Lib.hid (HF3.out.ch hc4 (by simp))
    clear hc4 b0 b1 b2 b3 b4 HF3
    go_wp2_with fail
    with_reducible refine (HK.out _).mono ?_
    rintro e w5 ⟨rfl, hc5⟩
    have HC5 := Lib.hid (HC4.out.trans hc5)
    have HF5 := Lib.hid (HF4.out.ch hc5 (by simp))
    obtain ⟨b0, b1, b2, b3, b4⟩ := HF5.out
    simp only at b0 b1 b2 b3 b4
    clear hc5 HF4
    go_wp2_with fail
    with_reducible refine (HTo.out _).mono ?_
    rintro e w6 ⟨rfl, hc6⟩
    have HC6 := Lib.hid (HC5.out.trans hc6)
    clear hc6 b0 b1 b2 b3 b4 HF5
    go_wp2_with fail
    with_reducible refine (HX.out _ (HT.out.ch HC6.out)).mono ?_
    rintro e w7 ⟨rfl, hc7⟩
    have HC7 := Lib.hid (HC6.out.trans hc7)
    clear hc7
    go_wp2
    go_ret
    exact ⟨rfl, HC7.out.below _ (by simp) (Nat.le_refl _)⟩
  · have HX := Lib.hid (fun (w : World) => text_bad hx hz w)
    have hzb : (chk x == 0) = false := by simpa using hz
    generalize chk x = c at *
    obtain ⟨op, d, s, o, i⟩ := x
    unfold iv at *
    simp only at *
    obtain ⟨a0, a1, a2, a3, a4⟩ := HF.out
    simp only at a0 a1 a2 a3 a4
    clear hT hx hz
    go_enter Tryd.func4, Tryd.ntmps4
    go_wp2_with fail
    with_reducible refine (HR.out _).mono ?_
    rintro e w2 ⟨rfl, hc1⟩
    have HC2 := Lib.hid (HC.out.trans hc1)
    have HF2 := Lib.hid (HF.out.ch hc1 (by simp))
    clear hc1 a0 a1 a2 a3 a4
    go_wp2_with fail
    with_reducible refine (known_any (HT.out.ch HC2.out)).mono ?_
    rintro e w3 ⟨rfl, hc3⟩
    have HC3 := Lib.hid (HC2.out.trans hc3)
    have HF3 := Lib.hid (HF2.out.ch hc3 (by simp))
    obtain ⟨b0, b1, b2, b3, b4⟩ := HF3.out
    simp only at b0 b1 b2 b3 b4
    clear hc3 HF2
    go_wp2_with fail
    with_reducible refine (HTo.out _).mono ?_
    rintro e w4 ⟨rfl, hc4⟩
    have HC4 := Lib.hid (HC3.out.trans hc4)
    have HF4 := Lib.hid (HF3.out.ch hc4 (by simp))
    clear hc4 b0 b1 b2 b3 b4 HF3
    go_wp2_with fail
    with_reducible refine (HK.out _).mono ?_
    rintro e w5 ⟨rfl, hc5⟩
    have HC5 := Lib.hid (HC4.out.trans hc5)
    have HF5 := Lib.hid (HF4.out.ch hc5 (by simp))
    obtain ⟨b0, b1, b2, b3, b4⟩ := HF5.out
    simp only at b0 b1 b2 b3 b4
    clear hc5 HF4
    go_wp2_with fail
    with_reducible refine (HTo.out _).mono ?_
    rintro e w6 ⟨rfl, hc6⟩
    have HC6 := Lib.hid (HC5.out.trans hc6)
    clear hc6 b0 b1 b2 b3 b4 HF5
    go_wp2_with fail
    with_reducible refine (HX.out _).mono ?_
    rintro e w7 ⟨rfl, hc7⟩
    have HC7 := Lib.hid (HC6.out.trans hc7)
    clear hc7
    go_wp2
    go_ret
    exact ⟨rfl, HC7.out.below _ (by simp) (Nat.le_refl _)⟩
end Go.Proofs.YtgldkalagmjkfaaDoor
