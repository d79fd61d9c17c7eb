/-
  The walks of the laws MaskNext and MaskTurns.
-/
import Derived.Test.YtajpjmnkjpildaaDoorMaskK
import Derived.Test.YtajpjmnkjpildaaDoorMaskL
namespace Go.Proofs.YtajpjmnkjpildaaDoor
open Go.RowKit

set_option maxHeartbeats 1000000 in
theorem next_law (m : Nat) (hm : m < 18446744073709551616) (from' : Int) (w : World) (hT : Tab w) :
    Calls Tryd.prog 5 #[.int .u64 (m : Int), .int .i64 from'] w fun e w' => e = .returned (.bool true) ∧ Below w.heap.size w w' := by
  have hg := tab_pos hT
  have HT := Lib.hid hT
  have HM := Lib.hid hm
  clear hT hm
  go_enter Tryd.func5, Tryd.ntmps5
  go_wp2_with fail
  refine (bits_any m HM.out w).mono ?_
  rintro e w1 ⟨g, rfl, hBA, hg1, hb1⟩
  go_wp2_with fail
  refine (next_any m HM.out from' w1 (HT.out.below hb1 hg)).mono ?_
  rintro e w2 ⟨rfl, hb2⟩
  have hb02 := hb1.trans (hb2.mono hb1.size)
  have hBA2 := hBA.below hb2 hBA.lt
  clear hb1 hb2 hBA
  go_wp2_with fail
  refine (rnext_any g 64 (bl m) from' w2 hBA2).mono ?_
  rintro e w3 ⟨rfl, rfl⟩
  rw [refV_eq, refB_eq]
  go_wp2_with fail
  refine (around_any m HM.out from' w2 (HT.out.below hb02 hg)).mono ?_
  rintro e w3 ⟨rfl, hb3⟩
  have hb03 := hb02.trans (hb3.mono hb02.size)
  have hBA3 := hBA2.below hb3 hBA2.lt
  clear hb02 hb3 hBA2
  go_wp2_with fail
  refine (raround_any g 64 (bl m) from' w3 hBA3).mono ?_
  rintro e w4 ⟨rfl, rfl⟩
  rw [rarV_eq, rarB_eq]
  go_wp2_with fail
  refine (known_any w3 (HT.out.below hb03 hg)).mono ?_
  rintro e w4 ⟨rfl, hb4⟩
  have hb04 := hb03.trans (hb4.mono hb03.size)
  go_wp2
  go_ret
  exact ⟨rfl, hb04⟩

theorem back_mod (n : Int) : (wrap64 (-wrap64 ((IntKind.u64.wrap n).tmod 64)) + n) % 64 = 0 := by
  rw [IntKind.wrap_u64, Int.tmod_eq_emod_of_nonneg (by omega)]
  unfold wrap64
  omega

set_option maxHeartbeats 1000000 in
theorem turns_law (m : Nat) (hm : m < 18446744073709551616) (n : Int) (w : World) (hT : Tab w) :
    Calls Tryd.prog 6 #[.int .u64 (m : Int), .int .i64 n] w fun e w' => e = .returned (.bool true) ∧ Below w.heap.size w w' := by
  have hg := tab_pos hT
  have HT := Lib.hid hT
  have HM := Lib.hid hm
  clear hT hm
  go_enter Tryd.func6, Tryd.ntmps6
  go_wp2_with fail
  refine (turn_any m n w HM.out).mono ?_
  rintro e w1 ⟨rfl, rfl⟩
  go_wp2_with fail
  refine (known_any w HT.out).mono ?_
  rintro e w1 ⟨rfl, hb1⟩
  go_wp2_with fail
  refine (bits_any m HM.out w1).mono ?_
  rintro e w2 ⟨g, rfl, hBA, hg1, hb2⟩
  have hb02 := hb1.trans (hb2.mono hb1.size)
  clear hb1 hb2
  go_wp2_with fail
  refine (rturn_any g 64 (bl m) n w2 hBA).mono ?_
  rintro e w3 ⟨g2, rfl, hBA2, hg2, hb3⟩
  have hb03 := hb02.trans (hb3.mono hb02.size)
  rw [turn_bl m n HM.out] at hBA2
  clear hb02 hb3 hBA
  go_wp2_with fail
  refine (word_any g2 64 _ w3 hBA2).mono ?_
  rintro e w4 ⟨rfl, rfl⟩
  rw [word_bl _ (turnN_lt m n HM.out)]
  go_wp2_with fail
  refine (turn_any (turnN m n) (wrap64 (-wrap64 ((IntKind.u64.wrap n).tmod 64))) w3 (turnN_lt m n HM.out)).mono ?_
  rintro e w4 ⟨rfl, rfl⟩
  rw [turn_back m n _ HM.out (back_mod n)]
  go_wp2_with fail
  refine (len_any (turnN m n) (turnN_lt m n HM.out) w3).mono ?_
  rintro e w4 ⟨rfl, rfl⟩
  rw [pc_turn m n HM.out]
  go_wp2_with fail
  refine (len_any m HM.out w3).mono ?_
  rintro e w4 ⟨rfl, rfl⟩
  go_wp2
  go_ret
  exact ⟨rfl, hb03⟩
end Go.Proofs.YtajpjmnkjpildaaDoor
