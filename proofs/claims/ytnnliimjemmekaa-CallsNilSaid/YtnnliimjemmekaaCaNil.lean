/-
  The law CallsNil, walked.
-/
import Derived.Test.YtnnliimjemmekaaCaK
namespace Go.Proofs.Ytnnliimjemmekaa
open Go.RowKit

set_option maxHeartbeats 2000000 in
theorem nil_law (cpu gen : Int) (w : World) : Calls Try.prog 6 #[.int .i64 cpu, .int .i64 gen] w fun e w' => e = .returned (.bool true) ∧ Below w.heap.size w w' := by
  have HK := Lib.hid (known_any w)
  go_enter Try.func6, Try.ntmps6
  go_wp2_with fail
  with_reducible refine HK.out.mono ?_
  rintro e w1 ⟨rfl, hb1⟩
  have HB1 := Lib.hid hb1
  clear hb1
  go_frame
  go_wp2_with fail
  with_reducible refine (add_nil _ _ _).mono ?_
  rintro e w2 ⟨rfl, rfl⟩
  go_frame
  go_wp2_with fail
  with_reducible refine (close_nil _ _).mono ?_
  rintro e w2 ⟨rfl, rfl⟩
  go_frame
  go_wp2_with fail
  with_reducible refine (done_nil _ _).mono ?_
  rintro e w2 ⟨rfl, rfl⟩
  go_frame
  go_wp2_with fail
  with_reducible refine (of_nil _ _).mono ?_
  rintro e w2 ⟨rfl, rfl⟩
  have HB2 := Lib.hid (HB1.out.alloc HB1.out.size (.cells #[.int .i64 gen] 3))
  go_frame
  go_wp2_with fail
  with_reducible refine (open_nil _).mono ?_
  rintro e w3 ⟨rfl, hb3⟩
  have HB3 := Lib.hid (bel_bel HB2.out hb3)
  clear hb3
  go_frame
  go_wp2_with fail
  with_reducible refine (newest_nil _).mono ?_
  rintro e w4 ⟨rfl, hb4⟩
  have HB4 := Lib.hid (bel_bel HB3.out hb4)
  clear hb4
  go_frame
  go_wp2_with fail
  with_reducible refine (len_nil' _).mono ?_
  rintro e w5 ⟨rfl, hb5⟩
  have HB5 := Lib.hid (bel_bel HB4.out hb5)
  clear hb5
  go_frame
  go_wp2
  go_ret
  exact ⟨rfl, HB5.out⟩
end Go.Proofs.Ytnnliimjemmekaa
