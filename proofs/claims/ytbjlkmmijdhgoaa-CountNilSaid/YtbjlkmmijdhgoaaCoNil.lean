/-
  The law CountNil, walked.
-/
import Derived.Test.YtbjlkmmijdhgoaaCIH
namespace Go.Proofs.Ytbjlkmmijdhgoaa
open Go.RowKit cI

attribute [local go_sem] Oper.semAt_some

set_option maxHeartbeats 1000000 in
theorem nil_law (k : Int) (w : World) :
    Calls Try.prog 8 #[.int .i64 k] w fun e w' => e = .returned (.bool true) ∧ Below w.heap.size w w' := by
  go_enter Try.func8, Try.ntmps8
  go_wp2_with fail
  with_reducible refine (put_nil w).mono ?_
  rintro e w0 ⟨rfl, rfl⟩
  go_wp2_with fail
  with_reducible refine (drop_nil k w0).mono ?_
  rintro e w1 ⟨rfl, rfl⟩
  go_wp2_with fail
  with_reducible refine (known_any w1).mono ?_
  rintro e w2 ⟨rfl, hc2⟩
  have HC2 := Lib.hid hc2
  clear hc2
  go_wp2_with fail
  with_reducible refine (get_nil w2).mono ?_
  rintro e w3 ⟨rfl, rfl⟩
  go_wp2_with fail
  with_reducible refine (Go.Proofs.Ytbjlkmmijdhgoaa.value_nil w3).mono ?_
  rintro e w4 ⟨rfl, rfl⟩
  go_wp2_with fail
  with_reducible refine (Go.Proofs.Ytbjlkmmijdhgoaa.stuck_nil w4).mono ?_
  rintro e w5 ⟨rfl, rfl⟩
  have HC5 := Lib.hid (HC2.out.alloc (.cells #[.int .i64 k] 3))
  clear HC2
  go_wp2_with fail
  with_reducible refine (hold_nil _ _ _ _).mono ?_
  rintro e w6 ⟨rfl, rfl⟩
  generalize w5.alloc (.cells #[.int .i64 k] 3) = w7 at *
  go_wp2_with fail
  with_reducible refine (value_not (find_nil k w7)).mono ?_
  rintro e w8 ⟨rfl, hc8⟩
  have HC8 := Lib.hid (HC5.out.trans hc8)
  clear hc8
  go_wp2_with fail
  with_reducible refine (stuck_not (find_nil k w8)).mono ?_
  rintro e w9 ⟨rfl, hc9⟩
  have HC9 := Lib.hid (HC8.out.trans hc9)
  clear hc9
  go_wp2_with fail
  with_reducible refine (keys_nil w9).mono ?_
  rintro e w10 ⟨rfl, rfl⟩
  go_wp2
  go_ret
  exact ⟨rfl, HC9.out.below _ (by simp) (Nat.le_refl _)⟩
end Go.Proofs.Ytbjlkmmijdhgoaa
