/-
  The law ClockNil, walked.
-/
import Derived.Test.YtpojhkcohadcpaaClC
namespace Go.Proofs.Ytpojhkcohadcpaa
open Go.RowKit

attribute [local go_sem] Oper.semAt_some

theorem nil_law (ab : Option Addr) (len cap : Nat) (w : World) :
    Calls Try.prog 7 #[.slice ab len cap] w fun e w' => e = .returned (.bool true) ∧ Below w.heap.size w w' := by
  go_enter Try.func7, Try.ntmps7
  go_wp2_with fail
  with_reducible refine (known_any _).mono ?_
  rintro e w1 ⟨rfl, rfl⟩
  go_wp2_with fail
  with_reducible refine (now_nil _).mono ?_
  rintro e w2 ⟨rfl, rfl⟩
  go_wp2_with fail
  with_reducible refine (step_nil _ _ _ _).mono ?_
  rintro e w3 ⟨rfl, rfl⟩
  go_wp2_with fail
  with_reducible refine (stopped_nil _).mono ?_
  rintro e w4 ⟨rfl, rfl⟩
  go_wp2_with fail
  with_reducible refine (due_nil _ _ _ _).mono ?_
  rintro e w5 ⟨rfl, hc5⟩
  have HC5 := Lib.hid hc5
  clear hc5
  go_wp2
  go_ret
  exact ⟨rfl, HC5.out.below _ (by simp) (Nat.le_refl _)⟩
end Go.Proofs.Ytpojhkcohadcpaa
