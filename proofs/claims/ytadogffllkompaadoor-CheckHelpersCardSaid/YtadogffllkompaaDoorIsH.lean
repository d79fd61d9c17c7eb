/-
  The document's Check, of any instruction.
-/
import Derived.Test.YtadogffllkompaaDoorIsG
namespace Go.Proofs.YtadogffllkompaaDoor
open Go.RowKit

theorem rcheck_any (x : I5) (w : World) : Calls Tryd.prog 30 #[iv x] w fun e w' => e = .returned (.int .i64 (chk x)) ∧ Ch [] w w' := by
  by_cases h : cls x.op = 0
  · have hc : chk x = 11 := by unfold chk; rw [if_pos h]
    rw [hc]; exact rcheck_none h w
  · by_cases hb : inB x
    · have hc : chk x = if form x then 0 else 9 := by
        unfold chk; rw [if_neg h, if_neg (by simpa using hb)]
        by_cases hf : form x <;> simp [hf]
      rw [hc]; exact rcheck_form h hb w
    · have hc : chk x = 2 := by unfold chk; rw [if_neg h, if_pos hb]
      rw [hc]; exact rcheck_out h hb w

end Go.Proofs.YtadogffllkompaaDoor
