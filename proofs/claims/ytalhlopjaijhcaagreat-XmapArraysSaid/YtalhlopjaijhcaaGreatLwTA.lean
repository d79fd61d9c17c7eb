/-
  The law XmapArrays as its row calls it.
-/
import Derived.Test.YtalhlopjaijhcaaGreatLwT
import Derived.Test.YtalhlopjaijhcaaGreatLwB
namespace Go.Proofs.YtalhlopjaijhcaaGreat
open Go.RowKit

theorem arrays_row (r k x : Int) (w : World) (hk : (Lit.int .u64 k).wf = true) (hx : (Lit.int .u64 x).wf = true) : Calls Tryz.prog 6 #[.int .i64 r, .int .u64 k, .int .u64 x] w fun e w' => e = .returned (.bool true) ∧ Below w.heap.size w w' := by
  rw [(u64_of hk).1, (u64_of hx).1]
  exact (arrays_law r _ _ (u64_of hk).2 w).mono fun e w' ⟨he, hc⟩ => ⟨he, hc.below _ (by simp) (Nat.le_refl _)⟩
end Go.Proofs.YtalhlopjaijhcaaGreat
