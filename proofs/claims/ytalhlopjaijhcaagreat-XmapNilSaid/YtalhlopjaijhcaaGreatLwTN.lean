/-
  The law XmapNil as its row calls it.
-/
import Derived.Test.YtalhlopjaijhcaaGreatLwT
import Derived.Test.YtalhlopjaijhcaaGreatLwNil
namespace Go.Proofs.YtalhlopjaijhcaaGreat
open Go.RowKit

theorem nil_row (k : Int) (o : Int × Int) (n : Int) (w : World) (hk : (Lit.int .u64 k).wf = true) : Calls Tryz.prog 7 #[.int .u64 k, .agg #[.int .i64 o.1, .int .i64 o.2], .int .i64 n] w fun e w' => e = .returned (.bool true) ∧ Below w.heap.size w w' := by
  rw [(u64_of hk).1]
  exact (nil_law _ o n w).mono fun e w' ⟨he, hc⟩ => ⟨he, hc.below _ (by simp) (Nat.le_refl _)⟩
end Go.Proofs.YtalhlopjaijhcaaGreat
