/-
  GraceNil: nothing of what there was has turned.
-/
import Derived.Test.YtjoaigadlpndcaaDoorGrNil
namespace Go.Proofs.YtjoaigadlpndcaaDoor
open Go.RowKit Go.Shelf
theorem nil_below (n r : Int) (w : World) (hT : Mk.Tab w) :
    Calls Tryd.prog 6 #[.int .i64 n, .int .i64 r] w fun e w' => e = .returned (.bool true) ∧ Below w.heap.size w w' :=
  (nil_law n r w hT).mono fun _ _ ⟨h1, h2⟩ => ⟨h1, h2.below _ (by simp) (Nat.le_refl _)⟩
end Go.Proofs.YtjoaigadlpndcaaDoor
