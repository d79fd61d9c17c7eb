/-
  A law as its card calls it. (Written by gen/vm19x.py.)
-/
import Derived.Test.YtpbdmlipdfdblaaDoorVmX
import Derived.Test.YtpbdmlipdfdblaaDoorVmNil
namespace Go.Proofs.YtpbdmlipdfdblaaDoor
open Go.ChangeShapes Go.WideShapes Go.ChangeAt Go.RowKit

theorem nil_card (x y : Int) (v : V5) {W : World} (hT : Tb W) :
    Calls Tryd.prog 6 #[.int .i64 x, vv v, .int .i64 y] W fun e W' => e = .returned (.bool true) ∧ Below W.heap.size W W' :=
  (nil_law x y v hT).mono fun _ _ ⟨h1, h2⟩ => ⟨h1, h2.below _ (by simp) (Nat.le_refl _)⟩
end Go.Proofs.YtpbdmlipdfdblaaDoor
