/-
  A law as its card calls it. (Written by gen/vm19x.py.)
-/
import Derived.Test.YtpbdmlipdfdblaaDoorVmX
import Derived.Test.YtpbdmlipdfdblaaDoorVmR
namespace Go.Proofs.YtpbdmlipdfdblaaDoor
open Go.ChangeShapes Go.WideShapes Go.ChangeAt Go.RowKit

theorem ends_card {a0 : Option Addr} {n0 c0 : Nat} {x : Int} {v : V5} {W : World} (hT : Tb W) (h0 : ∃ L : List I5, L.length = n0 ∧ (∀ x ∈ L, Fit x) ∧ InsAt W a0 L) (hv : W64 v.n) :
    Calls Tryd.prog 4 #[.slice a0 n0 c0, .int .i64 x, vv v] W fun e W' => e = .returned (.bool true) ∧ Below W.heap.size W W' := by
  obtain ⟨L, k1, k2, k3⟩ := h0
  exact (ends_law k1 k2 k3 hv hT).mono fun _ _ ⟨h1, h2⟩ => ⟨h1, h2.below _ (by simp) (Nat.le_refl _)⟩
end Go.Proofs.YtpbdmlipdfdblaaDoor
