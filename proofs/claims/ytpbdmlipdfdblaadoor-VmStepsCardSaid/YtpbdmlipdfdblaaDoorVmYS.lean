/-
  A law as its card calls it. (Written by gen/vm19x.py.)
-/
import Derived.Test.YtpbdmlipdfdblaaDoorVmX
import Derived.Test.YtpbdmlipdfdblaaDoorVmS
namespace Go.Proofs.YtpbdmlipdfdblaaDoor
open Go.ChangeShapes Go.WideShapes Go.ChangeAt Go.RowKit

theorem steps_card {a0 a2 a3 : Option Addr} {n0 c0 n2 c2 n3 c3 : Nat} {x y : Int} {W : World} (hT : Tb W) (h0 : ∃ L : List I5, L.length = n0 ∧ (∀ x ∈ L, Fit x) ∧ InsAt W a0 L) (g2 : n2 ≤ c2 ∧ c2 ≤ 9223372036854775807) (h2 : ∃ L : List V5, L.length = n2 ∧ (∀ x ∈ L, W64 x.n) ∧ ValsAt W a2 L) (h3 : ∃ L : List V5, L.length = n3 ∧ (∀ x ∈ L, W64 x.n) ∧ ValsAt W a3 L) :
    Calls Tryd.prog 3 #[.slice a0 n0 c0, .int .i64 x, .slice a2 n2 c2, .slice a3 n3 c3, .int .i64 y] W fun e W' => e = .returned (.bool true) ∧ Below W.heap.size W W' := by
  obtain ⟨L, k1, k2, k3⟩ := h0
  obtain ⟨l, j1, j2, j3⟩ := h2
  obtain ⟨X, i1, i2, i3⟩ := h3
  exact (steps_law k1 k2 k3 j1 g2.1 j3 j2 i1 i3 i2 hT).mono fun _ _ ⟨h1, h2⟩ => ⟨h1, h2.below _ (by simp) (Nat.le_refl _)⟩
end Go.Proofs.YtpbdmlipdfdblaaDoor
