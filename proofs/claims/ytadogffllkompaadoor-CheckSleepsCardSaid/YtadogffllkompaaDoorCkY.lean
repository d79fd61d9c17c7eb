/-
  The five laws as the cards call them.
-/
import Derived.Test.YtadogffllkompaaDoorCkT0
namespace Go.Proofs.YtadogffllkompaaDoor
open Go.RowKit

theorem helpers_card {id : Int} (hid : fit id) {W : World} (hT : Tb W) : Calls Tryd.prog 3 #[.int .i64 id] W fun e W' => e = .returned (.bool true) ∧ Below W.heap.size W W' :=
  (helpers_law hid hT).mono fun _ _ ⟨h1, h2⟩ => ⟨h1, h2.below _ (by simp) (Nat.le_refl _)⟩
theorem next_card {a : Option Addr} {len cap : Nat} {at' : Int} {W : World} (hT : Tb W) (h : len ≤ cap ∧ cap ≤ 9223372036854775807) (hz : ∃ L : List I5, L.length = len ∧ (∀ x ∈ L, Fit x) ∧ InsAt W a L) : Calls Tryd.prog 4 #[.slice a len cap, .int .i64 at'] W fun e W' => e = .returned (.bool true) ∧ Below W.heap.size W W' := by
  obtain ⟨L, h1, h2, h3⟩ := hz
  exact (next_law h.1 h.2 h1 h2 h3 hT).mono fun _ _ ⟨h1, h2⟩ => ⟨h1, h2.below _ (by simp) (Nat.le_refl _)⟩
theorem places_card {a : Option Addr} {len cap : Nat} {sl : Bool} {W : World} (hT : Tb W) (h : len ≤ cap ∧ cap ≤ 9223372036854775807) (hz : ∃ L : List I5, L.length = len ∧ (∀ x ∈ L, Fit x) ∧ InsAt W a L) : Calls Tryd.prog 5 #[.slice a len cap, .bool sl] W fun e W' => e = .returned (.bool true) ∧ Below W.heap.size W W' := by
  obtain ⟨L, h1, h2, h3⟩ := hz
  exact (places_law h.1 h.2 h1 h2 h3 hT).mono fun _ _ ⟨h1, h2⟩ => ⟨h1, h2.below _ (by simp) (Nat.le_refl _)⟩
theorem sleeps_card {a : Option Addr} {len cap : Nat} {W : World} (hT : Tb W) (hz : ∃ L : List I5, L.length = len ∧ (∀ x ∈ L, Fit x) ∧ InsAt W a L) : Calls Tryd.prog 7 #[.slice a len cap] W fun e W' => e = .returned (.bool true) ∧ Below W.heap.size W W' := by
  obtain ⟨L, h1, h2, h3⟩ := hz
  exact (sleeps_law h1 h2 h3 hT).mono fun _ _ ⟨h1, h2⟩ => ⟨h1, h2.below _ (by simp) (Nat.le_refl _)⟩
theorem stays_card {a wa : Option Addr} {len cap wl wc : Nat} {sl : Bool} {W : World} (hT : Tb W) (h : len ≤ cap ∧ cap ≤ 9223372036854775807) (hz : ∃ L : List I5, L.length = len ∧ (∀ x ∈ L, Fit x) ∧ InsAt W a L) (hw : wl ≤ 9223372036854775807) (hb : BoolsAt W wa wl) : Calls Tryd.prog 6 #[.slice a len cap, .bool sl, .slice wa wl wc] W fun e W' => e = .returned (.bool true) ∧ Below W.heap.size W W' := by
  obtain ⟨L, h1, h2, h3⟩ := hz
  exact (stays_law h.1 h.2 hw hb h1 h2 h3 hT).mono fun _ _ ⟨h1, h2⟩ => ⟨h1, h2.below _ (by simp) (Nat.le_refl _)⟩
end Go.Proofs.YtadogffllkompaaDoor
