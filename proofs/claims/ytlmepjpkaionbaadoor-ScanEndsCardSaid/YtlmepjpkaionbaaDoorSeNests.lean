/-
  SectNests: a reader is outside behind leaving as often as it entered.
-/
import Derived.Test.YtlmepjpkaionbaaDoorSeK
namespace Go.Proofs.YtlmepjpkaionbaaDoor
open Go.RowKit

theorem enter_facts {x : SS} {r k : Nat} (hr : r < 64) (hd : x.d r = (k : Int)) (hk : k < 8) :
    enterE x (r : Int) = 0 ∧ (enterS x (r : Int)).d r = ((k + 1 : Nat) : Int) ∧ (k = 0 → (enterS x (r : Int)).n = x.n + 1 ∧ (enterS x (r : Int)).s r = x.n + 1) ∧ (k ≠ 0 → (enterS x (r : Int)).n = x.n ∧ (enterS x (r : Int)).s r = x.s r) := by
  have he : enterE x (r : Int) = 0 := enterE_zero.2 ⟨by omega, by rw [Int.toNat_natCast, hd]; omega⟩
  have hs : enterS x (r : Int) = inS x r := by unfold enterS; rw [if_pos he]; rfl
  rw [hs]
  refine ⟨he, by rw [inS_d, if_pos rfl, hd]; omega, fun h0 => ⟨?_, ?_⟩, fun h0 => ⟨?_, ?_⟩⟩
  · unfold inS; exact if_pos (by rw [hd, h0]; rfl)
  · rw [inS_s, if_pos ⟨rfl, by rw [hd, h0]; rfl⟩]
  · unfold inS; exact if_neg (by rw [hd]; omega)
  · rw [inS_s, if_neg (fun h => by have := h.2; rw [hd] at this; omega)]
theorem exit_facts {x : SS} {r m : Nat} (hr : r < 64) (hd : x.d r = (m : Int)) (hm : 1 ≤ m) :
    exitE x (r : Int) = 0 ∧ (exitS x (r : Int)).d r = ((m - 1 : Nat) : Int) ∧ (exitS x (r : Int)).n = x.n ∧ exitB x (r : Int) = decide (m = 1) := by
  have he : exitE x (r : Int) = 0 := exitE_zero.2 ⟨by omega, by rw [Int.toNat_natCast, hd]; omega⟩
  refine ⟨he, ?_, exit_n x r, ?_⟩
  · unfold exitS; rw [if_pos he, Int.toNat_natCast, outS_d, if_pos rfl, hd]; omega
  · unfold exitB
    rw [he, Int.toNat_natCast, hd, Bool.eq_iff_iff]
    simp
    omega
theorem SL.stamp {w0 w : World} {b : Nat} {x : SS} (h : SL w0 w b x) {v : Int} (hv : x.n = v) :
    Calls Tryd.prog 21 #[.pointer (some ⟨b, 0, none⟩)] w fun e w' => e = .returned (.int .i64 v) ∧ w = w' := by rw [← hv]; exact stamp_any h.s

end Go.Proofs.YtlmepjpkaionbaaDoor
