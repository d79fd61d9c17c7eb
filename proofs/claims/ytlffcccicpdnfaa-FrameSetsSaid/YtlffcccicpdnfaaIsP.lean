/-
  An instruction as the program's and as the document's.
-/
import Derived.Test.YtlffcccicpdnfaaFrJ
namespace Go.Proofs.Ytlffcccicpdnfaa
open Go.RowKit

attribute [local go_sem] Oper.semAt_some

theorem to_any (x : I5) (w : World) : Calls Try.prog 23 #[iv x] w fun e w' => e = .returned (iv x) ∧ Ch [] w w' := by
  obtain ⟨op, d, s, o, i⟩ := x
  have HF := Lib.hid (Five.new w ⟨op, d, s, o, i⟩ 65)
  have HB := Lib.hid ((Ch.refl [] w).alloc (.cells #[.int .i64 op, .int .i64 d, .int .i64 s, .int .i64 o, .int .i64 i] 65))
  have HF2 := Lib.hid (HF.out.ch ((Ch.refl [] _).alloc (.cells #[.int .i64 0, .int .i64 0, .int .i64 0, .int .i64 0, .int .i64 0] 63)) (by simp))
  obtain ⟨a0, a1, a2, a3, a4⟩ := HF2.out
  simp only at a0 a1 a2 a3 a4
  unfold iv
  go_enter Try.func23, Try.ntmps23
  go_wp2
  refine post_val ?_ rfl (HB.out.alloc _)
  simp [results, Try.f23, go_sem]
theorem fit_of {n : Int} (h0 : -1000000 ≤ n) (h1 : n ≤ 1000000) : fit n := ⟨by omega, by omega⟩
end Go.Proofs.Ytlffcccicpdnfaa
