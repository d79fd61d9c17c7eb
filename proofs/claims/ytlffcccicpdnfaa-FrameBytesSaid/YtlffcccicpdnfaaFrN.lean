/-
  Nil frames.
-/
import Derived.Test.YtlffcccicpdnfaaFrO
namespace Go.Proofs.Ytlffcccicpdnfaa
open Go.RowKit Go.BigFrame

attribute [local go_sem] Oper.semAt_some

theorem do_nil (x : I5) (w : World) : Calls Try.prog 22 #[.pointer none, iv x] w fun e w' => e = .returned (.int .i64 6) ∧ Ch [] w w' := by
  obtain ⟨op, d, s, o, i⟩ := x
  unfold iv
  have HC := Lib.hid (((Ch.refl [] w).alloc (.cells #[.pointer none] 23)).alloc (.cells #[.int .i64 op, .int .i64 d, .int .i64 s, .int .i64 o, .int .i64 i] 63))
  go_enter Try.func22, Try.ntmps22
  go_wp2_with fail
  go_ret
  exact ⟨rfl, HC.out⟩
theorem jumps_nil (x : I5) (w : World) : Calls Try.prog 24 #[.pointer none, iv x] w fun e w' => e = .returned (.tuple #[.bool false, .int .i64 6]) ∧ Ch [] w w' := by
  obtain ⟨op, d, s, o, i⟩ := x
  unfold iv
  have HC := Lib.hid ((Ch.refl [] w).alloc (.cells #[.int .i64 op, .int .i64 d, .int .i64 s, .int .i64 o, .int .i64 i] 63))
  go_enter Try.func24, Try.ntmps24
  go_wp2_with fail
  go_ret2
  exact ⟨rfl, HC.out⟩
theorem read_nil (a n : Int) (w : World) : Calls Try.prog 19 #[.pointer none, .int .i64 a, .int .i64 n] w fun e w' => e = .returned (.tuple #[.slice none 0 0, .int .i64 6]) ∧ w = w' := by
  go_enter Try.func19, Try.ntmps19
  go_wp2_with fail
  go_ret2
  exact ⟨rfl, rfl⟩
theorem write_nil (a : Int) (s : Option Addr) (n c : Nat) (w : World) : Calls Try.prog 17 #[.pointer none, .int .i64 a, .slice s n c] w fun e w' => e = .returned (.int .i64 6) ∧ w = w' := by
  go_enter Try.func17, Try.ntmps17
  go_wp2_with fail
  go_ret
  exact ⟨rfl, rfl⟩
theorem args_nil (w : World) : Calls Try.prog 25 #[.pointer none] w fun e w' => e = .returned (.agg z25) ∧ Ch [] w w' := by
  obtain ⟨W, hW⟩ : ∃ W, w.alloc (.cells z25 69) = W := ⟨_, rfl⟩
  have hth : W.there w.heap.size 0 25 := by rw [← hW]; exact there_new w z25 69
  have hc : Ch [] w W := by rw [← hW]; exact (Ch.refl [] w).alloc _
  have HR := Lib.hid (load_z25 (World.rangeAt_setCells_same W w.heap.size 0 z25.toList hth))
  have HC := Lib.hid (hc.fresh (chCells W w.heap.size z25.toList 0) (by simp))
  have HT := Lib.hid hth
  have HW := Lib.hid hW
  clear hth hc hW
  go_enter Try.func25, Try.ntmps25
  go_wp2_with (first
    | ((with_reducible show wpList _ _ _ (Oper.mk _ (Op.alloc 69) _ _ _ _ :: _) _ _); refine wpList_allocZ z25_zero rfl (by rfl) ?_; rw [HW.out])
    | ((with_reducible show wpList _ _ _ (Oper.mk _ (Op.build 69 _) _ _ _ _ :: _) _ _); refine wpList_buildZ z25_built rfl rfl ?_)
    | ((with_reducible show wpList _ _ _ (Oper.mk _ (Op.store 69 _ _) _ _ _ _ :: _) _ _); refine wpList_write25 rfl HT.out (by rfl) (by rfl) (by rfl) ?_)
    | fail)
  refine bodyPost_ret (v := .agg z25) ?_ rfl ?_
  · exact results_one rfl rfl HR.out
  · exact ⟨rfl, HC.out⟩
end Go.Proofs.Ytlffcccicpdnfaa
