/-
  A trap is as it is.
-/
import Derived.Test.YtpbdmlipdfdblaaDoorMgK
import Derived.ChangeKeysEq
namespace Go.Proofs.YtpbdmlipdfdblaaDoor
open Go.RowKit Go.BigFrame

attribute [local go_sem] Oper.semAt_some

set_option maxRecDepth 10000 in
theorem eqIn_v5 (x : V5) (d : Nat) (w : World) : (Op.equalIn (d + 3) 41 (.agg #[.bool x.r, .int .i64 x.m, .int .i64 x.s, .int .i64 x.g, .int .u64 (x.n : Int)]) (.agg #[.bool x.r, .int .i64 x.m, .int .i64 x.s, .int .i64 x.g, .int .u64 (x.n : Int)])).run Tryd.prog w = .ok true w := by
  have ht : Tryd.prog.underlying 41 = some (.struct (Tryd.prog.fieldsOf 41)) := by kernel_rfl
  have hp : Tryd.prog.stoodInHeld 41 = false := by kernel_rfl
  rw [run_equalIn_struct (d := d + 2) w 41 _ _ ht hp]
  simp [Program.fieldsOf, Tryd.underlying41, Tryd.underlying39, go_sem, Op.eqFields]
set_option maxRecDepth 10000 in
set_option maxHeartbeats 4000000 in
theorem eqIn_trap (T : TR) (w : World) : (Op.equalIn 10000 44 (.agg (tl T).toArray) (.agg (tl T).toArray)).run Tryd.prog w = .ok true w := by
  have ht : Tryd.prog.underlying 44 = some (.struct (Tryd.prog.fieldsOf 44)) := by kernel_rfl
  have hp : Tryd.prog.stoodInHeld 44 = false := by kernel_rfl
  obtain ⟨k, h, o, a, r, n⟩ := T
  obtain ⟨i, hi, hci⟩ : ∃ i : TypeInfo, Tryd.prog.info? 41 = some i ∧ Tryd.prog.cellsOf 41 = 5 := ⟨_, rfl, by kernel_rfl⟩
  rw [run_equalIn_struct (d := 9999) w 44 _ _ ht hp]
  simp only [tl, vl, List.cons_append, List.nil_append]
  generalize a 0 = a0
  generalize a 1 = a1
  generalize a 2 = a2
  generalize a 3 = a3
  generalize a 4 = a4
  simp [Program.fieldsOf, Tryd.underlying44, go_sem, Op.eqFields, run_equalIn_array _ _ _ _ Tryd.underlying42 hi, hci, eqIn_v5]
  simp [Op.eqItems, go_sem, eqIn_v5]
theorem neq_trap (T : TR) (w : World) : (binOp .neq 44 (.agg (tl T).toArray) (.agg (tl T).toArray)).run Tryd.prog w = .ok (.bool false) w := by
  rw [run_neq_struct, eqIn_trap]
  rfl
end Go.Proofs.YtpbdmlipdfdblaaDoor
