/-
  Large values: a frame of ninety cells, five things: made, read, written.
-/
import Derived.Test.YtlffcccicpdnfaaIsP
import Derived.Great.Walk
import Derived.Laws.ResultCell
namespace Go.Proofs.Ytlffcccicpdnfaa
open Go.RowKit Go.BigFrame

def z25 : Array Value := #[.bool false, .int .i64 0, .int .i64 0, .int .i64 0, .int .u64 0, .bool false, .int .i64 0, .int .i64 0, .int .i64 0, .int .u64 0, .bool false, .int .i64 0, .int .i64 0, .int .i64 0, .int .u64 0, .bool false, .int .i64 0, .int .i64 0, .int .i64 0, .int .u64 0, .bool false, .int .i64 0, .int .i64 0, .int .i64 0, .int .u64 0]
theorem z25_zero (w : World) : Sem.run Try.prog (zeroValue 69) w = .ok (.agg z25) w := by kernel_rfl
theorem z25_built : Try.prog.built 69 [] = some z25 := by kernel_rfl
section
variable {ops : Array Oper} {rest : List Oper} {op : Oper} {a : Act} {w : World} {Q : Exit → Act → World → Prop}
/-- A variable is made, its zero value as it is told. -/
theorem wpList_allocZ {t : TypeId} {zero : Array Value} (hz : ∀ w, Sem.run Try.prog (zeroValue t) w = .ok (.agg zero) w) (ho : op.op = .alloc t) (hw : Region.wanted op (yielded ops a.tmps) = true)
    (h : wpList Try.prog ops Q rest (a.put op.dst (.pointer (some ⟨w.heap.size, 0, none⟩))) (w.alloc (.cells zero t))) : wpList Try.prog ops Q (op :: rest) a w :=
  wpList_want hw fun _ hK => by
    unfold Oper.wp execOp
    simp only [ho, Sem.run_bind, Instr.alloc, hz, newVar, newRow, Value.cells, run_newObj_alloc, Sem.run_pure, Result.andThen_ok]
    exact hK _ _ h
theorem wpList_buildZ {t : TypeId} {cells : Array Value} (hb : Try.prog.built t [] = some cells) (ho : op.op = .build t #[]) (hg : op.guard = none)
    (h : wpList Try.prog ops Q rest (a.put op.dst (.agg cells)) w) : wpList Try.prog ops Q (op :: rest) a w :=
  wpList_build hg t #[] ho (by simp [hb]) (by simpa [hb] using h)
/-- A frame is read. -/
theorem wpList_readF {x : Operand} (ho : op.op = .load 32 x) {b : Nat} {F : FV} (hF : FR w b F) (hw : Region.wanted op (yielded ops a.tmps) = true) (hx : a.eval x = .pointer (some ⟨b, 0, none⟩))
    (h : wpList Try.prog ops Q rest (a.put op.dst (.agg (fl F).toArray)) w) : wpList Try.prog ops Q (op :: rest) a w :=
  wpList_want hw fun _ hK => wp_load_mid 32 x ho b 0 hx (fl F) _ hF.range Try.underlying32 rfl (by rw [fl_len]; kernel_rfl) (hK _ _ h)
/-- It is written. -/
theorem wpList_writeF {x y : Operand} (ho : op.op = .store 32 x y) {b : Nat} {G : FV} (hG : FR w b G) (F : FV) (hw : Region.wanted op (yielded ops a.tmps) = true) (hx : a.eval x = .pointer (some ⟨b, 0, none⟩)) (hy : a.eval y = .agg (fl F).toArray)
    (h : wpList Try.prog ops Q rest (a.put op.dst undef) (w.setCells b 0 (fl F))) : wpList Try.prog ops Q (op :: rest) a w :=
  wpList_want hw fun _ hK => wp_store_mid 32 x y ho b 0 (fl F).toArray hx hy (by rw [List.size_toArray, fl_len]; exact hG.there) (by rw [List.size_toArray, fl_len]; kernel_rfl) (all_oneCell_toArray (fl_one F)) (hK _ _ (by simpa using h))
/-- Zero things are written over others. -/
theorem wpList_write25 {x y : Operand} (ho : op.op = .store 69 x y) {b : Nat} (ht : w.there b 0 25) (hw : Region.wanted op (yielded ops a.tmps) = true) (hx : a.eval x = .pointer (some ⟨b, 0, none⟩)) (hy : a.eval y = .agg z25)
    (h : wpList Try.prog ops Q rest (a.put op.dst undef) (w.setCells b 0 z25.toList)) : wpList Try.prog ops Q (op :: rest) a w :=
  wpList_want hw fun _ hK => wp_store_mid 69 x y ho b 0 z25 hx hy ht (by kernel_rfl) (by kernel_rfl) (hK _ _ h)
end
theorem load_frame {w : World} {b : Nat} {F : FV} (h : FR w b F) : (loadVar 32 ⟨b, 0, none⟩).run Try.prog w = .ok (.agg (fl F).toArray) w :=
  run_loadVar_mid w b 0 32 (fl F) _ h.range Try.underlying32 rfl (by rw [fl_len]; kernel_rfl)
theorem load_z25 {w : World} {b : Nat} (h : w.rangeAt b 0 z25.toList) : (loadVar 69 ⟨b, 0, none⟩).run Try.prog w = .ok (.agg z25) w :=
  run_loadVar_mid w b 0 69 z25.toList _ h Try.underlying69 rfl (by kernel_rfl)
theorem results_one {P : Program} {fn : Func} {p : Tmp} {ty : TypeId} {v : Value} {ad : Addr} {w : World} (h : fn.results = #[.cell p ty]) {tmps : Array Value} (hp : tmps.getD p undef = .pointer (some ad)) (hl : (loadVar ty ad).run P w = .ok v w) : (results fn tmps).run P w = .ok v w := by
  have hp' : tmps[p]?.getD undef = .pointer (some ad) := by simpa using hp
  simp only [results, h]
  simp [asAddr, hp', hl]
theorem results_two {P : Program} {fn : Func} {p u : Tmp} {ty : TypeId} {v : Value} {ad : Addr} {w : World} (h : fn.results = #[.cell p ty, .tmp u]) {tmps : Array Value} (hp : tmps.getD p undef = .pointer (some ad)) (hl : (loadVar ty ad).run P w = .ok v w) : (results fn tmps).run P w = .ok (.tuple #[v, tmps.getD u undef]) w := by
  rw [results_cell_tmp h, hp]
  simp [asAddr, hl, Result.andThen]
theorem there_new (w : World) (cells : Array Value) (t : TypeId) : (w.alloc (.cells cells t)).there w.heap.size 0 cells.size := fun j hj => by
  refine ⟨?_, World.frozen?_alloc_new w _ _ _⟩
  rw [Nat.zero_add, World.cell?_alloc_at _ _ _ _ rfl]
  simp [hj]
end Go.Proofs.Ytlffcccicpdnfaa
