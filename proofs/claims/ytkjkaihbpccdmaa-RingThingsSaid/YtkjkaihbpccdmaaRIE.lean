/-
  Contracts of a ring of int: New.
-/
import Derived.Test.YtkjkaihbpccdmaaRID
import Derived.Laws.MakeOwn
namespace Go.Proofs.Ytkjkaihbpccdmaa.rI
open Go.RowKit

attribute [local go_sem] Oper.semAt_some

theorem infoE : (Try.prog.info? 3).map (fun i => (i.zero, i.size, i.bytes)) = some (some (.int .i64 0), 1, 8) := by kernel_rfl

theorem new_bad (room : Int) (w : World) (h : room < 1 ∨ 256 < room) :
    Calls Try.prog 7 #[.int .i64 room] w fun e w' => e = .returned (.tuple #[.pointer none, .int .i64 2]) ∧ w = w' := by
  by_cases h0 : room < 1
  · have hd1 : decide (room < 1) = true := by simpa using h0
    clear h
    go_enter Try.func7, Try.ntmps7
    go_wp2
    go_ret2
    exact ⟨rfl, rfl⟩
  · have h1 : 256 < room := by omega
    have hd1 : decide (room < 1) = false := by simpa using h0
    have hd2 : decide (256 < room) = true := by simpa using h1
    clear h
    go_enter Try.func7, Try.ntmps7
    go_wp2
    go_ret2
    exact ⟨rfl, rfl⟩

theorem made_at (n j : Nat) (h : j < n) : (madeCells (Value.int .i64 0).cells (n * 1)).toList[j]? = some (.int .i64 0) := by
  simp [madeCells, Value.cells, h, Nat.mod_one]

set_option maxHeartbeats 400000 in
theorem new_any (room : Nat) (w : World) (h1 : 1 ≤ room) (h2 : room ≤ 256) :
    Calls Try.prog 7 #[.int .i64 (room : Int)] w fun e w' => ∃ R, e = .returned (.tuple #[.pointer (some ⟨R, 0, none⟩), .int .i64 0]) ∧
      RC w' R w.heap.size room 0 0 (fun _ => 0) ∧ Below w.heap.size w w' ∧ w.heap.size < R ∧ R < w'.heap.size := by
  obtain ⟨i0, hi, hz0, hz1, hz2⟩ := info_parts infoE
  have hd1 : decide ((room : Int) < 1) = false := by simp; omega
  have hd2 : decide ((256 : Int) < (room : Int)) = false := by simp; omega
  have hp0 : (0 : Int) ≤ (room : Int) := by omega
  go_enter Try.func7, Try.ntmps7
  go_wp2_with (at_make; go_must (refine wpList_make_full _ rfl _ _ 28 rfl w.heap.size 3 i0 (.int .i64 0) 1 Try.underlying28 hi hz0 hz1 _ _ _ _ room rfl rfl rfl rfl (by rw [hz2]; omega) (by unfold maxLen; omega) (Nat.le_refl _) ?_); intro w1 hown hgrow)
  go_ret2
  have hB : Below w.heap.size w w1 := (Below.refl _ _).grown hgrow (Nat.le_refl _) (fun k e => by cases e)
  have hlt : w.heap.size < w1.heap.size := (World.ownsRow.lt hown w.heap.size rfl).2
  have hn : ∀ a b : Nat, (⟨w1.heap.size, a, none⟩ : Addr) ≠ ⟨w.heap.size, b, none⟩ := fun a b => addr_ne_block (by omega)
  have hat : ∀ j, j < room → at' room 0 j = j := fun j hj => by unfold at'; rw [Nat.zero_add]; exact Nat.mod_eq_of_lt hj
  refine ⟨w1.heap.size, rfl, ⟨by omega, h1, h2, h1, Nat.zero_le _, ?_, ?_, ?_, ?_, ?_, fun j hj => ?_, fun j hj => ?_⟩, hB.alloc hB.size _, hlt, by simp⟩
  · rw [World.cell?_alloc_at _ _ _ _ rfl]; rfl
  · rw [World.cell?_alloc_at _ _ _ _ rfl]; rfl
  · rw [World.cell?_alloc_at _ _ _ _ rfl]; rfl
  · exact World.frozen?_alloc_new w1 _ _ _
  · exact World.frozen?_alloc_new w1 _ _ _
  · rw [hat j hj, World.cell?_alloc_past _ _ _ (by exact hlt), World.ownsRow.cellAt hown j (by omega)]
    exact made_at room j hj
  · rw [hat j hj]
    exact (World.frozen?_alloc_old w1 _ ⟨w.heap.size, j, none⟩ (Nat.ne_of_lt hlt)).trans (World.ownsRow.frozenAt hown j)
end Go.Proofs.Ytkjkaihbpccdmaa.rI
