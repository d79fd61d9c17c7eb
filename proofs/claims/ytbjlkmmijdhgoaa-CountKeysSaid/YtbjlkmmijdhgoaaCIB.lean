/-
  Counts by keys of int: a key's place, find.
-/
import Derived.Test.YtbjlkmmijdhgoaaCIA
namespace Go.Proofs.Ytbjlkmmijdhgoaa.cI
open Go.RowKit Go.Maps

attribute [local go_sem] Oper.semAt_some

theorem place_any (k : K) (w : World) : Calls Try.prog 33 #[kv k] w fun e w' => e = .returned (pv k) ∧ w' = w.alloc (.cells #[kv k, .bool false] 83) := by
  go_enter Try.func33, Try.ntmps33
  go_wp2
  refine bodyPost_ret (v := pv k) ?_ rfl ?_
  · simp [results, Try.f33, go_sem]
  · exact ⟨rfl, rfl⟩

theorem find_nil (k : K) (w : World) : Calls Try.prog 32 #[.pointer none, kv k] w fun e w' => e = .returned (.tuple #[rv none k0, .bool false]) ∧ Ch [] w w' := by
  go_enter Try.func32, Try.ntmps32
  go_wp2
  refine bodyPost_ret (v := .tuple #[rv none k0, .bool false]) ?_ rfl ?_
  · simp [results, Try.f32, go_sem]
  · exact ⟨rfl, (Ch.refl [] w).alloc _⟩

set_option maxRecDepth 100000 in
set_option maxHeartbeats 1000000 in
theorem find_run (R M : Nat) (k : K) (p : Option Addr) (k' : K) (ok : Bool) (w : World) (hc : w.cell? ⟨R, 1, none⟩ = some (.map (some M)))
    (hrun : ∀ W, Ch [] w W → (Instr.lookup 74 (.map (some M)) (pv k) true).run Try.prog W = .ok (.tuple #[rv p k', .bool ok]) W) :
    Calls Try.prog 32 #[.pointer (some ⟨R, 0, none⟩), kv k] w fun e w' => e = .returned (.tuple #[rv p k', .bool ok]) ∧ Ch [] w w' := by
  obtain ⟨A, hA⟩ : ∃ A : Obj, A = .cells #[.pointer none, kv k0] 79 := ⟨_, rfl⟩
  obtain ⟨B, hB⟩ : ∃ B : Obj, B = .cells #[kv k, .bool false] 83 := ⟨_, rfl⟩
  have h1 := hrun ((w.alloc A).alloc B).drew (((Ch.refl _ _).alloc _).alloc _).drew
  have h2 := hrun (((w.alloc A).alloc A).alloc B).drew ((((Ch.refl _ _).alloc _).alloc _).alloc _).drew
  have h3 := hrun (((w.alloc A).alloc B).alloc A).drew ((((Ch.refl _ _).alloc _).alloc _).alloc _).drew
  have hcR : ∀ W : World, Ch [] w W → W.cell? ⟨R, 1, none⟩ = some (.map (some M)) := fun W h => (h.cell (p := ⟨R, 1, none⟩) (cell_lt hc) (by simp)).trans hc
  have g0 := hcR (w.alloc A) ((Ch.refl _ _).alloc _)
  have g1 := hcR ((w.alloc A).alloc B) (((Ch.refl _ _).alloc _).alloc _)
  have g2 := hcR ((w.alloc A).alloc A) (((Ch.refl _ _).alloc _).alloc _)
  have g3 := hcR (((w.alloc A).alloc A).alloc B) ((((Ch.refl _ _).alloc _).alloc _).alloc _)
  have g4 := hcR (((w.alloc A).alloc B).alloc A) ((((Ch.refl _ _).alloc _).alloc _).alloc _)
  rw [hA] at g0 g2
  rw [hA, hB] at h1 h2 h3 g1 g3 g4
  clear hA hB hrun hcR
  go_enter Try.func32, Try.ntmps32
  go_wp2_with fail
  go_region_with (go_at_call 33; refine (place_any k _).mono ?_; rintro e w' ⟨rfl, rfl⟩)
  all_goals clear h1 h2 h3 g0 g1 g2 g3 g4
  all_goals go_wp2
  all_goals refine bodyPost_ret (v := .tuple #[rv p k', .bool ok]) ?_ rfl ?_
  all_goals first
    | (simp [results, Try.f32, go_sem]; done)
    | (refine ⟨rfl, ?_⟩; repeat (first | exact Ch.refl _ _ | apply Ch.drew | apply Ch.alloc))

end Go.Proofs.Ytbjlkmmijdhgoaa.cI
