/-
  The document's answer for the wheel: Put.
-/
import Derived.Deep.RegionLaw
import Derived.Test.YtnndofeomakpiaaGreatDoorWpI
namespace Go.Proofs.YtnndofeomakpiaaGreatDoor
open Go.RowKit

attribute [local go_sem] Oper.semAt_some

def spZ : Value := .agg #[.int .i64 0, .int .i64 0, .int .u64 0, .int .u64 0]
theorem ixOf_neg {m : List Tm} {k : Int} (h : ∀ t ∈ m, t.id ≠ k) : ixOf m k = -1 := by
  unfold ixOf
  have : m.findIdx? (fun t => decide (t.id = k)) = none := by
    rw [List.findIdx?_eq_none_iff]
    intro t ht
    simpa using h t ht
  rw [this]
theorem Four.frz (w : World) (x y z u : Value) (t : TypeId) : ∀ o, (w.alloc (.cells #[x, y, z, u] t)).frozen? ⟨w.heap.size, o, none⟩ = false := fun _ => World.frozen?_alloc_new w _ _ _
/-- The two results that lie in cells, stored. -/
theorem res_cells {w4 : World} {X1 X2 : Nat} {u0 v0 z0 z1 z2 z3 a b c0 c1 c2 c3 : Value} (hb : Box2 w4 X1 u0 v0) (hf : Four w4 X2 z0 z1 z2 z3) (hne : X1 ≠ X2) :
    Box2 ((((((w4.setCell ⟨X1, 0, none⟩ a).setCell ⟨X1, 1, none⟩ b).setCell ⟨X2, 0, none⟩ c0).setCell ⟨X2, 1, none⟩ c1).setCell ⟨X2, 2, none⟩ c2).setCell ⟨X2, 3, none⟩ c3) X1 a b ∧
    Four ((((((w4.setCell ⟨X1, 0, none⟩ a).setCell ⟨X1, 1, none⟩ b).setCell ⟨X2, 0, none⟩ c0).setCell ⟨X2, 1, none⟩ c1).setCell ⟨X2, 2, none⟩ c2).setCell ⟨X2, 3, none⟩ c3) X2 c0 c1 c2 c3 ∧
    Ch [X1, X2] w4 ((((((w4.setCell ⟨X1, 0, none⟩ a).setCell ⟨X1, 1, none⟩ b).setCell ⟨X2, 0, none⟩ c0).setCell ⟨X2, 1, none⟩ c1).setCell ⟨X2, 2, none⟩ c2).setCell ⟨X2, 3, none⟩ c3) := by
  have h1 := hb.set a b
  have hc1 : Ch [X1] w4 ((w4.setCell ⟨X1, 0, none⟩ a).setCell ⟨X1, 1, none⟩ b) := ((Ch.refl [X1] w4).setCell (p := ⟨X1, 0, none⟩) (by simp) a).setCell (p := ⟨X1, 1, none⟩) (by simp) b
  have h2 := hf.ch hc1 (by simp; omega)
  generalize (w4.setCell ⟨X1, 0, none⟩ a).setCell ⟨X1, 1, none⟩ b = W at *
  have hc2 : Ch [X2] W ((((W.setCell ⟨X2, 0, none⟩ c0).setCell ⟨X2, 1, none⟩ c1).setCell ⟨X2, 2, none⟩ c2).setCell ⟨X2, 3, none⟩ c3) := ((((Ch.refl [X2] W).setCell (p := ⟨X2, 0, none⟩) (by simp) c0).setCell (p := ⟨X2, 1, none⟩) (by simp) c1).setCell (p := ⟨X2, 2, none⟩) (by simp) c2).setCell (p := ⟨X2, 3, none⟩) (by simp) c3
  exact ⟨h1.ch hc2 (by simp; omega), four_set h2 c0 c1 c2 c3, (hc1.mono (fun k hk => by simp at hk ⊢; exact .inl hk)).trans (hc2.mono (fun k hk => by simp at hk ⊢; exact .inr hk))⟩
section
variable {w : World} {D : Nat} {v : Value} {m : List Tm} {now id at' : Int}
set_option maxRecDepth 100000 in
set_option maxHeartbeats 1000000 in
theorem rput_range (h : RT w D v m) (hr : id < 0 ∨ 255 < id) (now at' : Int) :
    Calls Tryz.prog 25 #[rw7 now v, .int .i64 id, .int .u64 at'] w fun e w' => e = .returned (.tuple #[rw7 now v, spZ, .int .i64 2]) ∧ Ch [] w w' := by
  obtain ⟨a, c, rfl⟩ := own_form h
  generalize m.length = n
  clear h
  unfold rw7 spZ
  obtain ⟨q0, q1⟩ := two_new (w.alloc (.cells #[.int .u64 now, .slice a n c] 58)) (.int .u64 now) (.slice a n c) 58
  obtain ⟨k0, k1, k2, k3⟩ := Four.new ((w.alloc (.cells #[.int .u64 now, .slice a n c] 58)).alloc (.cells #[.int .u64 now, .slice a n c] 58)) (.int .i64 0) (.int .i64 0) (.int .u64 0) (.int .u64 0) 37
  have r0 := Mk.cell_allocd (.cells #[.int .i64 0, .int .i64 0, .int .u64 0, .int .u64 0] 37) q0
  have r1 := Mk.cell_allocd (.cells #[.int .i64 0, .int .i64 0, .int .u64 0, .int .u64 0] 37) q1
  simp only [World.size_alloc] at r0 r1 k0 k1 k2 k3
  clear q0 q1
  rcases Int.lt_or_le id 0 with h0 | h0
  · have hd : decide (id < 0) = true := decide_eq_true h0
    clear hr h0
    go_enter Tryz.func25, Tryz.ntmps25
    go_wp2_with fail
    refine bodyPost_ret (v := .tuple #[.agg #[.int .u64 now, .slice a n c], .agg #[.int .i64 0, .int .i64 0, .int .u64 0, .int .u64 0], .int .i64 2]) ?_ rfl ?_
    · simp [results, Tryz.f25, go_sem, r0, r1, k0, k1, k2, k3]
    · exact ⟨rfl, (((Ch.refl [] w).alloc _).alloc _).alloc _⟩
  · have hd : decide (id < 0) = false := decide_eq_false (by omega)
    have hd2 : decide (255 < id) = true := decide_eq_true (by omega)
    clear hr h0
    go_enter Tryz.func25, Tryz.ntmps25
    go_wp2_with fail
    refine bodyPost_ret (v := .tuple #[.agg #[.int .u64 now, .slice a n c], .agg #[.int .i64 0, .int .i64 0, .int .u64 0, .int .u64 0], .int .i64 2]) ?_ rfl ?_
    · simp [results, Tryz.f25, go_sem, r0, r1, k0, k1, k2, k3]
    · exact ⟨rfl, (((Ch.refl [] w).alloc _).alloc _).alloc _⟩
set_option maxRecDepth 100000 in
set_option maxHeartbeats 1000000 in
theorem rput_twice (h : RT w D v m) (hl : m.length ≤ 256) (h0 : 0 ≤ id) (h1 : id < 256) (hin : ∃ t ∈ m, t.id = id) (now at' : Int) :
    Calls Tryz.prog 25 #[rw7 now v, .int .i64 id, .int .u64 at'] w fun e w' => e = .returned (.tuple #[rw7 now v, spZ, .int .i64 5]) ∧ Ch [] w w' := by
  obtain ⟨a, c, rfl⟩ := own_form h
  have hix := ixOf_some.2 hin
  have HF := Lib.hid (fun (W : World) (hc : Ch [] w W) => rfind_any now id (h.quiet hc) hl)
  generalize m.length = n at *
  clear h hin
  have hd : decide (id < 0) = false := decide_eq_false (by omega)
  have hd2 : decide (255 < id) = false := decide_eq_false (by omega)
  have hd3 : decide (0 ≤ ixOf m id) = true := decide_eq_true hix
  generalize ixOf m id = R at *
  unfold rw7 spZ at *
  obtain ⟨q0, q1⟩ := two_new w (.int .u64 now) (.slice a n c) 58
  have hX1 := (Box2.new (w.alloc (.cells #[.int .u64 now, .slice a n c] 58)) (.int .u64 0) (.slice none 0 0) 58).alloc (.cells #[.int .i64 0, .int .i64 0, .int .u64 0, .int .u64 0] 37)
  have hX2 := Four.new ((w.alloc (.cells #[.int .u64 now, .slice a n c] 58)).alloc (.cells #[.int .u64 0, .slice none 0 0] 58)) (.int .i64 0) (.int .i64 0) (.int .u64 0) (.int .u64 0) 37
  have hf2 := Four.frz ((w.alloc (.cells #[.int .u64 now, .slice a n c] 58)).alloc (.cells #[.int .u64 0, .slice none 0 0] 58)) (.int .i64 0) (.int .i64 0) (.int .u64 0) (.int .u64 0) 37
  have r0 := Mk.cell_allocd (.cells #[.int .i64 0, .int .i64 0, .int .u64 0, .int .u64 0] 37) (Mk.cell_allocd (.cells #[.int .u64 0, .slice none 0 0] 58) q0)
  have r1 := Mk.cell_allocd (.cells #[.int .i64 0, .int .i64 0, .int .u64 0, .int .u64 0] 37) (Mk.cell_allocd (.cells #[.int .u64 0, .slice none 0 0] 58) q1)
  simp only [World.size_alloc] at hX1 hX2 hf2
  have hal : Ch [] w (((w.alloc (.cells #[.int .u64 now, .slice a n c] 58)).alloc (.cells #[.int .u64 0, .slice none 0 0] 58)).alloc (.cells #[.int .i64 0, .int .i64 0, .int .u64 0, .int .u64 0] 37)) := (((Ch.refl [] w).alloc _).alloc _).alloc _
  have hsz : (((w.alloc (.cells #[.int .u64 now, .slice a n c] 58)).alloc (.cells #[.int .u64 0, .slice none 0 0] 58)).alloc (.cells #[.int .i64 0, .int .i64 0, .int .u64 0, .int .u64 0] 37)).heap.size = w.heap.size + 3 := by simp
  have HX1 := Lib.hid hX1
  have HX2 := Lib.hid hX2
  have HF2 := Lib.hid hf2
  have HAl := Lib.hid hal
  have HSz := Lib.hid hsz
  clear q0 q1 hX1 hX2 hf2 hal hsz hl h0 h1 hix
  go_enter Tryz.func25, Tryz.ntmps25
  go_wp2_with fail
  with_reducible refine (HF.out _ HAl.out).mono ?_
  rintro e w4 ⟨rfl, hc4⟩
  have hb4 := HX1.out.ch hc4 (by simp)
  have hf4 := HX2.out.ch hc4 (by simp)
  have hx2 : w.heap.size + 1 + 1 < (((w.alloc (.cells #[.int .u64 now, .slice a n c] 58)).alloc (.cells #[.int .u64 0, .slice none 0 0] 58)).alloc (.cells #[.int .i64 0, .int .i64 0, .int .u64 0, .int .u64 0] 37)).heap.size := by rw [HSz.out]; omega
  have g4 : ∀ o, w4.frozen? ⟨w.heap.size + 1 + 1, o, none⟩ = false := fun o => (hc4.frozen (p := ⟨w.heap.size + 1 + 1, o, none⟩) hx2 (by simp)).trans (HF2.out o)
  have r0' := (hc4.cell (cell_lt r0) (by simp)).trans r0
  have r1' := (hc4.cell (cell_lt r1) (by simp)).trans r1
  have HB4 := Lib.hid hb4
  have HF4 := Lib.hid hf4
  have HC4 := Lib.hid (HAl.out.trans hc4)
  obtain ⟨b0, b1, bf0, bf1⟩ := hb4
  obtain ⟨k0, k1, k2, k3⟩ := hf4
  have f0 := g4 0
  have f1 := g4 1
  have f2 := g4 2
  have f3 := g4 3
  clear hc4 hx2 g4 r0 r1 HF HF2
  go_frame
  go_wp2_with fail
  obtain ⟨hb5, hf5, hc5⟩ := res_cells (a := .int .u64 now) (b := .slice a n c) (c0 := .int .i64 0) (c1 := .int .i64 0) (c2 := .int .u64 0) (c3 := .int .u64 0) HB4.out HF4.out (by omega)
  have HC5 := Lib.hid (HC4.out.fresh hc5 (fun k hk => by simp at hk; omega))
  obtain ⟨p0, p1, _, _⟩ := hb5
  obtain ⟨s0, s1, s2, s3⟩ := hf5
  clear hc5 b0 b1 bf0 bf1 k0 k1 k2 k3 f0 f1 f2 f3
  refine bodyPost_ret (v := .tuple #[.agg #[.int .u64 now, .slice a n c], .agg #[.int .i64 0, .int .i64 0, .int .u64 0, .int .u64 0], .int .i64 5]) ?_ rfl ?_
  · simp [results, Tryz.f25, go_sem, p0, p1, s0, s1, s2, s3]
  · exact ⟨rfl, HC5.out⟩
end
end Go.Proofs.YtnndofeomakpiaaGreatDoor
