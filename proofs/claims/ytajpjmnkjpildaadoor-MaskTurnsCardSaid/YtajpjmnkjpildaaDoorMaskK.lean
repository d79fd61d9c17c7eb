/-
  Contract: the chapter's examples hold (known).
-/
import Derived.Test.YtajpjmnkjpildaaDoorMaskH
namespace Go.Proofs.YtajpjmnkjpildaaDoor
open Go.RowKit

theorem ints_lit (w : World) (zs : List Int) (t : TypeId) : IntsAt (w.alloc (.cells (zs.map (Value.int .i64)).toArray t)) (some ⟨w.heap.size, 0, none⟩) zs := by
  refine .inr ⟨w.heap.size, 0, rfl, fun i hi => ?_⟩
  rw [World.cell?_alloc_at _ _ _ _ rfl]
  simp [hi]

theorem tab_pos {w : World} (h : Tab w) : 0 < w.heap.size := by
  have h := h 0 (by decide)
  apply Nat.lt_of_not_le
  intro hle
  simp [World.cell?, Array.getElem?_eq_none hle] at h

theorem of4 (w : World) : Calls Tryd.prog 20 #[.slice (some ⟨w.heap.size, 0, none⟩) 4 4] (w.alloc (.cells #[.int .i64 3, .int .i64 0, .int .i64 3, .int .i64 64] 3)) fun e w' => e = .returned (.int .u64 9) ∧ w.alloc (.cells #[.int .i64 3, .int .i64 0, .int .i64 3, .int .i64 64] 3) = w' :=
  of_any (some ⟨w.heap.size, 0, none⟩) 4 [3, 0, 3, 64] _ (by decide) (ints_lit w [3, 0, 3, 64] 3)
theorem of30 (w : World) : Calls Tryd.prog 20 #[.slice (some ⟨w.heap.size, 0, none⟩) 2 2] (w.alloc (.cells #[.int .i64 3, .int .i64 0] 3)) fun e w' => e = .returned (.int .u64 9) ∧ w.alloc (.cells #[.int .i64 3, .int .i64 0] 3) = w' :=
  of_any (some ⟨w.heap.size, 0, none⟩) 2 [3, 0] _ (by decide) (ints_lit w [3, 0] 3)
theorem of263 (w : World) : Calls Tryd.prog 20 #[.slice (some ⟨w.heap.size, 0, none⟩) 2 2] (w.alloc (.cells #[.int .i64 2, .int .i64 63] 3)) fun e w' => e = .returned (.int .u64 9223372036854775812) ∧ w.alloc (.cells #[.int .i64 2, .int .i64 63] 3) = w' :=
  of_any (some ⟨w.heap.size, 0, none⟩) 2 [2, 63] _ (by decide) (ints_lit w [2, 63] 3)

theorem ones9 : Pl.ones 9 = [0, 3] := by decide +kernel
theorem around9 : aroundV 9 4 = 0 ∧ aroundB 9 4 = true := by decide +kernel
theorem turn9 : turnN 9 1 = 9223372036854775812 := by decide +kernel

theorem list9 (w : World) (hT : Tab w) : Calls Tryd.prog 19 #[.int .u64 9] w fun e W' =>
    ∃ g cap, e = .returned (.slice (some ⟨g, 0, none⟩) 2 cap) ∧ g < W'.heap.size ∧ W'.cell? ⟨g, 0, none⟩ = some (.int .i64 0) ∧ W'.cell? ⟨g, 1, none⟩ = some (.int .i64 3) ∧ Below w.heap.size w W' := by
  refine (list_any 9 (by decide) w hT).mono ?_
  rintro e W' ⟨v, rfl, hown, hB⟩
  rw [ones9] at hown
  obtain ⟨g, cap, rfl⟩ := ownsRow_succ (k := 1) hown
  exact ⟨g, cap, rfl, (hown.lt g rfl).2, (World.ownsRow.cellAt hown 0 (by decide)), (World.ownsRow.cellAt hown 1 (by decide)), hB⟩
theorem around94 (w : World) (hT : Tab w) : Calls Tryd.prog 24 #[.int .u64 9, .int .i64 4] w fun e W' => e = .returned (.tuple #[.int .i64 0, .bool true]) ∧ Below w.heap.size w W' := by
  have h := around_any 9 (by decide) 4 w hT
  rw [around9.1, around9.2] at h
  exact h
theorem turn91 (w : World) : Calls Tryd.prog 26 #[.int .u64 9, .int .i64 1] w fun e w' => e = .returned (.int .u64 9223372036854775812) ∧ w = w' := by
  have h := turn_any 9 1 w (by decide)
  rw [turn9] at h
  exact h

set_option maxHeartbeats 1000000 in
theorem known_any (w : World) (hT : Tab w) : Calls Tryd.prog 14 #[] w fun e w' => e = .returned (.bool true) ∧ Below w.heap.size w w' := by
  have hg := tab_pos hT
  have HT := Lib.hid hT
  clear hT
  go_enter Tryd.func14, Tryd.ntmps14
  go_wp2_with fail
  refine (of4 w).mono ?_
  rintro e w1 ⟨rfl, rfl⟩
  go_wp2_with fail
  have hb1 : Below w.heap.size w (w.alloc (.cells #[.int .i64 3, .int .i64 0, .int .i64 3, .int .i64 64] 3)) := (Below.refl _ w).alloc (Nat.le_refl _) _
  refine (list9 _ (HT.out.below hb1 hg)).mono ?_
  rintro e w2 ⟨g, cap, rfl, hgl, hc0, hc1, hb2⟩
  have hb02 := hb1.trans (hb2.mono hb1.size)
  clear hb1 hb2
  go_wp2_with fail
  refine (of30 w2).mono ?_
  rintro e w3 ⟨rfl, rfl⟩
  go_wp2_with fail
  have hb3 : Below w.heap.size w (w2.alloc (.cells #[.int .i64 3, .int .i64 0] 3)) := hb02.alloc hb02.size _
  have hl3 : w2.heap.size ≤ (w2.alloc (.cells #[.int .i64 3, .int .i64 0] 3)).heap.size := by simp
  have hd0 := cell_allocd (.cells #[.int .i64 3, .int .i64 0] 3) hc0
  have hd1 := cell_allocd (.cells #[.int .i64 3, .int .i64 0] 3) hc1
  refine (around94 _ (HT.out.below hb3 hg)).mono ?_
  rintro e w4 ⟨rfl, hb4⟩
  have hg4 : g < (w2.alloc (.cells #[.int .i64 3, .int .i64 0] 3)).heap.size := Nat.lt_of_lt_of_le hgl hl3
  have he0 : w4.cell? ⟨g, 0, none⟩ = some (.int .i64 0) := (hb4.cell (p := ⟨g, 0, none⟩) hg4).trans hd0
  have he1 : w4.cell? ⟨g, 1, none⟩ = some (.int .i64 3) := (hb4.cell (p := ⟨g, 1, none⟩) hg4).trans hd1
  have hgl4 : g < w4.heap.size := Nat.lt_of_lt_of_le hg4 hb4.size
  have hb04 : Below w.heap.size w w4 := hb3.trans (hb4.mono hb3.size)
  clear hb3 hb4 hl3 hd0 hd1 hg4 hgl hc0 hc1 hb02
  go_wp2_with fail
  refine (of4 w4).mono ?_
  rintro e w5 ⟨rfl, rfl⟩
  have hf0 := cell_allocd (.cells #[.int .i64 3, .int .i64 0, .int .i64 3, .int .i64 64] 3) he0
  have hf1 := cell_allocd (.cells #[.int .i64 3, .int .i64 0, .int .i64 3, .int .i64 64] 3) he1
  have hb05 := hb04.alloc hb04.size (.cells #[.int .i64 3, .int .i64 0, .int .i64 3, .int .i64 64] 3)
  clear he0 he1 hb04 hgl4
  generalize w4.alloc (.cells #[.int .i64 3, .int .i64 0, .int .i64 3, .int .i64 64] 3) = w5 at *
  go_wp2_with fail
  refine (of30 w5).mono ?_
  rintro e w6 ⟨rfl, rfl⟩
  go_wp2_with fail
  refine (turn91 _).mono ?_
  rintro e w6 ⟨rfl, rfl⟩
  have hb06 := hb05.alloc hb05.size (.cells #[.int .i64 3, .int .i64 0] 3)
  generalize w5.alloc (.cells #[.int .i64 3, .int .i64 0] 3) = w6 at *
  clear hb05 hf0 hf1
  go_wp2_with fail
  refine (of263 w6).mono ?_
  rintro e w7 ⟨rfl, rfl⟩
  go_wp2
  go_ret
  exact ⟨rfl, hb06.alloc hb06.size _⟩
end Go.Proofs.YtajpjmnkjpildaaDoor
