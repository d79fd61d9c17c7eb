/-
  The document's Kind, uses, Check.
-/
import Derived.Test.YtadogffllkompaaDoorIsC
namespace Go.Proofs.YtadogffllkompaaDoor
open Go.RowKit

/-- What Kind tells, at an operation by its number. -/
def kindR (op : Int) : Value := .tuple #[.string ⟨(nm op).toArray⟩, .string ⟨(shp op).toArray⟩, .int .i64 (cls op)]

theorem kind_a {k : Nat} (hk : k < 12) (w : World) : Calls Tryd.prog 43 #[.int .i64 (k : Int)] w fun e w' => e = .returned (kindR (k : Int)) ∧ Ch [] w w' := by
  have hcell : ((w.alloc (.cells #[.string ⟨#[97, 100, 100]⟩, .string ⟨#[115, 117, 98]⟩, .string ⟨#[109, 117, 108]⟩, .string ⟨#[100, 105, 118]⟩, .string ⟨#[109, 111, 100]⟩, .string ⟨#[97, 110, 100]⟩, .string ⟨#[111, 114]⟩, .string ⟨#[120, 111, 114]⟩, .string ⟨#[108, 115, 104]⟩, .string ⟨#[114, 115, 104]⟩, .string ⟨#[97, 114, 115, 104]⟩, .string ⟨#[109, 111, 118]⟩] 9)).alloc (.cells #[.string ⟨#[106, 101, 113]⟩, .string ⟨#[106, 110, 101]⟩, .string ⟨#[106, 103, 116]⟩, .string ⟨#[106, 103, 101]⟩, .string ⟨#[106, 108, 116]⟩, .string ⟨#[106, 108, 101]⟩, .string ⟨#[106, 115, 101, 116]⟩, .string ⟨#[106, 115, 103, 116]⟩, .string ⟨#[106, 115, 108, 116]⟩] 9)).cell? ⟨w.heap.size, k, none⟩ = some (.string ⟨(nm (k : Int)).toArray⟩) := by
    rw [World.cell?_alloc_past _ _ _ (by simp), World.cell?_alloc_at _ _ _ _ rfl]
    obtain (rfl | rfl | rfl | rfl | rfl | rfl | rfl | rfl | rfl | rfl | rfl | rfl) := (show k = 0 ∨ k = 1 ∨ k = 2 ∨ k = 3 ∨ k = 4 ∨ k = 5 ∨ k = 6 ∨ k = 7 ∨ k = 8 ∨ k = 9 ∨ k = 10 ∨ k = 11 by omega)
    all_goals rfl
  have hR : kindR (k : Int) = .tuple #[.string ⟨(nm (k : Int)).toArray⟩, .string ⟨#[100, 105]⟩, .int .i64 1] := by
    obtain (rfl | rfl | rfl | rfl | rfl | rfl | rfl | rfl | rfl | rfl | rfl | rfl) := (show k = 0 ∨ k = 1 ∨ k = 2 ∨ k = 3 ∨ k = 4 ∨ k = 5 ∨ k = 6 ∨ k = 7 ∨ k = 8 ∨ k = 9 ∨ k = 10 ∨ k = 11 by omega)
    all_goals rfl
  rw [hR]
  clear hR
  generalize nm (k : Int) = l at *
  go_enter Tryd.func43, Tryd.ntmps43
  go_wp2_with fail
  refine post_val ?_ rfl (((Ch.refl [] _).alloc _).alloc _)
  simp [results, Tryd.f43, go_sem]

theorem kind_b {k : Nat} {op : Int} (hk : k < 12) (hop : op = (k : Int) + 16) (w : World) : Calls Tryd.prog 43 #[.int .i64 op] w fun e w' => e = .returned (kindR op) ∧ Ch [] w w' := by
  have hcell : ((w.alloc (.cells #[.string ⟨#[97, 100, 100]⟩, .string ⟨#[115, 117, 98]⟩, .string ⟨#[109, 117, 108]⟩, .string ⟨#[100, 105, 118]⟩, .string ⟨#[109, 111, 100]⟩, .string ⟨#[97, 110, 100]⟩, .string ⟨#[111, 114]⟩, .string ⟨#[120, 111, 114]⟩, .string ⟨#[108, 115, 104]⟩, .string ⟨#[114, 115, 104]⟩, .string ⟨#[97, 114, 115, 104]⟩, .string ⟨#[109, 111, 118]⟩] 9)).alloc (.cells #[.string ⟨#[106, 101, 113]⟩, .string ⟨#[106, 110, 101]⟩, .string ⟨#[106, 103, 116]⟩, .string ⟨#[106, 103, 101]⟩, .string ⟨#[106, 108, 116]⟩, .string ⟨#[106, 108, 101]⟩, .string ⟨#[106, 115, 101, 116]⟩, .string ⟨#[106, 115, 103, 116]⟩, .string ⟨#[106, 115, 108, 116]⟩] 9)).cell? ⟨w.heap.size, k, none⟩ = some (.string ⟨(nm op).toArray⟩) := by
    rw [World.cell?_alloc_past _ _ _ (by simp), World.cell?_alloc_at _ _ _ _ rfl]
    subst hop
    obtain (rfl | rfl | rfl | rfl | rfl | rfl | rfl | rfl | rfl | rfl | rfl | rfl) := (show k = 0 ∨ k = 1 ∨ k = 2 ∨ k = 3 ∨ k = 4 ∨ k = 5 ∨ k = 6 ∨ k = 7 ∨ k = 8 ∨ k = 9 ∨ k = 10 ∨ k = 11 by omega)
    all_goals rfl
  have hR : kindR op = .tuple #[.string ⟨(nm op).toArray⟩, .string ⟨#[100, 115]⟩, .int .i64 1] := by
    subst hop
    obtain (rfl | rfl | rfl | rfl | rfl | rfl | rfl | rfl | rfl | rfl | rfl | rfl) := (show k = 0 ∨ k = 1 ∨ k = 2 ∨ k = 3 ∨ k = 4 ∨ k = 5 ∨ k = 6 ∨ k = 7 ∨ k = 8 ∨ k = 9 ∨ k = 10 ∨ k = 11 by omega)
    all_goals rfl
  rw [hR]
  clear hR
  generalize nm op = l at *
  have d0 : decide (0 ≤ op) = true := decide_eq_true (by omega)
  have d16 : decide (16 ≤ op) = true := decide_eq_true (by omega)
  have d33 : decide (33 ≤ op) = false := decide_eq_false (by omega)
  have d49 : decide (49 ≤ op) = false := decide_eq_false (by omega)
  have e12 : decide (op < 12) = false := decide_eq_false (by omega)
  have e28 : decide (op < 28) = true := decide_eq_true (by omega)
  have e42 : decide (op < 42) = true := decide_eq_true (by omega)
  have e58 : decide (op < 58) = true := decide_eq_true (by omega)
  have hw : IntKind.i64.wrap (op - 16) = (k : Int) := by rw [IntKind.wrap_i64]; omega
  clear hop
  go_enter Tryd.func43, Tryd.ntmps43
  go_wp2_with fail
  refine post_val ?_ rfl (((Ch.refl [] _).alloc _).alloc _)
  simp [results, Tryd.f43, go_sem]

theorem kind_c {k : Nat} {op : Int} (hk : k < 9) (hop : op = (k : Int) + 33) (w : World) : Calls Tryd.prog 43 #[.int .i64 op] w fun e w' => e = .returned (kindR op) ∧ Ch [] w w' := by
  have hcell : ((w.alloc (.cells #[.string ⟨#[97, 100, 100]⟩, .string ⟨#[115, 117, 98]⟩, .string ⟨#[109, 117, 108]⟩, .string ⟨#[100, 105, 118]⟩, .string ⟨#[109, 111, 100]⟩, .string ⟨#[97, 110, 100]⟩, .string ⟨#[111, 114]⟩, .string ⟨#[120, 111, 114]⟩, .string ⟨#[108, 115, 104]⟩, .string ⟨#[114, 115, 104]⟩, .string ⟨#[97, 114, 115, 104]⟩, .string ⟨#[109, 111, 118]⟩] 9)).alloc (.cells #[.string ⟨#[106, 101, 113]⟩, .string ⟨#[106, 110, 101]⟩, .string ⟨#[106, 103, 116]⟩, .string ⟨#[106, 103, 101]⟩, .string ⟨#[106, 108, 116]⟩, .string ⟨#[106, 108, 101]⟩, .string ⟨#[106, 115, 101, 116]⟩, .string ⟨#[106, 115, 103, 116]⟩, .string ⟨#[106, 115, 108, 116]⟩] 9)).cell? ⟨w.heap.size + 1, k, none⟩ = some (.string ⟨(nm op).toArray⟩) := by
    rw [World.cell?_alloc_at _ _ _ _ (by simp)]
    subst hop
    obtain (rfl | rfl | rfl | rfl | rfl | rfl | rfl | rfl | rfl) := (show k = 0 ∨ k = 1 ∨ k = 2 ∨ k = 3 ∨ k = 4 ∨ k = 5 ∨ k = 6 ∨ k = 7 ∨ k = 8 by omega)
    all_goals rfl
  have hR : kindR op = .tuple #[.string ⟨(nm op).toArray⟩, .string ⟨#[100, 105, 111]⟩, .int .i64 2] := by
    subst hop
    obtain (rfl | rfl | rfl | rfl | rfl | rfl | rfl | rfl | rfl) := (show k = 0 ∨ k = 1 ∨ k = 2 ∨ k = 3 ∨ k = 4 ∨ k = 5 ∨ k = 6 ∨ k = 7 ∨ k = 8 by omega)
    all_goals rfl
  rw [hR]
  clear hR
  generalize nm op = l at *
  have d0 : decide (0 ≤ op) = true := decide_eq_true (by omega)
  have d16 : decide (16 ≤ op) = true := decide_eq_true (by omega)
  have d33 : decide (33 ≤ op) = true := decide_eq_true (by omega)
  have d49 : decide (49 ≤ op) = false := decide_eq_false (by omega)
  have e12 : decide (op < 12) = false := decide_eq_false (by omega)
  have e28 : decide (op < 28) = false := decide_eq_false (by omega)
  have e42 : decide (op < 42) = true := decide_eq_true (by omega)
  have e58 : decide (op < 58) = true := decide_eq_true (by omega)
  have hw : IntKind.i64.wrap (op - 33) = (k : Int) := by rw [IntKind.wrap_i64]; omega
  clear hop
  go_enter Tryd.func43, Tryd.ntmps43
  go_wp2_with fail
  refine post_val ?_ rfl (((Ch.refl [] _).alloc _).alloc _)
  simp [results, Tryd.f43, go_sem]

theorem kind_d {k : Nat} {op : Int} (hk : k < 9) (hop : op = (k : Int) + 49) (w : World) : Calls Tryd.prog 43 #[.int .i64 op] w fun e w' => e = .returned (kindR op) ∧ Ch [] w w' := by
  have hcell : ((w.alloc (.cells #[.string ⟨#[97, 100, 100]⟩, .string ⟨#[115, 117, 98]⟩, .string ⟨#[109, 117, 108]⟩, .string ⟨#[100, 105, 118]⟩, .string ⟨#[109, 111, 100]⟩, .string ⟨#[97, 110, 100]⟩, .string ⟨#[111, 114]⟩, .string ⟨#[120, 111, 114]⟩, .string ⟨#[108, 115, 104]⟩, .string ⟨#[114, 115, 104]⟩, .string ⟨#[97, 114, 115, 104]⟩, .string ⟨#[109, 111, 118]⟩] 9)).alloc (.cells #[.string ⟨#[106, 101, 113]⟩, .string ⟨#[106, 110, 101]⟩, .string ⟨#[106, 103, 116]⟩, .string ⟨#[106, 103, 101]⟩, .string ⟨#[106, 108, 116]⟩, .string ⟨#[106, 108, 101]⟩, .string ⟨#[106, 115, 101, 116]⟩, .string ⟨#[106, 115, 103, 116]⟩, .string ⟨#[106, 115, 108, 116]⟩] 9)).cell? ⟨w.heap.size + 1, k, none⟩ = some (.string ⟨(nm op).toArray⟩) := by
    rw [World.cell?_alloc_at _ _ _ _ (by simp)]
    subst hop
    obtain (rfl | rfl | rfl | rfl | rfl | rfl | rfl | rfl | rfl) := (show k = 0 ∨ k = 1 ∨ k = 2 ∨ k = 3 ∨ k = 4 ∨ k = 5 ∨ k = 6 ∨ k = 7 ∨ k = 8 by omega)
    all_goals rfl
  have hR : kindR op = .tuple #[.string ⟨(nm op).toArray⟩, .string ⟨#[100, 115, 111]⟩, .int .i64 2] := by
    subst hop
    obtain (rfl | rfl | rfl | rfl | rfl | rfl | rfl | rfl | rfl) := (show k = 0 ∨ k = 1 ∨ k = 2 ∨ k = 3 ∨ k = 4 ∨ k = 5 ∨ k = 6 ∨ k = 7 ∨ k = 8 by omega)
    all_goals rfl
  rw [hR]
  clear hR
  generalize nm op = l at *
  have d0 : decide (0 ≤ op) = true := decide_eq_true (by omega)
  have d16 : decide (16 ≤ op) = true := decide_eq_true (by omega)
  have d33 : decide (33 ≤ op) = true := decide_eq_true (by omega)
  have d49 : decide (49 ≤ op) = true := decide_eq_true (by omega)
  have e12 : decide (op < 12) = false := decide_eq_false (by omega)
  have e28 : decide (op < 28) = false := decide_eq_false (by omega)
  have e42 : decide (op < 42) = false := decide_eq_false (by omega)
  have e58 : decide (op < 58) = true := decide_eq_true (by omega)
  have hw : IntKind.i64.wrap (op - 49) = (k : Int) := by rw [IntKind.wrap_i64]; omega
  clear hop
  go_enter Tryd.func43, Tryd.ntmps43
  go_wp2_with fail
  refine post_val ?_ rfl (((Ch.refl [] _).alloc _).alloc _)
  simp [results, Tryd.f43, go_sem]

set_option maxHeartbeats 2000000 in
theorem kind_e {op : Int} (h : op = 12 ∨ op = 32 ∨ op = 64 ∨ op = 65) (w : World) : Calls Tryd.prog 43 #[.int .i64 op] w fun e w' => e = .returned (kindR op) ∧ Ch [] w w' := by
  obtain (rfl | rfl | rfl | rfl) := h
  all_goals
    go_enter Tryd.func43, Tryd.ntmps43
    go_wp2_with fail
    refine post_val ?_ rfl (((Ch.refl [] _).alloc _).alloc _)
    first | rfl | (simp [results, Tryd.f43, go_sem]; rfl)

set_option maxHeartbeats 2000000 in
theorem kind_f {op : Int} (h : op = 66 ∨ op = 67 ∨ op = 72 ∨ op = 73) (w : World) : Calls Tryd.prog 43 #[.int .i64 op] w fun e w' => e = .returned (kindR op) ∧ Ch [] w w' := by
  obtain (rfl | rfl | rfl | rfl) := h
  all_goals
    go_enter Tryd.func43, Tryd.ntmps43
    go_wp2_with fail
    refine post_val ?_ rfl (((Ch.refl [] _).alloc _).alloc _)
    first | rfl | (simp [results, Tryd.f43, go_sem]; rfl)

theorem gap_a {op : Int} (h0 : 13 ≤ op) (h1 : op < 16) (h : cls op = 0) (w : World) : Calls Tryd.prog 43 #[.int .i64 op] w fun e w' => e = .returned (kindR op) ∧ Ch [] w w' := by
  have hR : kindR op = .tuple #[.string ⟨#[]⟩, .string ⟨#[]⟩, .int .i64 0] := by
    unfold kindR; rw [(none_of h).1, (none_of h).2, h]
  rw [hR]
  clear hR
  have hs : ∀ n, cls n ≠ 0 → op ≠ n := fun n hn e => hn (e ▸ h)
  have s12 := hs 12 (by decide); have s32 := hs 32 (by decide); have s64 := hs 64 (by decide); have s65 := hs 65 (by decide)
  have s66 := hs 66 (by decide); have s67 := hs 67 (by decide); have s72 := hs 72 (by decide); have s73 := hs 73 (by decide)
  have d0 : decide (0 ≤ op) = true := decide_eq_true (by omega)
  have d16 : decide (16 ≤ op) = false := decide_eq_false (by omega)
  have d33 : decide (33 ≤ op) = false := decide_eq_false (by omega)
  have d49 : decide (49 ≤ op) = false := decide_eq_false (by omega)
  have e12 : decide (op < 12) = false := decide_eq_false (by omega)
  have e28 : decide (op < 28) = true := decide_eq_true (by omega)
  have e42 : decide (op < 42) = true := decide_eq_true (by omega)
  have e58 : decide (op < 58) = true := decide_eq_true (by omega)
  have q12 : (op == 12) = false := by rw [beq_eq_false_iff_ne]; omega
  have q32 : (op == 32) = false := by rw [beq_eq_false_iff_ne]; omega
  have q64 : (op == 64) = false := by rw [beq_eq_false_iff_ne]; omega
  have q65 : (op == 65) = false := by rw [beq_eq_false_iff_ne]; omega
  have q66 : (op == 66) = false := by rw [beq_eq_false_iff_ne]; omega
  have q67 : (op == 67) = false := by rw [beq_eq_false_iff_ne]; omega
  have q72 : (op == 72) = false := by rw [beq_eq_false_iff_ne]; omega
  have q73 : (op == 73) = false := by rw [beq_eq_false_iff_ne]; omega
  clear h h0 h1 hs s12 s32 s64 s65 s66 s67 s72 s73
  go_enter Tryd.func43, Tryd.ntmps43
  go_wp2_with fail
  refine post_val ?_ rfl (((Ch.refl [] _).alloc _).alloc _)
  simp [results, Tryd.f43, go_sem]

theorem gap_b {op : Int} (h0 : 28 ≤ op) (h1 : op < 33) (h : cls op = 0) (w : World) : Calls Tryd.prog 43 #[.int .i64 op] w fun e w' => e = .returned (kindR op) ∧ Ch [] w w' := by
  have hR : kindR op = .tuple #[.string ⟨#[]⟩, .string ⟨#[]⟩, .int .i64 0] := by
    unfold kindR; rw [(none_of h).1, (none_of h).2, h]
  rw [hR]
  clear hR
  have hs : ∀ n, cls n ≠ 0 → op ≠ n := fun n hn e => hn (e ▸ h)
  have s12 := hs 12 (by decide); have s32 := hs 32 (by decide); have s64 := hs 64 (by decide); have s65 := hs 65 (by decide)
  have s66 := hs 66 (by decide); have s67 := hs 67 (by decide); have s72 := hs 72 (by decide); have s73 := hs 73 (by decide)
  have d0 : decide (0 ≤ op) = true := decide_eq_true (by omega)
  have d16 : decide (16 ≤ op) = true := decide_eq_true (by omega)
  have d33 : decide (33 ≤ op) = false := decide_eq_false (by omega)
  have d49 : decide (49 ≤ op) = false := decide_eq_false (by omega)
  have e12 : decide (op < 12) = false := decide_eq_false (by omega)
  have e28 : decide (op < 28) = false := decide_eq_false (by omega)
  have e42 : decide (op < 42) = true := decide_eq_true (by omega)
  have e58 : decide (op < 58) = true := decide_eq_true (by omega)
  have q12 : (op == 12) = false := by rw [beq_eq_false_iff_ne]; omega
  have q32 : (op == 32) = false := by rw [beq_eq_false_iff_ne]; omega
  have q64 : (op == 64) = false := by rw [beq_eq_false_iff_ne]; omega
  have q65 : (op == 65) = false := by rw [beq_eq_false_iff_ne]; omega
  have q66 : (op == 66) = false := by rw [beq_eq_false_iff_ne]; omega
  have q67 : (op == 67) = false := by rw [beq_eq_false_iff_ne]; omega
  have q72 : (op == 72) = false := by rw [beq_eq_false_iff_ne]; omega
  have q73 : (op == 73) = false := by rw [beq_eq_false_iff_ne]; omega
  clear h h0 h1 hs s12 s32 s64 s65 s66 s67 s72 s73
  go_enter Tryd.func43, Tryd.ntmps43
  go_wp2_with fail
  refine post_val ?_ rfl (((Ch.refl [] _).alloc _).alloc _)
  simp [results, Tryd.f43, go_sem]

theorem gap_c {op : Int} (h0 : 42 ≤ op) (h1 : op < 49) (h : cls op = 0) (w : World) : Calls Tryd.prog 43 #[.int .i64 op] w fun e w' => e = .returned (kindR op) ∧ Ch [] w w' := by
  have hR : kindR op = .tuple #[.string ⟨#[]⟩, .string ⟨#[]⟩, .int .i64 0] := by
    unfold kindR; rw [(none_of h).1, (none_of h).2, h]
  rw [hR]
  clear hR
  have hs : ∀ n, cls n ≠ 0 → op ≠ n := fun n hn e => hn (e ▸ h)
  have s12 := hs 12 (by decide); have s32 := hs 32 (by decide); have s64 := hs 64 (by decide); have s65 := hs 65 (by decide)
  have s66 := hs 66 (by decide); have s67 := hs 67 (by decide); have s72 := hs 72 (by decide); have s73 := hs 73 (by decide)
  have d0 : decide (0 ≤ op) = true := decide_eq_true (by omega)
  have d16 : decide (16 ≤ op) = true := decide_eq_true (by omega)
  have d33 : decide (33 ≤ op) = true := decide_eq_true (by omega)
  have d49 : decide (49 ≤ op) = false := decide_eq_false (by omega)
  have e12 : decide (op < 12) = false := decide_eq_false (by omega)
  have e28 : decide (op < 28) = false := decide_eq_false (by omega)
  have e42 : decide (op < 42) = false := decide_eq_false (by omega)
  have e58 : decide (op < 58) = true := decide_eq_true (by omega)
  have q12 : (op == 12) = false := by rw [beq_eq_false_iff_ne]; omega
  have q32 : (op == 32) = false := by rw [beq_eq_false_iff_ne]; omega
  have q64 : (op == 64) = false := by rw [beq_eq_false_iff_ne]; omega
  have q65 : (op == 65) = false := by rw [beq_eq_false_iff_ne]; omega
  have q66 : (op == 66) = false := by rw [beq_eq_false_iff_ne]; omega
  have q67 : (op == 67) = false := by rw [beq_eq_false_iff_ne]; omega
  have q72 : (op == 72) = false := by rw [beq_eq_false_iff_ne]; omega
  have q73 : (op == 73) = false := by rw [beq_eq_false_iff_ne]; omega
  clear h h0 h1 hs s12 s32 s64 s65 s66 s67 s72 s73
  go_enter Tryd.func43, Tryd.ntmps43
  go_wp2_with fail
  refine post_val ?_ rfl (((Ch.refl [] _).alloc _).alloc _)
  simp [results, Tryd.f43, go_sem]

theorem gap_d {op : Int} (h0 : 58 ≤ op) (h1 : op < 74) (h : cls op = 0) (w : World) : Calls Tryd.prog 43 #[.int .i64 op] w fun e w' => e = .returned (kindR op) ∧ Ch [] w w' := by
  have hR : kindR op = .tuple #[.string ⟨#[]⟩, .string ⟨#[]⟩, .int .i64 0] := by
    unfold kindR; rw [(none_of h).1, (none_of h).2, h]
  rw [hR]
  clear hR
  have hs : ∀ n, cls n ≠ 0 → op ≠ n := fun n hn e => hn (e ▸ h)
  have s12 := hs 12 (by decide); have s32 := hs 32 (by decide); have s64 := hs 64 (by decide); have s65 := hs 65 (by decide)
  have s66 := hs 66 (by decide); have s67 := hs 67 (by decide); have s72 := hs 72 (by decide); have s73 := hs 73 (by decide)
  have d0 : decide (0 ≤ op) = true := decide_eq_true (by omega)
  have d16 : decide (16 ≤ op) = true := decide_eq_true (by omega)
  have d33 : decide (33 ≤ op) = true := decide_eq_true (by omega)
  have d49 : decide (49 ≤ op) = true := decide_eq_true (by omega)
  have e12 : decide (op < 12) = false := decide_eq_false (by omega)
  have e28 : decide (op < 28) = false := decide_eq_false (by omega)
  have e42 : decide (op < 42) = false := decide_eq_false (by omega)
  have e58 : decide (op < 58) = false := decide_eq_false (by omega)
  have q12 : (op == 12) = false := by rw [beq_eq_false_iff_ne]; omega
  have q32 : (op == 32) = false := by rw [beq_eq_false_iff_ne]; omega
  have q64 : (op == 64) = false := by rw [beq_eq_false_iff_ne]; omega
  have q65 : (op == 65) = false := by rw [beq_eq_false_iff_ne]; omega
  have q66 : (op == 66) = false := by rw [beq_eq_false_iff_ne]; omega
  have q67 : (op == 67) = false := by rw [beq_eq_false_iff_ne]; omega
  have q72 : (op == 72) = false := by rw [beq_eq_false_iff_ne]; omega
  have q73 : (op == 73) = false := by rw [beq_eq_false_iff_ne]; omega
  clear h h0 h1 hs s12 s32 s64 s65 s66 s67 s72 s73
  go_enter Tryd.func43, Tryd.ntmps43
  go_wp2_with fail
  refine post_val ?_ rfl (((Ch.refl [] _).alloc _).alloc _)
  simp [results, Tryd.f43, go_sem]

theorem kind_g {op : Int} (h : op < 0) (w : World) : Calls Tryd.prog 43 #[.int .i64 op] w fun e w' => e = .returned (kindR op) ∧ Ch [] w w' := by
  have hR : kindR op = .tuple #[.string ⟨#[]⟩, .string ⟨#[]⟩, .int .i64 0] := by
    unfold kindR; rw [(out_nm (.inl h)).1, (out_nm (.inl h)).2.1, (out_nm (.inl h)).2.2]
  rw [hR]
  clear hR
  have d0 : decide (0 ≤ op) = false := decide_eq_false (by omega)
  have d1 : decide (16 ≤ op) = false := decide_eq_false (by omega)
  have d2 : decide (33 ≤ op) = false := decide_eq_false (by omega)
  have d3 : decide (49 ≤ op) = false := decide_eq_false (by omega)
  have q12 : (op == 12) = false := by rw [beq_eq_false_iff_ne]; omega
  have q32 : (op == 32) = false := by rw [beq_eq_false_iff_ne]; omega
  have q64 : (op == 64) = false := by rw [beq_eq_false_iff_ne]; omega
  have q65 : (op == 65) = false := by rw [beq_eq_false_iff_ne]; omega
  have q66 : (op == 66) = false := by rw [beq_eq_false_iff_ne]; omega
  have q67 : (op == 67) = false := by rw [beq_eq_false_iff_ne]; omega
  have q72 : (op == 72) = false := by rw [beq_eq_false_iff_ne]; omega
  have q73 : (op == 73) = false := by rw [beq_eq_false_iff_ne]; omega
  clear h
  go_enter Tryd.func43, Tryd.ntmps43
  go_wp2_with fail
  refine post_val ?_ rfl (((Ch.refl [] _).alloc _).alloc _)
  simp [results, Tryd.f43, go_sem]
theorem kind_h {op : Int} (h : 74 ≤ op) (w : World) : Calls Tryd.prog 43 #[.int .i64 op] w fun e w' => e = .returned (kindR op) ∧ Ch [] w w' := by
  have hR : kindR op = .tuple #[.string ⟨#[]⟩, .string ⟨#[]⟩, .int .i64 0] := by
    unfold kindR; rw [(out_nm (.inr h)).1, (out_nm (.inr h)).2.1, (out_nm (.inr h)).2.2]
  rw [hR]
  clear hR
  have d0 : decide (0 ≤ op) = true := decide_eq_true (by omega)
  have d1 : decide (16 ≤ op) = true := decide_eq_true (by omega)
  have d2 : decide (33 ≤ op) = true := decide_eq_true (by omega)
  have d3 : decide (49 ≤ op) = true := decide_eq_true (by omega)
  have e0 : decide (op < 12) = false := decide_eq_false (by omega)
  have e1 : decide (op < 28) = false := decide_eq_false (by omega)
  have e2 : decide (op < 42) = false := decide_eq_false (by omega)
  have e3 : decide (op < 58) = false := decide_eq_false (by omega)
  have q12 : (op == 12) = false := by rw [beq_eq_false_iff_ne]; omega
  have q32 : (op == 32) = false := by rw [beq_eq_false_iff_ne]; omega
  have q64 : (op == 64) = false := by rw [beq_eq_false_iff_ne]; omega
  have q65 : (op == 65) = false := by rw [beq_eq_false_iff_ne]; omega
  have q66 : (op == 66) = false := by rw [beq_eq_false_iff_ne]; omega
  have q67 : (op == 67) = false := by rw [beq_eq_false_iff_ne]; omega
  have q72 : (op == 72) = false := by rw [beq_eq_false_iff_ne]; omega
  have q73 : (op == 73) = false := by rw [beq_eq_false_iff_ne]; omega
  clear h
  go_enter Tryd.func43, Tryd.ntmps43
  go_wp2_with fail
  refine post_val ?_ rfl (((Ch.refl [] _).alloc _).alloc _)
  simp [results, Tryd.f43, go_sem]

end Go.Proofs.YtadogffllkompaaDoor
