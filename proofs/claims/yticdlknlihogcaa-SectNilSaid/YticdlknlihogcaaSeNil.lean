/-
  SectNil: nil sections are of nobody.
-/
import Derived.Test.YticdlknlihogcaaSeK
namespace Go.Proofs.Yticdlknlihogcaa
open Go.RowKit

theorem nil_exit (r : Int) (w : World) :
    Calls Try.prog 9 #[.pointer none, .int .i64 r] w fun e w' => e = .returned (.tuple #[.bool false, .int .i64 6]) ∧ w = w' := by
  go_enter Try.func9, Try.ntmps9
  go_wp2
  go_ret2
  exact ⟨rfl, rfl⟩
theorem nil_enter (v : Value) (w : World) :
    Calls Try.prog 11 #[.pointer none, v] w fun e w' => e = .returned (.int .i64 6) ∧ w = w' := by
  go_enter Try.func11, Try.ntmps11
  go_wp2
  go_ret
  exact ⟨rfl, rfl⟩
theorem nil_depth (r : Int) (w : World) :
    Calls Try.prog 14 #[.pointer none, .int .i64 r] w fun e w' => e = .returned (.int .i64 0) ∧ w = w' := by
  go_enter Try.func14, Try.ntmps14
  go_wp2
  go_ret
  exact ⟨rfl, rfl⟩
theorem nil_since (r : Int) (w : World) :
    Calls Try.prog 16 #[.pointer none, .int .i64 r] w fun e w' => e = .returned (.int .i64 0) ∧ w = w' := by
  go_enter Try.func16, Try.ntmps16
  go_wp2
  go_ret
  exact ⟨rfl, rfl⟩
theorem nil_stamp (w : World) :
    Calls Try.prog 13 #[.pointer none] w fun e w' => e = .returned (.int .i64 0) ∧ w = w' := by
  go_enter Try.func13, Try.ntmps13
  go_wp2
  go_ret
  exact ⟨rfl, rfl⟩
theorem sel_none : selC 64 (fun _ => false) = [] := by simp [selC]
theorem msk_none : mskN (fun _ => false) = 0 := mskN_none fun _ _ => rfl
theorem nil_in (w : World) :
    Calls Try.prog 20 #[.pointer none] w fun e W' => e = .returned (.int .u64 0) ∧ Ch [] w W' := by
  have hal := (Ch.refl [] w).alloc (.cells #[.pointer none] 55)
  have H := Lib.hid (maskOf_any (w := w.alloc (.cells #[.pointer none] 55)) (p := none) (F := 28) (lb := #[.pointer (some ⟨w.heap.size, 0, none⟩)]) (q := fun _ => false)
    (enters_of Try.func28 (by kernel_rfl) rfl) (fun _ => sel_none) (fun a e => by cases e))
  rw [msk_none] at H
  have HAl := Lib.hid hal
  clear hal
  go_enter Try.func20, Try.ntmps20
  go_wp2_with fail
  with_reducible refine H.out.mono ?_
  rintro e w1 ⟨rfl, hc⟩
  go_wp2_with fail
  go_ret
  exact ⟨rfl, HAl.out.trans hc⟩
theorem nil_open (t : Int) (w : World) :
    Calls Try.prog 17 #[.pointer none, .int .i64 t] w fun e W' => e = .returned (.int .u64 0) ∧ Ch [] w W' := by
  have hal := ((Ch.refl [] w).alloc (.cells #[.pointer none] 55)).alloc (.cells #[.int .i64 t] 3)
  have H := Lib.hid (maskOf_any (w := (w.alloc (.cells #[.pointer none] 55)).alloc (.cells #[.int .i64 t] 3)) (p := none) (F := 26) (lb := #[.pointer (some ⟨w.heap.size, 0, none⟩), .pointer (some ⟨w.heap.size + 1, 0, none⟩)]) (q := fun _ => false)
    (enters_of Try.func26 (by kernel_rfl) rfl) (fun _ => sel_none) (fun a e => by cases e))
  rw [msk_none] at H
  have HAl := Lib.hid hal
  clear hal
  go_enter Try.func17, Try.ntmps17
  go_wp2_with fail
  with_reducible refine H.out.mono ?_
  rintro e w2 ⟨rfl, hc⟩
  go_wp2_with fail
  go_ret
  exact ⟨rfl, HAl.out.trans hc⟩

theorem nil_law (r : Int) (w : World) :
    Calls Try.prog 7 #[.int .i64 r] w fun e w' => e = .returned (.bool true) ∧ Below w.heap.size w w' := by
  go_enter Try.func7, Try.ntmps7
  go_wp2_with fail
  with_reducible refine (nil_exit _ _).mono ?_
  rintro e w' ⟨rfl, rfl⟩
  go_wp2_with fail
  with_reducible refine (known_any _).mono ?_
  rintro e w1 ⟨rfl, h1⟩
  have H1 := Lib.hid (h1.alloc (.cells #[.int .i64 r] 3))
  clear h1
  go_wp2_with fail
  generalize w1.alloc (.cells #[.int .i64 r] 3) = w2 at *
  with_reducible refine (nil_enter _ _).mono ?_
  rintro e w' ⟨rfl, rfl⟩
  go_wp2_with fail
  with_reducible refine (nil_depth _ _).mono ?_
  rintro e w' ⟨rfl, rfl⟩
  go_wp2_with fail
  with_reducible refine (nil_since _ _).mono ?_
  rintro e w' ⟨rfl, rfl⟩
  go_wp2_with fail
  with_reducible refine (nil_in _).mono ?_
  rintro e w3 ⟨rfl, h3⟩
  have H3 := Lib.hid (H1.out.trans h3)
  clear h3 H1
  go_wp2_with fail
  with_reducible refine (nil_open _ _).mono ?_
  rintro e w4 ⟨rfl, h4⟩
  have H4 := Lib.hid (H3.out.trans h4)
  clear h4 H3
  go_wp2_with fail
  with_reducible refine (nil_stamp _).mono ?_
  rintro e w' ⟨rfl, rfl⟩
  go_wp2_with fail
  go_ret
  exact ⟨rfl, H4.out.below _ (by simp) (Nat.le_refl _)⟩
end Go.Proofs.Yticdlknlihogcaa
