/-
  The laws LevelGrans, LevelPlaces, LevelTimes, walked.
-/
import Derived.Test.YtnbfficaadlphaaLvC
namespace Go.Proofs.Ytnbfficaadlphaa
open Go.RowKit

attribute [local go_sem] Oper.semAt_some

theorem grans_law {n d : Int} (hd : Wd d) (w : World) :
    Calls Try.prog 3 #[.int .i64 n, .int .u64 d] w fun e w' => e = .returned (.bool true) ∧ Below w.heap.size w w' := by
  have H1 := Lib.hid (of_any d w)
  have H2 := Lib.hid (rof_any hd w)
  have H3 := Lib.hid (fun W => gran_any n W)
  have H4 := Lib.hid (fun W => rgran_any n W)
  generalize ofL d = L at *
  generalize ofB d = B at *
  generalize granV n = V at *
  clear hd
  go_enter Try.func3, Try.ntmps3
  go_wp2_with fail
  with_reducible refine H1.out.mono ?_
  rintro e w1 ⟨rfl, rfl⟩
  go_wp2_with fail
  with_reducible refine H2.out.mono ?_
  rintro e w2 ⟨rfl, rfl⟩
  go_wp2_with fail
  with_reducible refine (known_any _).mono ?_
  rintro e w3 ⟨rfl, hc3⟩
  have HC := Lib.hid hc3
  clear hc3
  go_wp2_with fail
  with_reducible refine (H3.out _).mono ?_
  rintro e w4 ⟨rfl, rfl⟩
  go_wp2_with fail
  with_reducible refine (H4.out _).mono ?_
  rintro e w5 ⟨rfl, rfl⟩
  go_wp2
  go_ret
  exact ⟨rfl, HC.out.below _ (by simp) (Nat.le_refl _)⟩

theorem times_law {x n s : Int} (hx : Wd x) (w : World) :
    Calls Try.prog 5 #[.int .u64 x, .int .i64 n, .int .i64 s] w fun e w' => e = .returned (.bool true) ∧ Below w.heap.size w w' := by
  have H1 := Lib.hid (time_all hx n s w)
  have H2 := Lib.hid (rtime_all hx n s w)
  generalize (timeR x n s).1 = L at *
  generalize (timeR x n s).2 = B at *
  clear hx
  go_enter Try.func5, Try.ntmps5
  go_wp2_with fail
  with_reducible refine H1.out.mono ?_
  rintro e w1 ⟨rfl, rfl⟩
  go_wp2_with fail
  with_reducible refine H2.out.mono ?_
  rintro e w2 ⟨rfl, rfl⟩
  go_wp2_with fail
  with_reducible refine (known_any _).mono ?_
  rintro e w3 ⟨rfl, hc3⟩
  have HC := Lib.hid hc3
  clear hc3
  go_wp2
  go_ret
  exact ⟨rfl, HC.out.below _ (by simp) (Nat.le_refl _)⟩

/-- A spot, as the document's. -/
theorem spot_of (n s c D : Int) (w : World) :
    Calls Try.prog 17 #[.agg #[.int .i64 n, .int .i64 s, .int .u64 c, .int .u64 D]] w fun e w' => e = .returned (.agg #[.int .i64 n, .int .i64 s, .int .u64 c, .int .u64 D]) ∧ Ch [] w w' := by
  have HF := Lib.hid (Four.new w (.int .i64 n) (.int .i64 s) (.int .u64 c) (.int .u64 D) 29)
  have HB := Lib.hid ((Ch.refl [] w).alloc (.cells #[.int .i64 n, .int .i64 s, .int .u64 c, .int .u64 D] 29))
  have HF2 := Lib.hid (HF.out.ch ((Ch.refl [] _).alloc (.cells #[.int .i64 0, .int .i64 0, .int .u64 0, .int .u64 0] 33)) (by simp))
  obtain ⟨a0, a1, a2, a3⟩ := HF2.out
  go_enter Try.func17, Try.ntmps17
  go_wp2
  refine bodyPost_ret (v := .agg #[.int .i64 n, .int .i64 s, .int .u64 c, .int .u64 D]) ?_ rfl ?_
  · simp [results, Try.f17, go_sem]
  · exact ⟨rfl, HB.out.alloc _⟩
end Go.Proofs.Ytnbfficaadlphaa
