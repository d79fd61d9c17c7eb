/-
  The law ArenaNil, walked.
-/
import Derived.Test.YtdompamilgbnnaaAIK
namespace Go.Proofs.Ytdompamilgbnnaa
open Go.RowKit aI

attribute [local go_sem] Oper.semAt_some

theorem nil_live0 (w : World) : Calls Try.prog 19 #[.pointer none] w fun e W' => ∃ a cap, e = .returned (.slice a 0 cap) ∧ Ch [] w W' := by
  refine (callsIn_wide.1 (live_in 0 none 0 [] w (.inl ⟨rfl, rfl⟩))).mono ?_
  rintro e W' ⟨v, rfl, hown, hB⟩
  rcases hown.2 with ⟨rfl, _⟩ | ⟨g, cap, cur, rfl, _⟩
  · exact ⟨_, _, rfl, Ch.of_below hB⟩
  · exact ⟨_, _, rfl, Ch.of_below hB⟩
theorem nil_len0 (w : World) : Calls Try.prog 20 #[.pointer none] w fun e W' => e = .returned (.int .i64 0) ∧ Ch [] w W' :=
  (len_la none 0 [] w (.inl ⟨rfl, rfl⟩)).mono fun _ _ ⟨he, hB⟩ => ⟨he, Ch.of_below hB⟩
theorem nil_room0 (w : World) : Calls Try.prog 21 #[.pointer none] w fun e W' => e = .returned (.int .i64 0) ∧ Ch [] w W' :=
  (room_la none 0 [] w (.inl ⟨rfl, rfl⟩)).mono fun _ _ ⟨he, hB⟩ => ⟨he, Ch.of_below hB⟩

set_option maxHeartbeats 1000000 in
theorem nil_law (s g x : Int) (w : World) :
    Calls Try.prog 7 #[.agg #[.int .i64 s, .int .i64 g], .int .i64 x] w fun e w' => e = .returned (.bool true) ∧ Below w.heap.size w w' := by
  have HA := Lib.hid (Box2.new w (.int .i64 s) (.int .i64 g) 33)
  have HC := Lib.hid ((Ch.refl [] w).alloc (.cells #[.int .i64 s, .int .i64 g] 33))
  obtain ⟨A, hA⟩ : ∃ A, A = w.heap.size := ⟨_, rfl⟩
  rw [← hA] at HA
  have HAe := Lib.hid hA
  clear hA
  go_enter Try.func7, Try.ntmps7
  go_wp2_with fail
  rw [← HAe.out]
  generalize w.alloc (.cells #[.int .i64 s, .int .i64 g] 33) = w0 at *
  with_reducible refine (put_nil w0 x).mono ?_
  rintro e w1 ⟨rfl, hc1⟩
  have HA1 := Lib.hid ((HA.out.ch hc1 (by simp)).alloc (.cells #[.int .i64 0, .int .i64 0] 33))
  have HB1 := Lib.hid (Box2.new w1 (.int .i64 0) (.int .i64 0) 33)
  have HC1 := Lib.hid ((HC.out.trans hc1).alloc (.cells #[.int .i64 0, .int .i64 0] 33))
  have a0 := HA1.out.c0
  have a1 := HA1.out.c1
  clear hc1 HA HC
  go_wp2_with fail
  obtain ⟨B, hB⟩ : ∃ B, B = w1.heap.size := ⟨_, rfl⟩
  rw [← hB] at HB1 ⊢
  clear hB
  generalize w1.alloc (.cells #[.int .i64 0, .int .i64 0] 33) = w2 at *
  with_reducible refine (get_nil w2 s g).mono ?_
  rintro e w3 ⟨rfl, hc3⟩
  have HA3 := Lib.hid (HA1.out.ch hc3 (by simp))
  have HB3 := Lib.hid (HB1.out.ch hc3 (by simp))
  have HC3 := Lib.hid (HC1.out.trans hc3)
  clear hc3 HA1 HB1 HC1 a0 a1
  go_wp2_with fail
  with_reducible refine (known_any w3).mono ?_
  rintro e w4 ⟨rfl, hb4⟩
  have hc4 := Ch.of_below (S := []) hb4
  have HA4 := Lib.hid (HA3.out.ch hc4 (by simp))
  have hB4 := HB3.out.ch hc4 (by simp)
  have HC4 := Lib.hid (HC3.out.trans hc4)
  have b0 := hB4.c0
  have b1 := hB4.c1
  have a0 := HA4.out.c0
  have a1 := HA4.out.c1
  clear hc4 hb4 hB4 HA3 HB3 HC3
  go_wp2_with fail
  with_reducible refine (set_nil w4 s g x).mono ?_
  rintro e w5 ⟨rfl, hc5⟩
  have HA5 := Lib.hid (HA4.out.ch hc5 (by simp))
  have HC5 := Lib.hid ((HC4.out.trans hc5).alloc (.cells #[.int .i64 s, .int .i64 g] 33))
  have c0 := HA5.out.c0
  have c1 := HA5.out.c1
  clear hc5 HA4 HC4 a0 a1 b0 b1
  go_wp2_with fail
  with_reducible refine (free_nil _ _).mono ?_
  rintro e w6 ⟨rfl, rfl⟩
  go_wp2_with fail
  with_reducible refine (nil_live0 _).mono ?_
  rintro e w7 ⟨al, cl, rfl, hc7⟩
  have HC7 := Lib.hid (HC5.out.trans hc7)
  clear hc7 HA5 HC5 c0 c1
  go_wp2_with fail
  with_reducible refine (nil_len0 _).mono ?_
  rintro e w8 ⟨rfl, hc8⟩
  have HC8 := Lib.hid (HC7.out.trans hc8)
  clear hc8 HC7
  go_wp2_with fail
  with_reducible refine (nil_room0 _).mono ?_
  rintro e w9 ⟨rfl, hc9⟩
  have HC9 := Lib.hid (HC8.out.trans hc9)
  clear hc9 HC8
  go_wp2
  go_ret
  exact ⟨rfl, HC9.out.below _ (by simp) (Nat.le_refl _)⟩
end Go.Proofs.Ytdompamilgbnnaa
