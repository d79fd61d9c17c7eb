/-
  An arena of Thing: Get.
-/
import Derived.Test.YtdompamilgbnnaaATD
namespace Go.Proofs.Ytdompamilgbnnaa.aT
open Go.RowKit

attribute [local go_sem] Oper.semAt_some

set_option maxHeartbeats 1000000 in
theorem get_any {w : World} {R G : Nat} {xs : List (Sl Th)} (h : AC w R G xs) (s g : Int) :
    Calls Try.prog 26 #[.pointer (some ⟨R, 0, none⟩), hv s g] w fun e w' => e = .returned (.tuple #[.agg #[.int .i64 (getX xs s g).1, .string (getX xs s g).2], .int .i64 (findE xs s g)]) ∧ Ch [] w w' := by
  obtain ⟨w0, hw0⟩ : ∃ w0, w0 = w.alloc (.cells #[.int .i64 s, .int .i64 g] 33) := ⟨_, rfl⟩
  obtain ⟨w1, hw1⟩ : ∃ w1, w1 = w0.alloc (.cells #[.int .i64 0, .string ⟨#[]⟩] 61) := ⟨_, rfl⟩
  have HC := Lib.hid (show Ch [] w w1 by rw [hw1, hw0]; exact ((Ch.refl [] w).alloc _).alloc _)
  have HA := Lib.hid (h.ch HC.out (by simp) (by simp))
  have s0 : w0.heap.size = w.heap.size + 1 := by rw [hw0]; simp
  have HH := Lib.hid (show Box2 w1 w.heap.size (.int .i64 s) (.int .i64 g) by rw [hw1, hw0]; exact (Box2.new w _ _ _).alloc _)
  have HR := Lib.hid (show Box2 w1 (w.heap.size + 1) (.int .i64 0) (.string ⟨#[]⟩) by rw [hw1, ← s0]; exact Box2.new w0 _ _ _)
  have hGl := h.lt.2
  have HW := Lib.hid (And.intro hw0 hw1)
  clear h s0 hw0 hw1
  by_cases h0 : findE xs s g = 0
  · obtain ⟨k, rfl, hk, hh, rfl⟩ := findE_zero h0
    have e1 : getX xs (k : Int) ((at0 xs k).gen : Int) = (at0 xs k).x := by unfold getX; rw [if_pos h0, Int.toNat_natCast]
    rw [e1, h0]
    obtain ⟨z, hz⟩ : ∃ z, z = (at0 xs k).x := ⟨_, rfl⟩
    rw [← hz]
    have HZ := Lib.hid hz
    clear e1 hz h0
    obtain ⟨ge, hge⟩ : ∃ ge, ge = (at0 xs k).gen := ⟨_, rfl⟩
    have HAt := Lib.hid (at_ok HA.out k hk hh)
    rw [← hge] at HAt HH HW ⊢
    clear hge
    go_enter Try.func26, Try.ntmps26
    go_wp2_with fail
    rw [← HW.out.1, ← HW.out.2]
    refine HAt.out.mono ?_
    rintro e w2 ⟨rfl, hc2⟩
    have hA2 := HA.out.ch hc2 (by simp) (by simp)
    have HC2 := Lib.hid (HC.out.trans hc2)
    have HR2 := Lib.hid (HR.out.ch hc2 (by simp))
    have c3 := (hA2.sl k hk).c3
    have c4 := (hA2.sl k hk).c4
    rw [← HZ.out] at c3 c4
    obtain ⟨r0, r1, q0, q1⟩ := HR2.out
    clear hA2 hc2
    go_wp2
    have hb := HR2.out.set (.int .i64 z.1) (.string z.2)
    have k0 := hb.c0
    have k1 := hb.c1
    refine bodyPost_ret (v := .tuple #[.agg #[.int .i64 z.1, .string z.2], .int .i64 0]) ?_ rfl ?_
    · simp [results, Try.f26, go_sem, k0, k1]
    · exact ⟨rfl, chSetNew (chSetNew HC2.out (p := ⟨w.heap.size + 1, 0, none⟩) (by simp) _) (p := ⟨w.heap.size + 1, 1, none⟩) (by simp) _⟩
  · have e1 : getX xs s g = default := by unfold getX; rw [if_neg h0]
    have HAt := Lib.hid (at_any HA.out s g)
    rw [e1]
    rw [if_neg h0] at HAt
    generalize findE xs s g = E at *
    have hd1 : (E == 0) = false := by simpa using h0
    clear e1
    go_enter Try.func26, Try.ntmps26
    go_wp2_with fail
    rw [← HW.out.1, ← HW.out.2]
    refine HAt.out.mono ?_
    rintro e w2 ⟨rfl, hc2⟩
    have HN2 := Lib.hid (Box2.new w2 (.int .i64 0) (.string ⟨#[]⟩) 61)
    have HC2 := Lib.hid ((HC.out.trans hc2).alloc (.cells #[.int .i64 0, .string ⟨#[]⟩] 61))
    have HR2 := Lib.hid ((HR.out.ch hc2 (by simp)).alloc (.cells #[.int .i64 0, .string ⟨#[]⟩] 61))
    obtain ⟨r0, r1, q0, q1⟩ := HR2.out
    clear hc2
    go_wp2
    have hb := HR2.out.set (.int .i64 0) (.string ⟨#[]⟩)
    have k0 := hb.c0
    have k1 := hb.c1
    refine bodyPost_ret (v := .tuple #[.agg #[.int .i64 0, .string ⟨#[]⟩], .int .i64 E]) ?_ rfl ?_
    · simp [results, Try.f26, go_sem, k0, k1]
    · exact ⟨rfl, chSetNew (chSetNew HC2.out (p := ⟨w.heap.size + 1, 0, none⟩) (by simp) _) (p := ⟨w.heap.size + 1, 1, none⟩) (by simp) _⟩
end Go.Proofs.Ytdompamilgbnnaa.aT
