/-
  An arena of int: Get, Set.
-/
import Derived.Test.YtdompamilgbnnaaAID
namespace Go.Proofs.Ytdompamilgbnnaa.aI
open Go.RowKit

attribute [local go_sem] Oper.semAt_some

theorem get_any {w : World} {R G : Nat} {xs : List (Sl Int)} (h : AC w R G xs) (s g : Int) :
    Calls Try.prog 14 #[.pointer (some ⟨R, 0, none⟩), hv s g] w fun e w' => e = .returned (.tuple #[.int .i64 (getX xs s g), .int .i64 (findE xs s g)]) ∧ Ch [] w w' := by
  have HB := Lib.hid (Box2.new w (.int .i64 s) (.int .i64 g) 33)
  have HC := Lib.hid ((Ch.refl [] w).alloc (.cells #[.int .i64 s, .int .i64 g] 33))
  have HA := Lib.hid (h.ch HC.out (by simp) (by simp))
  clear h
  by_cases h0 : findE xs s g = 0
  · obtain ⟨k, rfl, hk, hh, rfl⟩ := findE_zero h0
    have e1 : getX xs (k : Int) ((at0 xs k).gen : Int) = (at0 xs k).x := by unfold getX; rw [if_pos h0, Int.toNat_natCast]
    rw [e1, h0]
    obtain ⟨z, hz⟩ : ∃ z, z = (at0 xs k).x := ⟨_, rfl⟩
    rw [← hz]
    have HZ := Lib.hid hz
    clear e1 hz h0
    obtain ⟨ge, hge⟩ : ∃ ge, ge = (at0 xs k).gen := ⟨_, rfl⟩
    have HAt := Lib.hid (at_ok HA.out k hk hh)
    rw [← hge] at HAt HB HC HA ⊢
    clear hge
    go_enter Try.func14, Try.ntmps14
    go_wp2_with fail
    generalize w.alloc (.cells #[.int .i64 (k : Int), .int .i64 (ge : Int)] 33) = w1 at *
    refine HAt.out.mono ?_
    rintro e w2 ⟨rfl, hc2⟩
    have hA2 := HA.out.ch hc2 (by simp) (by simp)
    have HC2 := Lib.hid (HC.out.trans hc2)
    have c3 := (hA2.sl k hk).c3
    rw [← HZ.out] at c3
    clear hA2 hc2
    go_wp2
    go_ret2
    exact ⟨rfl, HC2.out⟩
  · have e1 : getX xs s g = default := by unfold getX; rw [if_neg h0]
    have HAt := Lib.hid (at_any HA.out s g)
    rw [e1]
    rw [if_neg h0] at HAt
    have hcs := findE_cases xs s g
    generalize findE xs s g = E at *
    have hd1 : (E == 0) = false := by simpa using h0
    clear e1 hcs
    go_enter Try.func14, Try.ntmps14
    go_wp2_with fail
    generalize w.alloc (.cells #[.int .i64 s, .int .i64 g] 33) = w1 at *
    refine HAt.out.mono ?_
    rintro e w2 ⟨rfl, hc2⟩
    have HC2 := Lib.hid (HC.out.trans hc2)
    clear hc2
    go_wp2
    go_ret2
    exact ⟨rfl, HC2.out⟩

theorem get_nil (w : World) (s g : Int) :
    Calls Try.prog 14 #[.pointer none, hv s g] w fun e w' => e = .returned (.tuple #[.int .i64 0, .int .i64 6]) ∧ Ch [] w w' := by
  have HC := Lib.hid ((Ch.refl [] w).alloc (.cells #[.int .i64 s, .int .i64 g] 33))
  have HAt := Lib.hid (at_nil (w.alloc (.cells #[.int .i64 s, .int .i64 g] 33)) s g)
  have HB := Lib.hid (Box2.new w (.int .i64 s) (.int .i64 g) 33)
  go_enter Try.func14, Try.ntmps14
  go_wp2_with fail
  refine HAt.out.mono ?_
  rintro e w2 ⟨rfl, hc2⟩
  have HC2 := Lib.hid (HC.out.trans hc2)
  clear hc2
  go_wp2
  go_ret2
  exact ⟨rfl, HC2.out⟩

theorem set_any {w : World} {R G : Nat} {xs : List (Sl Int)} (h : AC w R G xs) (s g : Int) (x : Int) :
    Calls Try.prog 15 #[.pointer (some ⟨R, 0, none⟩), hv s g, .int .i64 x] w fun e w' => e = .returned (.int .i64 (findE xs s g)) ∧ AC w' R G (setL xs s g x) ∧ Ch [G] w w' := by
  have HC := Lib.hid ((Ch.refl [] w).alloc (.cells #[.int .i64 s, .int .i64 g] 33))
  have HA := Lib.hid (h.ch HC.out (by simp) (by simp))
  clear h
  by_cases h0 : findE xs s g = 0
  · obtain ⟨k, rfl, hk, hh, rfl⟩ := findE_zero h0
    have e1 : setL xs (k : Int) ((at0 xs k).gen : Int) x = xs.set k ⟨(at0 xs k).gen, (at0 xs k).held, x⟩ := by unfold setL; rw [if_pos h0, Int.toNat_natCast]
    rw [e1, h0]
    clear e1 h0
    have HAt := Lib.hid (at_ok HA.out k hk hh)
    obtain ⟨ge, hge⟩ : ∃ ge : Nat, (ge : Int) = ((at0 xs k).gen : Int) := ⟨_, rfl⟩
    rw [← hge] at HAt HC HA ⊢
    clear hge
    go_enter Try.func15, Try.ntmps15
    go_wp2_with fail
    generalize w.alloc (.cells #[.int .i64 (k : Int), .int .i64 (ge : Int)] 33) = w1 at *
    refine HAt.out.mono ?_
    rintro e w2 ⟨rfl, hc2⟩
    have hA2 := HA.out.ch hc2 (by simp) (by simp)
    have HC2 := Lib.hid (((HC.out.trans hc2).mono (T := [G]) (by simp)))
    have c3 := (hA2.sl k hk).c3
    have f3 := (hA2.sl k hk).f3
    have HA3 := Lib.hid (hA2.thing' k hk x)
    clear hA2 hc2
    go_wp2
    go_ret
    exact ⟨rfl, HA3.out, HC2.out.setCell (p := ⟨G, k * 4 + 3, none⟩) (by simp) _⟩
  · have e1 : setL xs s g x = xs := by unfold setL; rw [if_neg h0]
    have HAt := Lib.hid (at_any HA.out s g)
    rw [e1]
    rw [if_neg h0] at HAt
    generalize findE xs s g = E at *
    have hd1 : (E == 0) = false := by simpa using h0
    clear e1
    go_enter Try.func15, Try.ntmps15
    go_wp2_with fail
    generalize w.alloc (.cells #[.int .i64 s, .int .i64 g] 33) = w1 at *
    refine HAt.out.mono ?_
    rintro e w2 ⟨rfl, hc2⟩
    have HC2 := Lib.hid (HC.out.trans hc2)
    have HA2 := Lib.hid (HA.out.ch hc2 (by simp) (by simp))
    clear hc2
    go_wp2
    go_ret
    exact ⟨rfl, HA2.out, HC2.out.mono (by simp)⟩

theorem set_nil (w : World) (s g : Int) (x : Int) :
    Calls Try.prog 15 #[.pointer none, hv s g, .int .i64 x] w fun e w' => e = .returned (.int .i64 6) ∧ Ch [] w w' := by
  have HC := Lib.hid ((Ch.refl [] w).alloc (.cells #[.int .i64 s, .int .i64 g] 33))
  have HAt := Lib.hid (at_nil (w.alloc (.cells #[.int .i64 s, .int .i64 g] 33)) s g)
  go_enter Try.func15, Try.ntmps15
  go_wp2_with fail
  refine HAt.out.mono ?_
  rintro e w2 ⟨rfl, hc2⟩
  have HC2 := Lib.hid (HC.out.trans hc2)
  clear hc2
  go_wp2
  go_ret
  exact ⟨rfl, HC2.out⟩
end Go.Proofs.Ytdompamilgbnnaa.aI
