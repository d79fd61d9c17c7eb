/-
  Contracts of a ring of int: At.
-/
import Derived.Test.YtkjkaihbpccdmaaRIA
namespace Go.Proofs.Ytkjkaihbpccdmaa.rI
open Go.RowKit

attribute [local go_sem] Oper.semAt_some

theorem at_some {w : World} {R G room first held : Nat} {L : Nat → Int} (h : RC w R G room first held L) (i : Nat) (hi : i < held) :
    Calls Try.prog 14 #[.pointer (some ⟨R, 0, none⟩), .int .i64 (i : Int)] w fun e w' => e = .returned (.tuple #[.int .i64 (L i), .bool true]) ∧ ∃ n, w' = w.drewN n := by
  have hr := h.hr
  have hc := h.cs i (by omega)
  have HL := Lib.hid (len_any h)
  have HP := Lib.hid (place_any h i (by omega))
  generalize L i = v at hc ⊢
  generalize at' room first i = a at hc HP
  clear h
  have hd1 : decide ((i : Int) < 0) = false := by simp
  have hd2 : decide ((held : Int) ≤ (i : Int)) = false := by simp; omega
  go_enter Try.func14, Try.ntmps14
  go_wp2_with (first | (go_at_call 15; refine HL.out.mono ?_; rintro e w' ⟨rfl, rfl⟩) | (go_at_call 27; refine HP.out.mono ?_; rintro e w' ⟨rfl, nq, rfl⟩))
  go_ret2
  exact ⟨rfl, _, rfl⟩

theorem at_none {w : World} {R G room first held : Nat} {L : Nat → Int} (h : RC w R G room first held L) (i : Int) (hi : i < 0 ∨ (held : Int) ≤ i) :
    Calls Try.prog 14 #[.pointer (some ⟨R, 0, none⟩), .int .i64 i] w fun e w' => e = .returned (.tuple #[.int .i64 0, .bool false]) ∧ w = w' := by
  have HL := Lib.hid (len_any h)
  clear h
  by_cases h0 : i < 0
  · have hd1 : decide (i < 0) = true := by simpa using h0
    go_enter Try.func14, Try.ntmps14
    go_wp2
    go_ret2
    exact ⟨rfl, rfl⟩
  · have h1 : (held : Int) ≤ i := by omega
    have hd1 : decide (i < 0) = false := by simpa using h0
    have hd2 : decide ((held : Int) ≤ i) = true := by simpa using h1
    clear hi
    go_enter Try.func14, Try.ntmps14
    go_wp2_with (go_at_call 15; refine HL.out.mono ?_; rintro e w' ⟨rfl, rfl⟩)
    go_ret2
    exact ⟨rfl, rfl⟩

theorem at_nil (w : World) (i : Int) :
    Calls Try.prog 14 #[.pointer none, .int .i64 i] w fun e w' => e = .returned (.tuple #[.int .i64 0, .bool false]) ∧ w = w' := by
  by_cases h0 : i < 0
  · have hd1 : decide (i < 0) = true := by simpa using h0
    go_enter Try.func14, Try.ntmps14
    go_wp2
    go_ret2
    exact ⟨rfl, rfl⟩
  · have h1 : (0 : Int) ≤ i := by omega
    have hd1 : decide (i < 0) = false := by simpa using h0
    have hd2 : decide ((0 : Int) ≤ i) = true := by simpa using h1
    go_enter Try.func14, Try.ntmps14
    go_wp2_with (go_at_call 15; refine (len_nil _).mono ?_; rintro e w' ⟨rfl, rfl⟩)
    go_ret2
    exact ⟨rfl, rfl⟩
end Go.Proofs.Ytkjkaihbpccdmaa.rI
