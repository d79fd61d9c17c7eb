/-
  An arena of int: holds, empty, at.
-/
import Derived.Test.YtdompamilgbnnaaAIA
namespace Go.Proofs.Ytdompamilgbnnaa.aI
open Go.RowKit

attribute [local go_sem] Oper.semAt_some

theorem holds_any {w : World} {G k : Nat} {s : Sl Int} (h : SC w G k s) :
    Calls Try.prog 31 #[.pointer (some ⟨G, k * 4, none⟩)] w fun e w' => e = .returned (.bool (isHeld s)) ∧ w = w' := by
  have c2 := h.c2
  clear h
  obtain ⟨g, b, x⟩ := s
  go_enter Try.func31, Try.ntmps31
  go_wp2
  go_ret
  exact ⟨rfl, rfl⟩

theorem empty_any {w : World} {R G : Nat} {xs : List (Sl Int)} (h : AC w R G xs) (k : Nat) (hk : k < xs.length) (hg : (at0 xs k).gen ≤ 255) :
    Calls Try.prog 30 #[.pointer (some ⟨G, k * 4, none⟩)] w fun e w' => (∃ v, e = .returned v) ∧ AC w' R G (xs.set k ⟨(at0 xs k).gen + 1, false, default⟩) ∧ Ch [G] w w' := by
  have A := (h.held' k hk false default ⟨by show (at0 xs k).gen ≤ 256; omega, fun e => by cases e⟩)
  have B := A.gen' k (by simpa using hk) ((at0 xs k).gen + 1) ⟨by show (at0 xs k).gen + 1 ≤ 256; omega, fun e => by rw [at0_set_same _ _ _ hk] at e; cases e⟩
  rw [List.set_set, at0_set_same _ _ _ hk] at B
  have HB := Lib.hid B
  have HC := Lib.hid ((((Ch.refl [G] w).setCell (p := ⟨G, k * 4 + 2, none⟩) (by simp) (.bool false)).setCell (p := ⟨G, k * 4 + 3, none⟩) (by simp) (.int .i64 default)).setCell (p := ⟨G, k * 4 + 1, none⟩) (by simp) (.int .i64 (((at0 xs k).gen + 1 : Nat) : Int)))
  obtain ⟨c0, c1, c2, c3, f1, f2, f3⟩ := h.sl k hk
  generalize at0 xs k = s at *
  obtain ⟨g, b, x⟩ := s
  clear h A B
  have e1 : k * 4 + 1 ≠ k * 4 + 2 := by omega
  simp only at *
  go_enter Try.func30, Try.ntmps30
  go_wp2
  go_end0
  exact ⟨⟨_, rfl⟩, HB.out, HC.out⟩
end Go.Proofs.Ytdompamilgbnnaa.aI
