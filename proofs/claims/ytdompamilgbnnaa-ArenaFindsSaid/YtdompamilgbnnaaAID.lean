/-
  An arena of int: at.
-/
import Derived.Test.YtdompamilgbnnaaAIB
namespace Go.Proofs.Ytdompamilgbnnaa.aI
open Go.RowKit

attribute [local go_sem] Oper.semAt_some

/-- A handle as it is handed. -/
abbrev hv (s g : Int) : Value := .agg #[.int .i64 s, .int .i64 g]

theorem at_nil (w : World) (s g : Int) :
    Calls Try.prog 29 #[.pointer none, hv s g] w fun e w' => e = .returned (.tuple #[.pointer none, .int .i64 6]) ∧ Ch [] w w' := by
  have HC := Lib.hid ((Ch.refl [] w).alloc (.cells #[.int .i64 s, .int .i64 g] 33))
  go_enter Try.func29, Try.ntmps29
  go_wp2
  go_ret2
  exact ⟨rfl, HC.out⟩

theorem at_range {w : World} {R G : Nat} {xs : List (Sl Int)} (h : AC w R G xs) (s g : Int) (hs : s < 0 ∨ (xs.length : Int) ≤ s) :
    Calls Try.prog 29 #[.pointer (some ⟨R, 0, none⟩), hv s g] w fun e w' => e = .returned (.tuple #[.pointer none, .int .i64 2]) ∧ Ch [] w w' := by
  have HC := Lib.hid ((Ch.refl [] w).alloc (.cells #[.int .i64 s, .int .i64 g] 33))
  have hb := Box2.new w (.int .i64 s) (.int .i64 g) 33
  have ha := h.ch HC.out (by simp) (by simp)
  have hc := ha.c
  have n2 := h.n2
  obtain ⟨b0, b1, _, _⟩ := hb
  generalize xs.length = n at *
  clear h ha
  by_cases h0 : s < 0
  · have hd1 : decide (s < 0) = true := by simpa using h0
    clear hs
    go_enter Try.func29, Try.ntmps29
    go_wp2
    generalize w.alloc (.cells #[.int .i64 s, .int .i64 g] 33) = w1 at *
    generalize w.heap.size = B at *
    go_quiet (fail)
    go_wp2
    go_ret2
    exact ⟨rfl, HC.out.drewN _⟩
  · have h1 : (n : Int) ≤ s := by omega
    have hd1 : decide (s < 0) = false := by simpa using h0
    have hd2 : decide ((n : Int) ≤ s) = true := by simpa using h1
    clear hs
    go_enter Try.func29, Try.ntmps29
    go_wp2
    generalize w.alloc (.cells #[.int .i64 s, .int .i64 g] 33) = w1 at *
    generalize w.heap.size = B at *
    go_quiet (fail)
    go_wp2
    go_ret2
    exact ⟨rfl, HC.out.drewN _⟩

theorem at_ok {w : World} {R G : Nat} {xs : List (Sl Int)} (h : AC w R G xs) (k : Nat) (hk : k < xs.length) (hh : (at0 xs k).held = true) :
    Calls Try.prog 29 #[.pointer (some ⟨R, 0, none⟩), hv k (at0 xs k).gen] w fun e w' => e = .returned (.tuple #[.pointer (some ⟨G, k * 4, none⟩), .int .i64 0]) ∧ Ch [] w w' := by
  obtain ⟨s, hs⟩ : ∃ s, s = at0 xs k := ⟨_, rfl⟩
  rw [← hs] at hh ⊢
  have HC := Lib.hid ((Ch.refl [] w).alloc (.cells #[.int .i64 (k : Int), .int .i64 (s.gen : Int)] 33))
  have hb := Box2.new w (.int .i64 (k : Int)) (.int .i64 (s.gen : Int)) 33
  have ha := h.ch HC.out (by simp) (by simp)
  have hc := ha.c
  have n2 := h.n2
  have hsl := ha.sl k hk
  rw [← hs] at hsl
  obtain ⟨b0, b1, _, _⟩ := hb
  have c0 := hsl.c0
  have c1 := hsl.c1
  have c2 := hsl.c2
  clear hsl
  generalize xs.length = n at *
  clear h ha hs
  obtain ⟨gen, b, x⟩ := s
  simp only at *
  subst hh
  have hd1 : decide ((k : Int) < 0) = false := by simp
  have hd2 : decide ((n : Int) ≤ (k : Int)) = false := by simp; omega
  have hb0 : (0 : Int) ≤ (k : Int) := by omega
  have hb1 : (k : Int) < (n : Int) := by omega
  have ht : ((k : Int)).toNat = k := rfl
  go_enter Try.func29, Try.ntmps29
  go_wp2
  generalize w.alloc (.cells #[.int .i64 (k : Int), .int .i64 (gen : Int)] 33) = w1 at *
  generalize w.heap.size = B at *
  go_quiet (fail)
  go_wp2
  go_quiet (fail)
  go_wp2
  go_quiet (fail)
  go_wp2
  go_ret2
  exact ⟨rfl, ((HC.out.drewN _).drewN _).drewN _⟩

theorem at_stale {w : World} {R G : Nat} {xs : List (Sl Int)} (h : AC w R G xs) (k : Nat) (hk : k < xs.length) (g : Int) (hh : ¬ ((at0 xs k).held = true ∧ ((at0 xs k).gen : Int) = g)) :
    Calls Try.prog 29 #[.pointer (some ⟨R, 0, none⟩), hv k g] w fun e w' => e = .returned (.tuple #[.pointer none, .int .i64 7]) ∧ Ch [] w w' := by
  obtain ⟨s, hs⟩ : ∃ s, s = at0 xs k := ⟨_, rfl⟩
  rw [← hs] at hh
  have HC := Lib.hid ((Ch.refl [] w).alloc (.cells #[.int .i64 (k : Int), .int .i64 g] 33))
  have hb := Box2.new w (.int .i64 (k : Int)) (.int .i64 g) 33
  have ha := h.ch HC.out (by simp) (by simp)
  have hc := ha.c
  have n2 := h.n2
  have hsl := ha.sl k hk
  rw [← hs] at hsl
  obtain ⟨b0, b1, _, _⟩ := hb
  have c0 := hsl.c0
  have c1 := hsl.c1
  have c2 := hsl.c2
  clear hsl
  generalize xs.length = n at *
  clear h ha hs
  obtain ⟨gen, b, x⟩ := s
  simp only at *
  have hd1 : decide ((k : Int) < 0) = false := by simp
  have hd2 : decide ((n : Int) ≤ (k : Int)) = false := by simp; omega
  have hb0 : (0 : Int) ≤ (k : Int) := by omega
  have hb1 : (k : Int) < (n : Int) := by omega
  have ht : ((k : Int)).toNat = k := rfl
  cases b with
  | false =>
    clear hh
    go_enter Try.func29, Try.ntmps29
    go_wp2
    generalize w.alloc (.cells #[.int .i64 (k : Int), .int .i64 g] 33) = w1 at *
    generalize w.heap.size = B at *
    go_quiet (fail)
    go_wp2
    go_quiet (fail)
    go_wp2
    go_quiet (fail)
    go_wp2
    go_ret2
    exact ⟨rfl, ((HC.out.drewN _).drewN _).drewN _⟩
  | true =>
    have hg : ¬ ((gen : Int) = g) := fun e => hh ⟨rfl, e⟩
    have hdg : ((gen : Int) == g) = false := by simpa using hg
    clear hh
    go_enter Try.func29, Try.ntmps29
    go_wp2
    generalize w.alloc (.cells #[.int .i64 (k : Int), .int .i64 g] 33) = w1 at *
    generalize w.heap.size = B at *
    go_quiet (fail)
    go_wp2
    go_quiet (fail)
    go_wp2
    go_quiet (fail)
    go_wp2
    go_ret2
    exact ⟨rfl, ((HC.out.drewN _).drewN _).drewN _⟩

/-- at, as one answer for every handle. -/
theorem at_any {w : World} {R G : Nat} {xs : List (Sl Int)} (h : AC w R G xs) (s g : Int) :
    Calls Try.prog 29 #[.pointer (some ⟨R, 0, none⟩), hv s g] w fun e w' => e = .returned (.tuple #[.pointer (if findE xs s g = 0 then some ⟨G, s.toNat * 4, none⟩ else none), .int .i64 (findE xs s g)]) ∧ Ch [] w w' := by
  by_cases hr : s < 0 ∨ (xs.length : Int) ≤ s
  · rw [findE_range hr, if_neg (by decide)]; exact at_range h s g hr
  · obtain ⟨k, rfl⟩ : ∃ k : Nat, s = (k : Int) := ⟨s.toNat, by omega⟩
    have hk : k < xs.length := by omega
    by_cases hh : (at0 xs k).held = true ∧ ((at0 xs k).gen : Int) = g
    · rw [findE_ok hk hh.1 hh.2, if_pos rfl, Int.toNat_natCast, ← hh.2]; exact at_ok h k hk hh.1
    · rw [findE_stale hk hh, if_neg (by decide)]; exact at_stale h k hk g hh
end Go.Proofs.Ytdompamilgbnnaa.aI
