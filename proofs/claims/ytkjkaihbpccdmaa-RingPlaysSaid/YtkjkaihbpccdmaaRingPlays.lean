/-
  The law RingPlays, walked.
-/
import Derived.Test.YtkjkaihbpccdmaaRingQ
import Derived.Test.YtkjkaihbpccdmaaRingW
namespace Go.Proofs.Ytkjkaihbpccdmaa
open Go.RowKit rI

attribute [local go_sem] Oper.semAt_some

/-- Take, as one answer for every number. -/
def tkIn (xs : List Int) (i : Int) : Bool := decide (0 ≤ i ∧ i < (xs.length : Int))
def tkX (xs : List Int) (i : Int) : Int := if tkIn xs i = true then xs[i.toNat]?.getD 0 else 0
def tkL (xs : List Int) (i : Int) : List Int := if tkIn xs i = true then xs.eraseIdx i.toNat else xs
theorem tk_yes {xs : List Int} {i : Nat} (h : i < xs.length) : tkIn xs (i : Int) = true ∧ tkX xs (i : Int) = xs[i]?.getD 0 ∧ tkL xs (i : Int) = xs.eraseIdx i := by
  have e : tkIn xs (i : Int) = true := by simp [tkIn, h]
  exact ⟨e, by simp [tkX, e], by simp [tkL, e]⟩
theorem tk_no {xs : List Int} {i : Int} (h : i < 0 ∨ (xs.length : Int) ≤ i) : tkIn xs i = false ∧ tkX xs i = 0 ∧ tkL xs i = xs := by
  have e : tkIn xs i = false := by simp [tkIn]; omega
  exact ⟨e, by simp [tkX, e], by simp [tkL, e]⟩
theorem tk_len (xs : List Int) (i : Int) : (tkL xs i).length ≤ xs.length := by
  unfold tkL
  split
  · rw [List.length_eraseIdx]; split <;> omega
  · exact Nat.le_refl _

theorem own_form {w : World} {B e s : Nat} {v : Value} {n : Nat} {xs : List Value} (h : w.ownsRow B e s v n xs) : ∃ a cap, v = .slice a n cap := by
  rcases h.2 with ⟨rfl, rfl⟩ | ⟨g, cp, cur, rfl, _⟩
  · exact ⟨_, _, rfl⟩
  · exact ⟨_, _, rfl⟩
theorem own_IAt {w : World} {B n cap : Nat} {a : Option Addr} {xs : List Int} (h : w.ownsRow B 3 1 (.slice a n cap) n (ivs xs)) : IAt w a xs := by
  rcases h.2 with ⟨e, _⟩ | ⟨g, cp, cur, e, _⟩
  · have := h.1
    cases e
    left
    simpa [ivs] using this
  · cases e
    refine .inr ⟨g, 0, rfl, fun i hi => ?_⟩
    have := h.cells (g := g) rfl i (.int .i64 xs[i]) (by simp [ivs, hi])
    rw [add_at] at this
    exact this

theorem rtake_u {w : World} {D : Nat} {v : Value} {xs : List Int} (h : w.ownsRow D 3 1 v xs.length (ivs xs)) (hD : D ≤ w.heap.size) (h256 : xs.length ≤ 256) (i : Int) :
    Calls Try.prog 11 #[v, .int .i64 i] w fun e w' => ∃ v', e = .returned (.tuple #[v', .int .i64 (tkX xs i), .bool (tkIn xs i)]) ∧
      w'.ownsRow D 3 1 v' (tkL xs i).length (ivs (tkL xs i)) ∧ Below w.heap.size w w' := by
  by_cases hi : 0 ≤ i ∧ i < (xs.length : Int)
  · obtain ⟨j, rfl⟩ : ∃ j : Nat, i = (j : Int) := ⟨i.toNat, by omega⟩
    obtain ⟨e1, e2, e3⟩ := tk_yes (xs := xs) (i := j) (by omega)
    rw [e1, e2, e3]
    exact (rtake_in h h256 j (by omega)).mono fun e w' ⟨v', he, ho, hb⟩ => ⟨v', he, own_mono ho hD, hb⟩
  · obtain ⟨e1, e2, e3⟩ := tk_no (xs := xs) (i := i) (by omega)
    rw [e1, e2, e3]
    obtain ⟨a, cap, hv⟩ := own_form h
    refine (rtake_out v a cap _ hv i (by omega) w).mono ?_
    rintro e w' ⟨rfl, rfl⟩
    exact ⟨v, rfl, h, Below.refl _ _⟩
theorem take_u {w : World} {R G room : Nat} {xs : List Int} (h : RL w R G room xs) (i : Int) :
    Calls Try.prog 13 #[.pointer (some ⟨R, 0, none⟩), .int .i64 i] w fun e w' =>
      e = .returned (.tuple #[.int .i64 (tkX xs i), .bool (tkIn xs i)]) ∧ RL w' R G room (tkL xs i) ∧ Ch [R, G] w w' := by
  by_cases hi : 0 ≤ i ∧ i < (xs.length : Int)
  · obtain ⟨j, rfl⟩ : ∃ j : Nat, i = (j : Int) := ⟨i.toNat, by omega⟩
    obtain ⟨e1, e2, e3⟩ := tk_yes (xs := xs) (i := j) (by omega)
    rw [e1, e2, e3]
    exact take_l h j (by omega)
  · obtain ⟨e1, e2, e3⟩ := tk_no (xs := xs) (i := i) (by omega)
    rw [e1, e2, e3]
    refine (take_out h i (by omega)).mono ?_
    rintro e w' ⟨rfl, rfl⟩
    exact ⟨rfl, h, Ch.refl _ _⟩
theorem pop_u {w : World} {R G room : Nat} {xs : List Int} (h : RL w R G room xs) :
    Calls Try.prog 12 #[.pointer (some ⟨R, 0, none⟩)] w fun e w' =>
      e = .returned (.tuple #[.int .i64 (tkX xs 0), .bool (tkIn xs 0)]) ∧ RL w' R G room (tkL xs 0) ∧ Ch [R, G] w w' := by
  cases xs with
  | nil =>
    obtain ⟨e1, e2, e3⟩ := tk_no (xs := []) (i := 0) (.inr (by simp))
    rw [e1, e2, e3]
    refine (pop_out h).mono ?_
    rintro e w' ⟨rfl, rfl⟩
    exact ⟨rfl, h, Ch.refl _ _⟩
  | cons x xs =>
    obtain ⟨e1, e2, e3⟩ := tk_yes (xs := x :: xs) (i := 0) (by simp)
    have hp := pop_l h
    have e4 : ((0 : Nat) : Int) = 0 := rfl
    rw [e4] at e1 e2 e3
    rw [e1, e2, e3]
    exact hp
theorem at_u {w : World} {R G room : Nat} {xs : List Int} (h : RL w R G room xs) (i : Int) :
    Calls Try.prog 14 #[.pointer (some ⟨R, 0, none⟩), .int .i64 i] w fun e w' =>
      e = .returned (.tuple #[.int .i64 (tkX xs i), .bool (tkIn xs i)]) ∧ RL w' R G room xs ∧ Ch [R, G] w w' := by
  by_cases hi : 0 ≤ i ∧ i < (xs.length : Int)
  · obtain ⟨j, rfl⟩ : ∃ j : Nat, i = (j : Int) := ⟨i.toNat, by omega⟩
    obtain ⟨e1, e2, _⟩ := tk_yes (xs := xs) (i := j) (by omega)
    rw [e1, e2]
    refine (at_l h j (by omega)).mono ?_
    rintro e w' ⟨rfl, n, rfl⟩
    have hc := (Ch.refl [] w).drewN n
    exact ⟨rfl, h.ch hc (by simp) (by simp), (Ch.refl _ w).drewN n⟩
  · obtain ⟨e1, e2, _⟩ := tk_no (xs := xs) (i := i) (by omega)
    rw [e1, e2]
    refine (at_out h i (by omega)).mono ?_
    rintro e w' ⟨rfl, rfl⟩
    exact ⟨rfl, h, Ch.refl _ _⟩
end Go.Proofs.Ytkjkaihbpccdmaa
