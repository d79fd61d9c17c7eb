/-
  Plain: granularities, levels, spots, when a slot is due.
-/
import Derived.Test.YtnbfficaadlphaaClB
namespace Go.Proofs.Ytnbfficaadlphaa

/-- A level's granularity. -/
def g8 : Nat → Int
  | 0 => 1
  | k + 1 => g8 k * 8
/-- A distance's level; 8: none. -/
def ofN (d : Int) : Nat :=
  if d < 63 then 0 else if d < 504 then 1 else if d < 4032 then 2 else if d < 32256 then 3 else if d < 258048 then 4 else if d < 2064384 then 5 else if d < 16515072 then 6 else if d < 132120576 then 7 else 8
def ofL (d : Int) : Int := if ofN d = 8 then 0 else (ofN d : Int)
def granV (n : Int) : Int := if 0 ≤ n ∧ n < 8 then g8 n.toNat else 0
/-- The tick of so many granularities, cut. -/
def mulV (k g : Int) : Int := min (k * g) 18446744073709551615
/-- The number of a deadline's multiple. -/
def numV (a g : Int) : Int := (a + (g - 1)) / g
/-- The number of a slot's next multiple. -/
def nextV (x g s : Int) : Int := x / g + 1 + (s - (x / g + 1)) % 64

/-- A spot. -/
structure Sp where
  lv : Nat
  sl : Int
  at' : Int
  due : Int

def placeV (f a : Int) : Sp :=
  let c := clampV f a 132120575
  let n := ofN (c - f)
  ⟨n, numV c (g8 n) % 64, c, mulV (numV c (g8 n)) (g8 n)⟩
def timeV (x : Int) (n : Nat) (s : Int) : Int := mulV (nextV x (g8 n) s) (g8 n)

theorem eight {k : Nat} (h : k < 8) : k = 0 ∨ k = 1 ∨ k = 2 ∨ k = 3 ∨ k = 4 ∨ k = 5 ∨ k = 6 ∨ k = 7 := by omega
theorem g8_lo {k : Nat} (h : k < 8) : 1 ≤ g8 k ∧ g8 k ≤ 2097152 := by
  rcases eight h with h | h | h | h | h | h | h | h <;> subst h <;> decide
theorem ofN_le (d : Int) : ofN d ≤ 8 := by
  unfold ofN
  repeat' split
  all_goals decide
theorem ofN_iff (d : Int) {j : Nat} (h : j < 8) : d < 63 * g8 j ↔ ofN d ≤ j := by
  rcases eight h with h | h | h | h | h | h | h | h <;> subst h <;> simp only [g8] <;> unfold ofN <;> (repeat' split) <;> omega

theorem clampV_of {f a : Int} (hf : Wd f) (ha : Wd a) (hm : f ≠ 18446744073709551615) :
    clampV f a 132120575 = (if a ≤ f then f + 1 else if 132120575 < a - f then f + 132120575 else a) ∧ f + 1 ≤ clampV f a 132120575 ∧ clampV f a 132120575 ≤ f + 132120575 ∧ clampV f a 132120575 ≤ 18446744073709551615 := by
  obtain ⟨h1, h2⟩ := hf
  obtain ⟨h3, h4⟩ := ha
  unfold clampV addV
  repeat' split
  all_goals omega

/-- The program's way to a multiple: what is put on, and what that comes to. -/
theorem put_on {a : Int} (ha : Wd a) {k : Nat} (hk : k < 8) {g : Int} (hg : g8 k = g) :
    ∃ off, (g - a % g) % g = off ∧ 0 ≤ off ∧ off < g ∧ 0 ≤ g - a % g ∧ a + off = numV a g * g ∧ addV a off = mulV (numV a g) g ∧
      ((a + off) % 18446744073709551616) / g % 64 = numV a g % 64 ∧ numV a g = a / g + (if 0 < a % g then 1 else 0) := by
  obtain ⟨h1, h2⟩ := ha
  refine ⟨_, rfl, ?_⟩
  unfold numV addV mulV
  rcases eight hk with h | h | h | h | h | h | h | h <;> subst h <;> simp only [g8] at hg <;> subst hg <;> refine ⟨?_, ?_, ?_, ?_, ?_, ?_, ?_⟩ <;> (try split) <;> omega

theorem numV_wd {a : Int} (ha : Wd a) {k : Nat} (hk : k < 8) {g : Int} (hg : g8 k = g) : 0 ≤ numV a g ∧ (18446744073709551615 / g < numV a g ↔ 18446744073709551615 < numV a g * g) ∧ numV a g ≤ 18446744073709551615 := by
  obtain ⟨h1, h2⟩ := ha
  unfold numV
  rcases eight hk with h | h | h | h | h | h | h | h <;> subst h <;> simp only [g8] at hg <;> subst hg <;> omega

theorem mulV_wd {k g : Int} (h : 0 ≤ k) (hg : 0 ≤ g) : Wd (mulV k g) := by
  have := Int.mul_nonneg h hg
  unfold mulV
  constructor <;> omega

/-- How far it is to a slot's next multiple. -/
theorem ahead {x s : Int} (hx : Wd x) (hs : 0 ≤ s ∧ s < 64) {k : Nat} (hk : k < 8) {g : Int} (hg : g8 k = g) :
    ∃ q h : Int, x / g = q ∧ nextV x g s = q + h ∧ 1 ≤ h ∧ h ≤ 64 ∧ 0 ≤ q ∧ q ≤ 18446744073709551615 ∧ 0 ≤ q * g ∧ q * g ≤ x ∧ h * g ≤ 134217728 ∧ 0 ≤ h * g ∧
      addV (q * g) (h * g) = mulV (q + h) g ∧ ((s - (q + 1) % 18446744073709551616) % 18446744073709551616) % 64 + 1 = h ∧ (q + h) % 64 = s ∧
      (∀ j : Int, 1 ≤ j → j < h → (q + j) % 64 ≠ s) ∧ (∀ j : Int, 1 ≤ j → j ≤ 64 → 18446744073709551615 - j < q → j ≤ h → mulV (q + h) g = 18446744073709551615) ∧ (∀ j : Int, 1 ≤ j → j ≤ 64 → ¬ 18446744073709551615 - j < q → q + j ≤ 18446744073709551615) := by
  obtain ⟨h1, h2⟩ := hx
  refine ⟨x / g, 1 + (s - (x / g + 1)) % 64, rfl, ?_⟩
  unfold nextV mulV addV
  rcases eight hk with h | h | h | h | h | h | h | h <;> subst h <;> simp only [g8] at hg <;> subst hg <;>
    refine ⟨?_, ?_, ?_, ?_, ?_, ?_, ?_, ?_, ?_, ?_, ?_, ?_, ?_, ?_, ?_⟩ <;> (try (intro j)) <;> (try split) <;> omega

/-- Where a deadline stands. -/
theorem placed {f a : Int} (hf : Wd f) (ha : Wd a) (hm : f ≠ 18446744073709551615) :
    (placeV f a).lv < 8 ∧ 0 ≤ (placeV f a).sl ∧ (placeV f a).sl < 64 ∧ (placeV f a).at' ≤ (placeV f a).due ∧ (placeV f a).due < (placeV f a).at' + g8 (placeV f a).lv ∧ f < (placeV f a).due ∧ (placeV f a).due ≤ 18446744073709551615 ∧ Wd (placeV f a).at' ∧
      ∀ x, f ≤ x → x < (placeV f a).due → timeV x (placeV f a).lv (placeV f a).sl = (placeV f a).due := by
  obtain ⟨-, p1, p2, p3⟩ := clampV_of hf ha hm
  have hf0 := hf.lo
  unfold placeV timeV
  simp only []
  generalize clampV f a 132120575 = c at *
  have hd : ofN (c - f) < 8 := by
    have := (ofN_iff (c - f) (j := 7) (by decide)).1 (by simp only [g8]; omega)
    omega
  have hr : c - f < 63 * g8 (ofN (c - f)) := (ofN_iff (c - f) hd).2 (Nat.le_refl _)
  generalize ofN (c - f) = n at *
  clear ha hm
  unfold nextV mulV numV
  rcases eight hd with h | h | h | h | h | h | h | h <;> subst h <;> simp only [g8] at hr ⊢ <;>
    refine ⟨by omega, by omega, by omega, by omega, by omega, by omega, by omega, ⟨by omega, by omega⟩, ?_⟩ <;> intro x hx1 hx2 <;> omega
end Go.Proofs.Ytnbfficaadlphaa
