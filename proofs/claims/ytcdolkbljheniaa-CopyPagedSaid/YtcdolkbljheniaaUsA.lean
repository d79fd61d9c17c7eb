/-
  Plain: a memory told by its pages' states and its bytes; what is within it; pokes, turns, touches.
-/
import Derived.Test.YtcdolkbljheniaaBase
namespace Go.Proofs.Ytcdolkbljheniaa

/-- How many pages; what each is; the bytes. -/
structure MS where
  n : Nat
  s : Nat → Int
  b : Nat → Int
def putF (f : Nat → Int) (k : Nat) (v : Int) : Nat → Int := fun i => if i = k then v else f i
theorem putF_same (f : Nat → Int) (k : Nat) (v : Int) : putF f k v k = v := by simp [putF]
theorem putF_other (f : Nat → Int) {k i : Nat} (v : Int) (h : i ≠ k) : putF f k v i = f i := by simp [putF, h]
def MS.zero (n : Nat) : MS := ⟨n, fun _ => 0, fun _ => 0⟩
/-- Is a piece within so many bytes? -/
abbrev wIn (N : Nat) (a m : Int) : Prop := 0 ≤ a ∧ 0 ≤ m ∧ m ≤ (N : Int) - a
def pieceE (N : Nat) (a m : Int) : Int := if wIn N a m then 0 else 2
/-- Bytes that are poked in from a on. -/
def pokeF (f : Nat → Int) (a : Nat) (bs : List Int) : Nat → Int := fun i => if a ≤ i ∧ i - a < bs.length then bs.getD (i - a) 0 else f i
theorem pokeF_nil (f : Nat → Int) (a : Nat) : pokeF f a [] = f := by funext i; simp [pokeF]
theorem pokeF_in (f : Nat → Int) (a : Nat) (bs : List Int) {j : Nat} (h : j < bs.length) : pokeF f a bs (a + j) = bs[j] := by
  have e : a + j - a = j := by omega
  unfold pokeF
  rw [if_pos ⟨by omega, by omega⟩, e]
  simp [h]
theorem pokeF_out (f : Nat → Int) (a : Nat) (bs : List Int) {i : Nat} (h : i < a ∨ a + bs.length ≤ i) : pokeF f a bs i = f i := by
  unfold pokeF
  rw [if_neg (by omega)]
theorem pokeF_step (f : Nat → Int) (a : Nat) (bs : List Int) {j : Nat} (h : j < bs.length) : putF (pokeF f a (bs.take j)) (a + j) bs[j] = pokeF f a (bs.take (j + 1)) := by
  funext i
  by_cases e : i = a + j
  · subst e
    rw [putF_same, pokeF_in _ _ _ (by rw [List.length_take]; omega)]
    simp
  · rw [putF_other _ _ e]
    by_cases h1 : a ≤ i ∧ i - a < j
    · obtain ⟨k, rfl⟩ : ∃ k, i = a + k := ⟨i - a, by omega⟩
      rw [pokeF_in _ _ _ (by rw [List.length_take]; omega), pokeF_in _ _ _ (by rw [List.length_take]; omega)]
      simp
    · rw [pokeF_out _ _ _ (by rw [List.length_take]; omega), pokeF_out _ _ _ (by rw [List.length_take]; omega)]
def pokeS (x : MS) (a : Int) (bs : List Int) : MS := if wIn (16 * x.n) a bs.length then ⟨x.n, x.s, pokeF x.b a.toNat bs⟩ else x
theorem pokeS_n (x : MS) (a : Int) (bs : List Int) : (pokeS x a bs).n = x.n := by unfold pokeS; split <;> rfl
/-- A piece's bytes. -/
def peekL (f : Nat → Int) (a m : Nat) : List Int := (List.range m).map fun i => f (a + i)
theorem peekL_len (f : Nat → Int) (a m : Nat) : (peekL f a m).length = m := by simp [peekL]
theorem peekL_at (f : Nat → Int) (a m : Nat) {i : Nat} (h : i < m) : (peekL f a m)[i]? = some (f (a + i)) := by simp [peekL, h]
theorem peekL_succ (f : Nat → Int) (a m : Nat) : peekL f a (m + 1) = peekL f a m ++ [f (a + m)] := by simp [peekL, List.range_succ]
/-- What a page is; bringing (0), evicting (1), breaking (2) it. -/
def stateV (x : MS) (p : Int) : Int := if 0 ≤ p ∧ p < x.n then x.s p.toNat else 2
def nextV : Nat → Int
  | 0 => 1
  | 1 => 0
  | _ => 2
def kindE (v : Int) : Nat → Int
  | 0 => if v = 2 then 14 else if v = 1 then 5 else 0
  | 1 => if v = 1 then 0 else 4
  | _ => if v = 2 then 5 else 0
def turnE (x : MS) (p : Int) (k : Nat) : Int := if 0 ≤ p ∧ p < x.n then kindE (x.s p.toNat) k else 2
def turnS (x : MS) (p : Int) (k : Nat) : MS := if turnE x p k = 0 then ⟨x.n, putF x.s p.toNat (nextV k), x.b⟩ else x
theorem turnS_n (x : MS) (p : Int) (k : Nat) : (turnS x p k).n = x.n := by unfold turnS; split <;> rfl
/-- The first page of a piece that isn't present, byte by byte (h: what each byte's page is). -/
def tch (h : Nat → Int) : Nat → Nat → Int × Int
  | _, 0 => (0, 0)
  | a, m + 1 => if h a = 0 then (((a / 16 : Nat) : Int), 15) else if h a = 2 then (((a / 16 : Nat) : Int), 14) else tch h (a + 1) m
def touchR (N : Nat) (h : Nat → Int) (a m : Int) : Int × Int := if wIn N a m then tch h a.toNat m.toNat else (0, 2)
theorem tch_zero (h : Nat → Int) (a : Nat) : tch h a 0 = (0, 0) := by unfold tch; rfl
theorem tch_skip (h : Nat → Int) (k : Nat) : ∀ a m, k ≤ m → (∀ i, a ≤ i → i < a + k → h i ≠ 0 ∧ h i ≠ 2) → tch h a m = tch h (a + k) (m - k) := by
  induction k with
  | zero => intro a m _ _; rfl
  | succ k ih =>
    intro a m hm hk
    obtain ⟨m, rfl⟩ : ∃ j, m = j + 1 := ⟨m - 1, by omega⟩
    obtain ⟨h0, h2⟩ := hk a (Nat.le_refl _) (by omega)
    rw [tch, if_neg h0, if_neg h2, ih (a + 1) m (by omega) (fun i h1 h2 => hk i (by omega) (by omega))]
    congr 1 <;> omega
/-- By pages. -/
def byPage (s : Nat → Int) : Nat → Int := fun k => s (k / 16)
theorem tch_page (s : Nat → Int) {t E : Nat} (h0 : s (t / 16) ≠ 0) (h2 : s (t / 16) ≠ 2) : tch (byPage s) t (E - t) = tch (byPage s) (16 * (t / 16) + 16) (E - (16 * (t / 16) + 16)) := by
  have key : ∀ i, t ≤ i → i < 16 * (t / 16) + 16 → byPage s i ≠ 0 ∧ byPage s i ≠ 2 := fun i h1 h3 => by
    have e : i / 16 = t / 16 := by omega
    unfold byPage
    rw [e]
    exact ⟨h0, h2⟩
  by_cases hE : 16 * (t / 16) + 16 ≤ E
  · have := tch_skip (byPage s) (16 * (t / 16) + 16 - t) t (E - t) (by omega) (fun i h1 h3 => key i h1 (by omega))
    rw [this]
    congr 1 <;> omega
  · have := tch_skip (byPage s) (E - t) t (E - t) (by omega) (fun i h1 h3 => key i h1 (by omega))
    rw [this, show E - t - (E - t) = 0 by omega, show E - (16 * (t / 16) + 16) = 0 by omega, tch_zero, tch_zero]
theorem tch_one0 (s : Nat → Int) {t m : Nat} (h0 : s (t / 16) = 0) (hm : 0 < m) : tch (byPage s) t m = (((t / 16 : Nat) : Int), 15) := by
  obtain ⟨m, rfl⟩ : ∃ j, m = j + 1 := ⟨m - 1, by omega⟩
  rw [tch, if_pos (show byPage s t = 0 from h0)]
theorem tch_one2 (s : Nat → Int) {t m : Nat} (h0 : s (t / 16) = 2) (hm : 0 < m) : tch (byPage s) t m = (((t / 16 : Nat) : Int), 14) := by
  obtain ⟨m, rfl⟩ : ∃ j, m = j + 1 := ⟨m - 1, by omega⟩
  rw [tch, if_neg (by show ¬ s (t / 16) = 0; omega), if_pos (show byPage s t = 2 from h0)]
/-- The touch of a byte and all that are behind it. -/
theorem tch_cons (h : Nat → Int) (a m : Nat) : tch h a (m + 1) = if (tch h a 1).2 = 0 then tch h (a + 1) m else tch h a 1 := by
  rw [tch, tch]
  by_cases h0 : h a = 0
  · rw [if_pos h0, if_pos h0]; simp
  · by_cases h2 : h a = 2
    · rw [if_neg h0, if_pos h2, if_neg h0, if_pos h2]; simp
    · rw [if_neg h0, if_neg h2, if_neg h0, if_neg h2, tch_zero]; simp
end Go.Proofs.Ytcdolkbljheniaa
