/-
  Plain: slots as a list; the first free one; what is told of them.
-/
import Derived.Test.YtdompamilgbnnaaChecked
namespace Go.Proofs.Ytdompamilgbnnaa

/-- A thing: a number and a text. -/
abbrev Th := Int × ByteArray

/-- A slot: its generation, whether it holds something, and what. -/
structure Sl (α : Type) where
  gen : Nat
  held : Bool
  x : α
instance {α : Type} [Inhabited α] : Inhabited (Sl α) := ⟨⟨0, false, default⟩⟩

variable {α : Type}

def isFree (s : Sl α) : Bool := !s.held && decide ((s.gen : Int) ≤ 255)
def isHeld (s : Sl α) : Bool := s.held
/-- What holds of every slot. -/
def good (s : Sl α) : Prop := s.gen ≤ 256 ∧ (s.held = true → s.gen ≤ 255)
theorem free_held {s : Sl α} (h : isFree s = true) : s.held = false ∧ s.gen ≤ 255 := by
  unfold isFree at h
  simp at h
  exact ⟨h.1, by omega⟩
variable [Inhabited α]
def at0 (xs : List (Sl α)) (k : Nat) : Sl α := xs[k]?.getD default
theorem at0_set_same (xs : List (Sl α)) (k : Nat) (s : Sl α) (h : k < xs.length) : at0 (xs.set k s) k = s := by simp [at0, h]
theorem at0_set_other (xs : List (Sl α)) (k j : Nat) (s : Sl α) (h : j ≠ k) : at0 (xs.set k s) j = at0 xs j := by simp [at0, List.getElem?_set_ne (Ne.symm h)]
theorem at0_get (xs : List (Sl α)) (k : Nat) (h : k < xs.length) : at0 xs k = xs[k] := by simp [at0, h]

/-- The numbers of those ahead of k that are such. -/
def selTo (xs : List (Sl α)) (p : Sl α → Bool) (k : Nat) : List Nat := (List.range k).filter fun j => p (at0 xs j)
def sel (xs : List (Sl α)) (p : Sl α → Bool) : List Nat := selTo xs p xs.length
theorem selTo_zero (xs : List (Sl α)) (p : Sl α → Bool) : selTo xs p 0 = [] := rfl
theorem selTo_yes (xs : List (Sl α)) (p : Sl α → Bool) (k : Nat) (h : p (at0 xs k) = true) : selTo xs p (k + 1) = selTo xs p k ++ [k] := by
  simp [selTo, List.range_succ, List.filter_append, h]
theorem selTo_no (xs : List (Sl α)) (p : Sl α → Bool) (k : Nat) (h : p (at0 xs k) = false) : selTo xs p (k + 1) = selTo xs p k := by
  simp [selTo, List.range_succ, List.filter_append, h]
theorem selTo_prefix (xs : List (Sl α)) (p : Sl α → Bool) (k n : Nat) (h : k ≤ n) : selTo xs p k <+: selTo xs p n := by
  induction n with
  | zero => obtain rfl : k = 0 := by omega
            exact List.prefix_refl _
  | succ n ih =>
    by_cases e : k = n + 1
    · subst e; exact List.prefix_refl _
    · refine (ih (by omega)).trans ?_
      cases hp : p (at0 xs n) with
      | true => rw [selTo_yes _ _ _ hp]; exact List.prefix_append _ _
      | false => rw [selTo_no _ _ _ hp]; exact List.prefix_refl _
theorem selTo_len (xs : List (Sl α)) (p : Sl α → Bool) (k : Nat) : (selTo xs p k).length ≤ k := by
  have := List.length_filter_le (fun j => p (at0 xs j)) (List.range k)
  simpa [selTo] using this
theorem sel_len (xs : List (Sl α)) (p : Sl α → Bool) : (sel xs p).length ≤ xs.length := selTo_len _ _ _
theorem mem_selTo {xs : List (Sl α)} {p : Sl α → Bool} {k j : Nat} : j ∈ selTo xs p k ↔ j < k ∧ p (at0 xs j) = true := by
  simp [selTo]

/-- The first one that is such. -/
def firstOf (xs : List (Sl α)) (p : Sl α → Bool) : Option Nat := (sel xs p).head?
theorem firstOf_some {xs : List (Sl α)} {p : Sl α → Bool} {k : Nat} (h : firstOf xs p = some k) : k < xs.length ∧ p (at0 xs k) = true := by
  have : k ∈ sel xs p := List.mem_of_mem_head? h
  exact mem_selTo.1 this
theorem firstOf_none {xs : List (Sl α)} {p : Sl α → Bool} (h : firstOf xs p = none) : sel xs p = [] := List.head?_eq_none_iff.1 h
theorem firstOf_prefix {xs : List (Sl α)} {p : Sl α → Bool} {k : Nat} (h : [k] <+: sel xs p) : firstOf xs p = some k := by
  obtain ⟨r, hr⟩ := h
  unfold firstOf
  rw [← hr]; rfl
/-- Where all ahead of k are not such, and k is. -/
theorem firstOf_at {xs : List (Sl α)} {p : Sl α → Bool} {k : Nat} (hk : k < xs.length) (hn : ∀ j, j < k → p (at0 xs j) = false) (h : p (at0 xs k) = true) : firstOf xs p = some k := by
  have e : selTo xs p k = [] := by
    unfold selTo
    rw [List.filter_eq_nil_iff]
    intro j hj
    simp [hn j (by simpa using hj)]
  have h1 := selTo_prefix xs p (k + 1) xs.length (by omega)
  rw [selTo_yes _ _ _ h, e] at h1
  exact firstOf_prefix h1
theorem firstOf_out {xs : List (Sl α)} {p : Sl α → Bool} (hn : ∀ j, j < xs.length → p (at0 xs j) = false) : firstOf xs p = none := by
  have e : sel xs p = [] := by
    unfold sel selTo
    rw [List.filter_eq_nil_iff]
    intro j hj
    simp [hn j (by simpa using hj)]
  unfold firstOf
  rw [e]; rfl

/-- The error of a handle: 2, 7 or 0. -/
def findE (xs : List (Sl α)) (s g : Int) : Int :=
  if s < 0 ∨ (xs.length : Int) ≤ s then 2 else if (at0 xs s.toNat).held = true ∧ ((at0 xs s.toNat).gen : Int) = g then 0 else 7
theorem findE_range {xs : List (Sl α)} {s g : Int} (h : s < 0 ∨ (xs.length : Int) ≤ s) : findE xs s g = 2 := by unfold findE; rw [if_pos h]
theorem findE_ok {xs : List (Sl α)} {k : Nat} {g : Int} (h : k < xs.length) (h1 : (at0 xs k).held = true) (h2 : ((at0 xs k).gen : Int) = g) : findE xs k g = 0 := by
  unfold findE; rw [if_neg (by omega), if_pos ⟨h1, h2⟩]
theorem findE_stale {xs : List (Sl α)} {k : Nat} {g : Int} (h : k < xs.length) (h1 : ¬ ((at0 xs k).held = true ∧ ((at0 xs k).gen : Int) = g)) : findE xs k g = 7 := by
  unfold findE; rw [if_neg (by omega), Int.toNat_natCast, if_neg h1]
theorem findE_zero {xs : List (Sl α)} {s g : Int} (h : findE xs s g = 0) : ∃ k : Nat, s = (k : Int) ∧ k < xs.length ∧ (at0 xs k).held = true ∧ ((at0 xs k).gen : Int) = g := by
  unfold findE at h
  split at h
  · cases h
  · rename_i h1
    split at h
    · rename_i h2
      exact ⟨s.toNat, by omega, by omega, h2.1, h2.2⟩
    · cases h
theorem findE_cases (xs : List (Sl α)) (s g : Int) : findE xs s g = 0 ∨ findE xs s g = 2 ∨ findE xs s g = 7 := by
  unfold findE
  split
  · exact .inr (.inl rfl)
  · split
    · exact .inl rfl
    · exact .inr (.inr rfl)

/-- All of it with one thing more. -/
def putL (xs : List (Sl α)) (x : α) : List (Sl α) := match firstOf xs isFree with
  | some k => xs.set k ⟨(at0 xs k).gen, true, x⟩
  | none => xs
theorem putL_some {xs : List (Sl α)} {x : α} {k : Nat} (h : firstOf xs isFree = some k) : putL xs x = xs.set k ⟨(at0 xs k).gen, true, x⟩ := by unfold putL; rw [h]
theorem putL_none {xs : List (Sl α)} {x : α} (h : firstOf xs isFree = none) : putL xs x = xs := by unfold putL; rw [h]
/-- What Put tells: slot, generation, error. -/
def putS (xs : List (Sl α)) : Int := match firstOf xs isFree with
  | some k => (k : Int)
  | none => 0
def putG (xs : List (Sl α)) : Int := match firstOf xs isFree with
  | some k => ((at0 xs k).gen : Int)
  | none => 0
def putE (xs : List (Sl α)) : Int := match firstOf xs isFree with
  | some _ => 0
  | none => 3
theorem putA_some {xs : List (Sl α)} {k : Nat} (h : firstOf xs isFree = some k) : putS xs = (k : Int) ∧ putG xs = ((at0 xs k).gen : Int) ∧ putE xs = 0 := by
  unfold putS putG putE; rw [h]; exact ⟨rfl, rfl, rfl⟩
theorem putA_none {xs : List (Sl α)} (h : firstOf xs isFree = none) : putS xs = 0 ∧ putG xs = 0 ∧ putE xs = 3 := by
  unfold putS putG putE; rw [h]; exact ⟨rfl, rfl, rfl⟩
theorem put_len (xs : List (Sl α)) (x : α) : (putL xs x).length = xs.length := by
  unfold putL; split <;> simp
/-- All of it with one freed. -/
def freeL (xs : List (Sl α)) (s g : Int) : List (Sl α) := if findE xs s g = 0 then xs.set s.toNat ⟨(at0 xs s.toNat).gen + 1, false, default⟩ else xs
def setL (xs : List (Sl α)) (s g : Int) (x : α) : List (Sl α) := if findE xs s g = 0 then xs.set s.toNat ⟨(at0 xs s.toNat).gen, (at0 xs s.toNat).held, x⟩ else xs
def getX (xs : List (Sl α)) (s g : Int) : α := if findE xs s g = 0 then (at0 xs s.toNat).x else default
theorem setL_len (xs : List (Sl α)) (s g : Int) (x : α) : (setL xs s g x).length = xs.length := by unfold setL; split <;> simp
theorem freeL_len (xs : List (Sl α)) (s g : Int) : (freeL xs s g).length = xs.length := by unfold freeL; split <;> simp

/-- Several freed, one behind the other: what is left, and the error. -/
def freeN (xs : List (Sl α)) : List (Int × Int) → List (Sl α) × Int
  | [] => (xs, 0)
  | h :: t => if findE xs h.1 h.2 = 0 then freeN (freeL xs h.1 h.2) t else (xs, findE xs h.1 h.2)
theorem freeN_one (xs : List (Sl α)) (s g : Int) : freeN xs [(s, g)] = (freeL xs s g, findE xs s g) := by
  unfold freeN freeN
  split
  · rename_i h; rw [h]
  · rename_i h; unfold freeL; rw [if_neg h]
end Go.Proofs.Ytdompamilgbnnaa
