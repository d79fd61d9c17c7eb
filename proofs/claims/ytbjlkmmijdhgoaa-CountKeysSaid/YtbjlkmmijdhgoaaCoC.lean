/-
  Plain: what is held by keys, as a list of keys with their numbers.
-/
import Derived.Test.YtbjlkmmijdhgoaaCoA
namespace Go.Proofs.Ytbjlkmmijdhgoaa

abbrev Ct (K : Type) := K × Nat × Bool
section
variable {K : Type} [DecidableEq K]

/-- One more of a key that has a count. -/
def upC (top : Nat) (k : K) : List (Ct K) → Option (List (Ct K) × Int)
  | [] => none
  | x :: t => if x.1 = k then some ((k, (getN x.2.1 top x.2.2).1, (getN x.2.1 top x.2.2).2.1) :: t, (getN x.2.1 top x.2.2).2.2) else (upC top k t).map fun r => (x :: r.1, r.2)
/-- One more of a key. -/
def holdC (top : Nat) (C : List (Ct K)) (k : K) : List (Ct K) × Int :=
  match upC top k C with
  | some r => r
  | none => if C.length = 64 then (C, 3) else ((k, 1, false) :: C, 0)
/-- One more of each, up to the first error. -/
def holdsC (top : Nat) : List (Ct K) → List K → List (Ct K) × Int
  | C, [] => (C, 0)
  | C, k :: t => if (holdC top C k).2 = 0 then holdsC top (holdC top C k).1 t else holdC top C k

theorem upC_none {top : Nat} {k : K} {C : List (Ct K)} (h : ∀ x ∈ C, x.1 ≠ k) : upC top k C = none := by
  induction C with
  | nil => rfl
  | cons x t ih =>
    unfold upC
    rw [if_neg (h x (by simp)), ih (fun y hy => h y (by simp [hy]))]
    rfl
theorem upC_some {top : Nat} {k : K} {A B : List (Ct K)} {n m : Nat} {s t : Bool} {E : Int} (h : ∀ x ∈ A, x.1 ≠ k) (hG : getN n top s = (m, t, E)) : upC top k (A ++ (k, n, s) :: B) = some (A ++ (k, m, t) :: B, E) := by
  induction A with
  | nil => simp [upC, hG]
  | cons x u ih =>
    rw [List.cons_append]
    unfold upC
    rw [if_neg (h x (by simp)), ih (fun y hy => h y (by simp [hy]))]
    rfl
theorem holdC_old {top : Nat} {k : K} {A B : List (Ct K)} {n m : Nat} {s t : Bool} {E : Int} (h : ∀ x ∈ A, x.1 ≠ k) (hG : getN n top s = (m, t, E)) : holdC top (A ++ (k, n, s) :: B) k = (A ++ (k, m, t) :: B, E) := by
  unfold holdC; rw [upC_some h hG]
theorem holdC_full {top : Nat} {k : K} {C : List (Ct K)} (h : ∀ x ∈ C, x.1 ≠ k) (hl : C.length = 64) : holdC top C k = (C, 3) := by
  unfold holdC; rw [upC_none h]; simp [hl]
theorem holdC_new {top : Nat} {k : K} {C : List (Ct K)} (h : ∀ x ∈ C, x.1 ≠ k) (hl : C.length < 64) : holdC top C k = ((k, 1, false) :: C, 0) := by
  unfold holdC; rw [upC_none h]; simp; omega
theorem holdsC_snoc {top : Nat} (C : List (Ct K)) (l : List K) (k : K) (h : (holdsC top C l).2 = 0) : holdsC top C (l ++ [k]) = holdC top (holdsC top C l).1 k := by
  induction l generalizing C with
  | nil =>
    simp only [List.nil_append, holdsC]
    split
    · rename_i e; rw [← e]
    · rfl
  | cons x t ih =>
    rw [List.cons_append]
    unfold holdsC at h ⊢
    split
    · rename_i e; rw [if_pos e] at h; rw [ih _ h]
    · rename_i e; rw [if_neg e] at h; exact absurd h e
theorem holdsC_stop {top : Nat} (C : List (Ct K)) (l r : List K) (h : (holdsC top C l).2 ≠ 0) : holdsC top C (l ++ r) = holdsC top C l := by
  induction l generalizing C with
  | nil => exact absurd rfl h
  | cons x t ih =>
    rw [List.cons_append]
    unfold holdsC at h ⊢
    split
    · rename_i e; rw [if_pos e] at h; exact ih _ h
    · rfl
theorem upC_len {top : Nat} {k : K} {C : List (Ct K)} {r : List (Ct K) × Int} (h : upC top k C = some r) : r.1.length = C.length := by
  induction C generalizing r with
  | nil => cases h
  | cons x t ih =>
    unfold upC at h
    split at h
    · cases h; rfl
    · cases hu : upC top k t with
      | none => rw [hu] at h; cases h
      | some r' => rw [hu] at h; cases h; simp [ih hu]
theorem holdC_len {top : Nat} {k : K} {C : List (Ct K)} : C.length ≤ (holdC top C k).1.length := by
  unfold holdC
  split
  · rename_i r h; rw [upC_len h]; exact Nat.le_refl _
  · split
    · exact Nat.le_refl _
    · simp
theorem holdsC_len {top : Nat} {C : List (Ct K)} {l : List K} : C.length ≤ (holdsC top C l).1.length := by
  induction l generalizing C with
  | nil => exact Nat.le_refl _
  | cons k t ih =>
    unfold holdsC
    split
    · exact Nat.le_trans holdC_len ih
    · exact holdC_len
theorem holdsC_some {top : Nat} {l : List K} (h : l ≠ []) : 1 ≤ (holdsC top ([] : List (Ct K)) l).1.length := by
  cases l with
  | nil => exact absurd rfl h
  | cons k t =>
    have e : holdC top ([] : List (Ct K)) k = ([(k, 1, false)], 0) := by unfold holdC upC; simp
    unfold holdsC
    rw [e]
    simp only [if_pos]
    exact Nat.le_trans (by simp) holdsC_len

/-- One less of a key that has a count. -/
def downC (k : K) : List (Ct K) → Option (List (Ct K) × Bool × Int)
  | [] => none
  | x :: t => if x.1 = k then some ((if (putN x.2.1 x.2.2).2.1 then t else (k, (putN x.2.1 x.2.2).1, x.2.2) :: t), (putN x.2.1 x.2.2).2.1, (putN x.2.1 x.2.2).2.2) else (downC k t).map fun r => (x :: r.1, r.2)
/-- One less of a key. -/
def dropC (C : List (Ct K)) (k : K) : List (Ct K) × Bool × Int :=
  match downC k C with
  | some r => r
  | none => (C, false, 4)
theorem downC_none {k : K} {C : List (Ct K)} (h : ∀ x ∈ C, x.1 ≠ k) : downC k C = none := by
  induction C with
  | nil => rfl
  | cons x t ih =>
    unfold downC
    rw [if_neg (h x (by simp)), ih (fun y hy => h y (by simp [hy]))]
    rfl
theorem downC_some {k : K} {A B : List (Ct K)} {n m : Nat} {s t : Bool} {E : Int} (h : ∀ x ∈ A, x.1 ≠ k) (hP : putN n s = (m, t, E)) : downC k (A ++ (k, n, s) :: B) = some (A ++ ((if t then [] else [(k, m, s)]) ++ B), t, E) := by
  induction A with
  | nil => cases t <;> simp [downC, hP]
  | cons x u ih =>
    rw [List.cons_append]
    unfold downC
    rw [if_neg (h x (by simp)), ih (fun y hy => h y (by simp [hy]))]
    rfl
theorem dropC_in {k : K} {A B : List (Ct K)} {n m : Nat} {s t : Bool} {E : Int} (h : ∀ x ∈ A, x.1 ≠ k) (hP : putN n s = (m, t, E)) : dropC (A ++ (k, n, s) :: B) k = (A ++ ((if t then [] else [(k, m, s)]) ++ B), t, E) := by
  unfold dropC; rw [downC_some h hP]
theorem dropC_not {k : K} {C : List (Ct K)} (h : ∀ x ∈ C, x.1 ≠ k) : dropC C k = (C, false, 4) := by
  unfold dropC; rw [downC_none h]
/-- Where a key stands among what is held. -/
theorem ct_or (C : List (Ct K)) (k : K) : (∃ A n s B, C = A ++ (k, n, s) :: B ∧ ∀ x ∈ A, x.1 ≠ k) ∨ ∀ x ∈ C, x.1 ≠ k := by
  induction C with
  | nil => exact .inr (by simp)
  | cons x t ih =>
    by_cases e1 : x.1 = k
    · exact .inl ⟨[], x.2.1, x.2.2, t, by rw [← e1]; rfl, by simp⟩
    · rcases ih with ⟨A, n, s, B, e2, e3⟩ | h
      · refine .inl ⟨x :: A, n, s, B, by simp [e2], fun y hy => ?_⟩
        rcases List.mem_cons.1 hy with rfl | hy
        · exact e1
        · exact e3 y hy
      · exact .inr (by simp only [List.mem_cons, forall_eq_or_imp]; exact ⟨e1, h⟩)
end
/-- What is told in another order comes of the same things in another order. -/
theorem perm_map {α β : Type} (f : α → β) : ∀ (m : List β) (l : List α), (l.map f).Perm m → ∃ l', l.Perm l' ∧ l'.map f = m
  | [], l, h => by
    have : l = [] := by simpa using h.length_eq
    exact ⟨[], by rw [this], rfl⟩
  | y :: t, l, h => by
    obtain ⟨x, hx, e1⟩ := List.mem_map.1 (h.mem_iff.2 (by simp : y ∈ y :: t))
    obtain ⟨A, B, rfl⟩ := List.append_of_mem hx
    have h2 : ((A ++ B).map f).Perm t := by
      have e2 : ((A ++ x :: B).map f).Perm (y :: (A ++ B).map f) := by
        rw [List.map_append, List.map_cons, List.map_append, e1]
        exact List.perm_middle
      exact (e2.symm.trans h).cons_inv
    obtain ⟨l', h3, h4⟩ := perm_map f t (A ++ B) h2
    exact ⟨x :: l', List.perm_middle.trans (h3.cons x), by rw [List.map_cons, e1, h4]⟩
end Go.Proofs.Ytbjlkmmijdhgoaa
