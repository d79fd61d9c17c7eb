/-
  Plain: a domain by who waits for the generation that runs, and who has none; its polls.
-/
import Derived.Test.YtjoaigadlpndcaaDoorGrB
namespace Go.Proofs.YtjoaigadlpndcaaDoor
open rC (Th)

/-- Callbacks by CPU: those that wait for generation g, behind them those without one. -/
def fAB (g : Int) (A B : Nat → List Int) : Nat → List Th := fun i => (A i).map (fun z => (z, g)) ++ (B i).map fresh
def catI (A : Nat → List Int) (n : Nat) : List Int := (List.range n).flatMap A
def nilI : Nat → List Int := fun _ => []
/-- One more on a CPU. -/
def addI (B : Nat → List Int) (c : Nat) (z : Int) : Nat → List Int := fun i => if i = c then B i ++ [z] else B i
theorem catI_succ (A : Nat → List Int) (n : Nat) : catI A (n + 1) = catI A n ++ A n := by unfold catI; rw [List.range_succ, List.flatMap_append]; simp
theorem catI_nil : ∀ n, catI nilI n = []
  | 0 => rfl
  | n + 1 => by rw [catI_succ, catI_nil n]; rfl
theorem catI_mem {A : Nat → List Int} {n : Nat} {z : Int} : z ∈ catI A n ↔ ∃ i, i < n ∧ z ∈ A i := by
  unfold catI
  rw [List.mem_flatMap]
  simp only [List.mem_range]
theorem catI_empty {A : Nat → List Int} {n : Nat} : catI A n = [] ↔ ∀ i, i < n → A i = [] := by
  unfold catI
  rw [List.flatMap_eq_nil_iff]
  simp only [List.mem_range]
theorem catI_add (B : Nat → List Int) (c : Nat) (z : Int) : ∀ n, c < n → (catI (addI B c z) n).Perm (z :: catI B n)
  | 0, h => by omega
  | n + 1, h => by
    rw [catI_succ, catI_succ]
    by_cases e : c = n
    · subst e
      have h1 : catI (addI B c z) c = catI B c := by
        unfold catI
        rw [List.flatMap_def, List.flatMap_def]
        congr 1
        apply List.map_congr_left
        intro i hi
        have := List.mem_range.1 hi
        unfold addI
        rw [if_neg (by omega)]
      have h2 : addI B c z c = B c ++ [z] := by unfold addI; rw [if_pos rfl]
      rw [h1, h2, ← List.append_assoc]
      exact (List.perm_append_singleton z _)
    · have h2 : addI B c z n = B n := by unfold addI; rw [if_neg (by omega)]
      rw [h2]
      exact (catI_add B c z n (by omega)).append_right _
theorem fAB_add {g : Int} {A B : Nat → List Int} {c : Nat} (z : Int) (h : (A c).length + (B c).length < 64) : updF (fAB g A B) c ((fAB g A B c ++ [fresh z]).take 64) = fAB g A (addI B c z) := by
  funext i
  by_cases e : i = c
  · subst e
    rw [updF_same, List.take_of_length_le (by simp [fAB]; omega)]
    simp [fAB, addI]
  · rw [updF_other _ e]
    simp [fAB, addI, e]
theorem fAB_len (g : Int) (A B : Nat → List Int) (c : Nat) : (fAB g A B c).length = (A c).length + (B c).length := by simp [fAB]
theorem fAB_zero (g : Int) (B : Nat → List Int) : fAB g nilI B = fun i => (B i).map fresh := by funext i; simp [fAB, nilI]
theorem fAB_close (g g' : Int) (B : Nat → List Int) : (fun i => (fAB g nilI B i).map (giveT g')) = fAB g' B nilI := by
  funext i
  simp only [fAB, nilI, List.map_nil, List.nil_append, List.append_nil, List.map_map]
  apply List.map_congr_left
  intro z _
  show giveT g' (fresh z) = (z, g')
  unfold giveT fresh
  rw [if_pos rfl]
theorem up_fresh (g z : Int) : up g (fresh z) = false := by
  unfold up fresh
  exact decide_eq_false (by simp only; omega)
theorem drop_fresh (g : Int) (l : List Int) : (l.map fresh).dropWhile (up g) = l.map fresh ∧ (l.map fresh).takeWhile (up g) = [] := by
  cases l with
  | nil => exact ⟨rfl, rfl⟩
  | cons z l => simp [up_fresh]
theorem fAB_done {g : Int} (hg : 1 ≤ g) (A B : Nat → List Int) (i : Nat) : (fAB g A B i).dropWhile (up g) = (B i).map fresh ∧ (fAB g A B i).takeWhile (up g) = (A i).map (fun z => (z, g)) := by
  have hall : ∀ x ∈ (A i).map (fun z => (z, g)), up g x = true := fun x hx => by
    obtain ⟨z, _, rfl⟩ := List.mem_map.1 hx
    exact decide_eq_true ⟨hg, Int.le_refl _⟩
  unfold fAB
  rw [List.dropWhile_append_of_pos hall, List.takeWhile_append_of_pos hall, (drop_fresh g (B i)).1, (drop_fresh g (B i)).2, List.append_nil]
  exact ⟨rfl, rfl⟩
theorem fAB_out {g : Int} (hg : 1 ≤ g) (A B : Nat → List Int) (n : Nat) : outN g (fAB g A B) n = catI A n := by
  unfold outN catI
  congr 1
  funext i
  rw [(fAB_done hg A B i).2, List.map_map]
  exact List.map_id' _
theorem catL_perm (g : Int) (A B : Nat → List Int) : ∀ n, (catL (fAB g A B) n).Perm ((catI A n).map (fun z => (z, g)) ++ (catI B n).map fresh)
  | 0 => List.Perm.refl _
  | n + 1 => by
    rw [catL_succ, catI_succ, catI_succ, List.map_append, List.map_append]
    refine ((catL_perm g A B n).append_right _).trans ?_
    unfold fAB
    simp only [List.append_assoc]
    refine List.Perm.append_left _ ?_
    rw [← List.append_assoc, ← List.append_assoc]
    exact List.Perm.append_right _ (List.perm_append_comm)
theorem fAB_open {g : Int} (hg : 1 ≤ g) (A B : Nat → List Int) (n : Nat) : zcI (catL (fAB g A B) n) = ((catI B n).length : Int) := by
  unfold zcI zc
  rw [(catL_perm g A B n).countP_eq, List.countP_append, List.countP_map, List.countP_map]
  have h1 : (catI A n).countP ((fun x : Th => decide (x.2 = 0)) ∘ fun z => (z, g)) = 0 := by
    rw [List.countP_eq_zero]
    intro z _
    simp
    omega
  have h2 : (catI B n).countP ((fun x : Th => decide (x.2 = 0)) ∘ fresh) = (catI B n).length := by
    rw [List.countP_eq_length]
    intro z _
    simp [fresh]
  rw [h1, h2]
  simp
theorem fAB_open0 (g : Int) (B : Nat → List Int) (n : Nat) : zcI (catL (fAB g nilI B) n) = ((catI B n).length : Int) := by
  have h := fAB_open (g := 1) (by decide) nilI B n
  rwa [fAB_zero] at h ⊢
theorem fAB_waits (g : Int) (A B : Nat → List Int) (n : Nat) : lnI (catL (fAB g A B) n) = ((catI A n).length : Int) + ((catI B n).length : Int) := by
  unfold lnI
  rw [(catL_perm g A B n).length_eq]
  simp
theorem mx_le' {α : Type} (g : α → Int) (b : Int) : ∀ (l : List α) (s : Int), l.foldl (fun m x => if m < g x then g x else m) s ≤ b ↔ s ≤ b ∧ ∀ x ∈ l, g x ≤ b
  | [], s => by simp
  | x :: t, s => by
    rw [List.foldl_cons, mx_le' g b t]
    constructor
    · rintro ⟨h1, h2⟩
      split at h1
      · exact ⟨by omega, fun y hy => by rcases List.mem_cons.1 hy with rfl | h3; exact h1; exact h2 y h3⟩
      · exact ⟨h1, fun y hy => by rcases List.mem_cons.1 hy with rfl | h3; omega; exact h2 y h3⟩
    · rintro ⟨h1, h2⟩
      have := h2 x (by simp)
      refine ⟨by split <;> omega, fun y hy => h2 y (by simp [hy])⟩
theorem mx_perm {l m : List Th} (h : l.Perm m) : mxI l = mxI m := by
  have h1 : ∀ b, mxI l ≤ b ↔ mxI m ≤ b := fun b => by
    unfold mxI
    rw [mx_le' (fun x : Th => x.2), mx_le' (fun x : Th => x.2)]
    exact and_congr_right fun _ => ⟨fun h2 x hx => h2 x (h.mem_iff.2 hx), fun h2 x hx => h2 x (h.mem_iff.1 hx)⟩
  exact Int.le_antisymm ((h1 _).2 (Int.le_refl _)) ((h1 _).1 (Int.le_refl _))
/-- The greatest generation, where none is without one. -/
theorem fAB_newest {g : Int} (hg : 1 ≤ g) (A : Nat → List Int) {B : Nat → List Int} {n : Nat} (hB : catI B n = []) : mxI (catL (fAB g A B) n) = if catI A n = [] then 0 else g := by
  rw [mx_perm (catL_perm g A B n), hB, List.map_nil, List.append_nil]
  generalize catI A n = l
  split
  · rename_i e; subst e; rfl
  · rename_i e
    have h1 : ∀ b, mxI (l.map fun z => (z, g)) ≤ b ↔ (0 ≤ b ∧ g ≤ b) := fun b => by
      unfold mxI
      rw [mx_le' (fun x : Th => x.2)]
      refine and_congr_right fun _ => ⟨fun h2 => ?_, fun h2 x hx => ?_⟩
      · obtain ⟨z, hz⟩ := List.exists_mem_of_ne_nil l e
        exact h2 (z, g) (List.mem_map.2 ⟨z, hz, rfl⟩)
      · obtain ⟨z, _, rfl⟩ := List.mem_map.1 hx
        exact h2
    exact Int.le_antisymm ((h1 _).2 ⟨by omega, Int.le_refl _⟩) ((h1 _).1 (Int.le_refl _)).2

/-- A law's domain. -/
structure LS where
  x : SS
  A : Nat → List Int
  B : Nat → List Int
  gen : Int
  wnt : Int
  sc : Option Sc
def dmOf (l : LS) : Dm := ⟨l.x, fAB l.gen l.A l.B, l.gen, l.wnt, l.sc⟩
def lZ : LS := ⟨SS.zero, nilI, nilI, 0, 0, none⟩
end Go.Proofs.YtjoaigadlpndcaaDoor
