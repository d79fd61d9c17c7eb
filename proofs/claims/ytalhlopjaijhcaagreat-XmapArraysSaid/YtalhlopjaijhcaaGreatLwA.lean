/-
  The law XmapArrays: its lists.
-/
import Derived.Test.YtalhlopjaijhcaaGreatMgM
namespace Go.Proofs.YtalhlopjaijhcaaGreat
open Go.RowKit

theorem arrT_mem : ∀ {i k : Nat}, k < i → (⟨k, ((k : Int), 1)⟩ : Ent (Int × Int)) ∈ arrT i
  | i + 1, k, h => by
    by_cases e : k = i
    · subst e; exact List.mem_cons_self
    · exact List.mem_cons_of_mem _ (arrT_mem (by omega))
theorem arrT_nd : ∀ i, (ksE (arrT i)).Nodup
  | 0 => List.nodup_nil
  | i + 1 => List.nodup_cons.2 ⟨fun h => Nat.lt_irrefl i ((arrT_ks i i).1 h), arrT_nd i⟩
theorem arrT_val {i k : Nat} (h : k < i) : valE (arrT i) k = some ((k : Int), 1) := (val_iff (arrT_nd i)).2 (arrT_mem h)
theorem arrT_no {i k : Nat} (h : ¬ k < i) : valE (arrT i) k = none := val_none.2 (fun hm => h ((arrT_ks i k).1 hm))
theorem arrX_find {n k : Nat} (h : k < n) : findE (arrX n n) k 1 = 0 := findE_ok (by rw [arrX_len]; omega) (by rw [arrX_at (by omega), if_pos h]) (by rw [arrX_at (by omega), if_pos h]; rfl)
theorem arrX_get {n k : Nat} (h : k < n) : getX (arrX n n) k 1 = ⟨k, z4⟩ := by
  unfold getX
  rw [if_pos (arrX_find h), Int.toNat_natCast, arrX_at (by omega), if_pos h]
/-- The array behind the put. -/
def arP (n k x : Nat) : MS := if k < n then setM (arrM n 2 n) ((k : Int), 1) ⟨k, valOf [x, x]⟩ else arrM n 2 n
theorem arP_eq (n k x : Nat) : (arP n k x).kind = 0 ∧ (arP n k x).n = n ∧ (arP n k x).wd = 2 ∧ (arP n k x).cl = false ∧ (arP n k x).tb = arrT n ∧ (arP n k x).us = [] := by
  unfold arP
  split <;> exact ⟨rfl, rfl, rfl, rfl, rfl, rfl⟩
theorem ar_put (n k x : Nat) : putM (arrM n 2 n) 0 k [x, x] = (arP n k x, if k < n then ⟨((k : Int), 1), (0, 0), false, 0⟩ else noPut 2) := by
  unfold putM
  rw [if_neg (by show ¬ ((0 : Int) < 0 ∨ (2 : Int) < 0 ∨ 2 < 2); omega), if_neg (by show ¬ (false = true); decide)]
  by_cases h : k < n
  · rw [show valE (arrM n 2 n).tb k = _ from arrT_val h, if_pos h]
    unfold arP
    rw [if_pos h]
    rfl
  · rw [show valE (arrM n 2 n).tb k = _ from arrT_no h, if_neg h]
    unfold arP
    rw [if_neg h]
    rfl
theorem ar_del (n k x j : Nat) : delM (arP n k x) j = (arP n k x, (0, 0), 17) := if_pos (arP_eq n k x).1
theorem ar_fresh (n k x : Nat) : putM (arP n k x) 1 k [] = (arP n k x, noPut (if k < n then 5 else 2)) := by
  obtain ⟨e1, e2, e3, e4, e5, e6⟩ := arP_eq n k x
  unfold putM
  rw [if_neg (by simp), if_neg (by rw [e4]; decide), e5]
  by_cases h : k < n
  · rw [arrT_val h, if_pos h]
    rfl
  · rw [arrT_no h, if_neg h]
    show addM _ _ _ = _
    unfold addM
    have : refM (arP n k x) 1 = 2 := by unfold refM; rw [if_pos e1]
    rw [if_pos (by rw [this]; decide), this]
theorem ar_look (n k x : Nat) {i : Nat} (h : i < n) : lookH (arP n k x).tb i = ((i : Int), 1) ∧ lookE (arP n k x).tb i = 0 := look_some (by rw [(arP_eq n k x).2.2.2.2.1]; exact arrT_val h)
theorem ar_load (n k x : Nat) {i : Nat} (h : i < n) : loadM (arP n k x) ((i : Int), 1) 1 = (if i = k then x else 0, 0) := by
  have hw := (arP_eq n k x).2.2.1
  have he : errM (arP n k x) ((i : Int), 1) = 0 := by
    unfold arP
    split
    · exact (set_find _ _).trans (arrX_find h)
    · exact arrX_find h
  have hx : (elM (arP n k x) ((i : Int), 1)).v 1 = if i = k then x else 0 := by
    unfold arP
    by_cases hk : k < n
    · rw [if_pos hk]
      show El.v (getX (setL _ _ _ _) _ _) 1 = _
      by_cases e : i = k
      · subst e
        rw [show getX (setL (arrM n 2 n).xs ((i : Int), (1 : Int)).1 ((i : Int), (1 : Int)).2 ⟨i, valOf [x, x]⟩) ((i : Int), (1 : Int)).1 ((i : Int), (1 : Int)).2 = _ from set_get (arrX_find h), if_pos rfl]
        rfl
      · rw [show getX (setL (arrM n 2 n).xs ((k : Int), (1 : Int)).1 ((k : Int), (1 : Int)).2 ⟨k, valOf [x, x]⟩) ((i : Int), (1 : Int)).1 ((i : Int), (1 : Int)).2 = _ from set_get_other (fun h => e (by have := h.1; simp only at this; omega)), if_neg e]
        rw [show getX (arrM n 2 n).xs (i : Int) 1 = _ from arrX_get h]
        rfl
    · rw [if_neg hk, if_neg (by omega)]
      show El.v (getX _ _ _) 1 = _
      rw [show getX (arrM n 2 n).xs ((i : Int), (1 : Int)).1 ((i : Int), (1 : Int)).2 = _ from arrX_get h]
      rfl
  unfold loadM
  rw [if_neg (by rw [he]; decide), if_neg (by rw [hw]; omega)]
  exact Prod.ext hx rfl
theorem sel_same {xs ys : List (Sl El)} {p : Sl El → Bool} (hl : xs.length = ys.length) (h : ∀ j, j < xs.length → p (at0 xs j) = p (at0 ys j)) : sel xs p = sel ys p := by
  unfold sel selTo
  rw [hl]
  apply List.filter_congr
  intro j hj
  exact h j (by rw [hl]; exact List.mem_range.1 hj)
theorem held_set (s : MS) (hd : Int × Int) (x : El) : heldN (setM s hd x) = heldN s := by
  unfold heldN
  congr 1
  refine sel_same (setL_len _ _ _ _) (fun j hj => ?_)
  show isHeld (at0 (setL _ _ _ _) j) = _
  unfold setL
  split
  · rename_i h0
    obtain ⟨k, e, hk, hh, hg⟩ := findE_zero h0
    rw [e, Int.toNat_natCast]
    by_cases e : j = k
    · subst e; rw [at0_set_same _ _ _ hk]; rfl
    · rw [at0_set_other _ _ _ _ e]
  · rfl
theorem arr_held (n wd : Nat) : heldN (arrM n wd n) = n := by
  unfold heldN sel selTo
  rw [show (arrM n wd n).xs = arrX n n from rfl, arrX_len]
  have e : (List.range (2 * n)).filter (fun j => isHeld (at0 (arrX n n) j)) = List.range n := by
    have h1 : ∀ m, m ≤ n → (List.range (n + m)).filter (fun j => isHeld (at0 (arrX n n) j)) = List.range n := by
      intro m
      induction m with
      | zero =>
        intro _
        rw [Nat.add_zero, List.filter_eq_self]
        intro j hj
        rw [arrX_at (by have := List.mem_range.1 hj; omega), if_pos (by have := List.mem_range.1 hj; omega)]
        rfl
      | succ m ih =>
        intro hm
        rw [← Nat.add_assoc, List.range_succ, List.filter_append, ih (by omega)]
        have e2 : isHeld (at0 (arrX n n) (n + m)) = false := by rw [arrX_at (by omega), if_neg (by omega)]; rfl
        simp [e2]
    have := h1 n (Nat.le_refl _)
    rwa [show n + n = 2 * n by omega] at this
  rw [e, List.length_range]
theorem ar_held (n k x : Nat) : heldN (arP n k x) = n := by
  unfold arP
  split
  · rw [held_set]; exact arr_held n 2
  · exact arr_held n 2
end Go.Proofs.YtalhlopjaijhcaaGreat
