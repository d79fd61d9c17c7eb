/-
  Plain: what IsaBytes asks: rows that are apart, bytes of right instructions, there and back.
-/
import Derived.Test.YtgldkalagmjkfaaDoorIsU
import Derived.Test.YtgldkalagmjkfaaDoorIsV
namespace Go.Proofs.YtgldkalagmjkfaaDoor
open Go.RowKit

/-- A row that another one's append leaves alone. -/
theorem own_grown {w w' : World} {b e s n : Nat} {v : Value} {xs : List Value} {row : Option Nat} (h : w.ownsRow b e s v n xs) (hg : w.grownBy w' row) (hr : v.ownBlock = none ∨ v.ownBlock ≠ row) : w'.ownsRow b e s v n xs := by
  obtain ⟨h1, h2⟩ := h
  refine ⟨h1, ?_⟩
  rcases h2 with h2 | ⟨g, cap, cur, rfl, hb, hk, r⟩
  · exact .inl h2
  · refine .inr ⟨g, cap, cur, rfl, hb, (hg.block g (Array.getElem?_eq_some_iff.1 hk).1 ?_).trans hk, r⟩
    rcases hr with hr | hr
    · simp [Value.ownBlock] at hr
    · exact hr
theorem IR.grown {w w' : World} {lo lo' T m : Nat} {v v' : Value} {L : List I5} {ys : List Value} (h : IR w lo T v L) (h' : w.ownsRow lo' 5 1 v' m ys) (hT : T ≠ 5) (hg : w.grownBy w' v'.ownBlock) : IR w' lo T v L := own_grown h hg (own_apart h h' hT)
theorem NB.grown {w w' : World} {lo lo' T m : Nat} {v v' : Value} {l : List Int} {ys : List Value} (h : NB w lo v l) (h' : w.ownsRow lo' T 5 v' m ys) (hT : T ≠ 5) (hg : w.grownBy w' v'.ownBlock) : NB w' lo v l := own_grown h hg (own_apart h h' (fun e => hT e.symm))

/-- The bytes of those that are right. -/
def okL (L : List I5) : List Int := L.flatMap fun x => if chk x = 0 then enc x else []
theorem okL_snoc (L : List I5) (x : I5) : okL (L ++ [x]) = okL L ++ (if chk x = 0 then enc x else []) := by simp [okL]
theorem okL_len (L : List I5) : (okL L).length ≤ 8 * L.length := by
  induction L with
  | nil => simp [okL]
  | cons x l ih =>
    have : okL (x :: l) = (if chk x = 0 then enc x else []) ++ okL l := by simp [okL]
    rw [this, List.length_append]
    have : (if chk x = 0 then enc x else []).length ≤ 8 := by split <;> simp [enc_length]
    simp; omega
theorem firstE_snoc (L : List I5) (x : I5) : firstE (L ++ [x]) = if firstE L = 0 then chk x else firstE L := by
  induction L with
  | nil =>
    show (if chk x = 0 then (0 : Int) else chk x) = if (0 : Int) = 0 then chk x else 0
    by_cases h : chk x = 0 <;> simp [h]
  | cons y l ih =>
    rw [List.cons_append]
    unfold firstE
    by_cases h : chk y = 0
    · rw [if_pos h, if_pos h]; exact ih
    · rw [if_neg h, if_neg h, if_neg h]
theorem firstE_all {L : List I5} (h : firstE L = 0) : ∀ i (hi : i < L.length), chk L[i] = 0 := by
  induction L with
  | nil => intro i hi; simp at hi
  | cons x l ih =>
    unfold firstE at h
    by_cases hx : chk x = 0
    · rw [if_pos hx] at h
      intro i hi
      cases i with
      | zero => exact hx
      | succ i => exact ih h i (by simpa using hi)
    · rw [if_neg hx] at h
      exact absurd h hx
theorem okL_all {L : List I5} (h : firstE L = 0) : okL L = encL L := by
  induction L with
  | nil => rfl
  | cons x l ih =>
    unfold firstE at h
    by_cases hx : chk x = 0
    · rw [if_pos hx] at h
      have : okL (x :: l) = (if chk x = 0 then enc x else []) ++ okL l := by simp [okL]
      rw [this, if_pos hx, ih h]
      simp [encL]
    · rw [if_neg hx] at h
      exact absurd h hx
theorem encL_byte (L : List I5) : byte (encL L) := by
  intro b hb
  unfold encL at hb
  obtain ⟨x, _, hx⟩ := List.mem_flatMap.1 hb
  exact enc_byte x b hx
theorem encL_at (L : List I5) (k : Nat) (hk : k < L.length) (j : Nat) (hj : j < 8) : (encL L)[8 * k + j]? = (enc L[k])[j]? := by
  induction L generalizing k with
  | nil => simp at hk
  | cons x l ih =>
    have e : encL (x :: l) = enc x ++ encL l := by simp [encL]
    rw [e]
    cases k with
    | zero => rw [Nat.mul_zero, Nat.zero_add, List.getElem?_append_left (by rw [enc_length]; exact hj)]; rfl
    | succ k =>
      rw [List.getElem?_append_right (by rw [enc_length]; omega), enc_length, show 8 * (k + 1) + j - 8 = 8 * k + j by omega]
      exact ih k (by simpa using hk)
theorem dec_encL {L : List I5} (h : firstE L = 0) (k : Nat) (hk : k < L.length) : decAt (encL L) k = L[k] := by
  refine dec_enc (firstE_all h k hk) _ fun j hj => ?_
  rw [← encL_at L k hk j hj, List.getElem?_eq_getElem (by rw [encL_len]; omega), List.getD_eq_getElem?_getD, List.getElem?_eq_getElem (by rw [encL_len]; omega)]
  rfl
theorem decs_encL {L : List I5} (h : firstE L = 0) : decs (encL L) L.length = L := by
  apply List.ext_getElem
  · rw [decs_len]
  · intro k h1 h2
    rw [decs_at, dec_encL h k h2]
end Go.Proofs.YtgldkalagmjkfaaDoor
