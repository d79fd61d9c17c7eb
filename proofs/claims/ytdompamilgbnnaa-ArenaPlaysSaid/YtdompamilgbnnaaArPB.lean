/-
  For the law ArenaPlays: the boxes of a call; lists of handles; a thing set in the document's list.
-/
import Derived.Test.YtdompamilgbnnaaAIK
import Derived.Test.YtdompamilgbnnaaArC
namespace Go.Proofs.Ytdompamilgbnnaa
open Go.RowKit aI

/-- A piece of a function's code, by its way from the root. -/
def codeAt : List Nat → Code → Code
  | [], c => c
  | 0 :: t, .seq a _ => codeAt t a
  | _ :: t, .seq _ b => codeAt t b
  | _ :: t, .block _ c => codeAt t c
  | _ :: t, .loop c => codeAt t c
  | _, c => c

/-- A box of four numbers. -/
structure Box4 (w : World) (A : Nat) (p q r s : Int) : Prop where
  c0 : w.cell? ⟨A, 0, none⟩ = some (.int .i64 p)
  c1 : w.cell? ⟨A, 1, none⟩ = some (.int .i64 q)
  c2 : w.cell? ⟨A, 2, none⟩ = some (.int .i64 r)
  c3 : w.cell? ⟨A, 3, none⟩ = some (.int .i64 s)
theorem Box4.new (w : World) (p q r s : Int) (t : TypeId) : Box4 (w.alloc (.cells #[.int .i64 p, .int .i64 q, .int .i64 r, .int .i64 s] t)) w.heap.size p q r s :=
  ⟨by rw [World.cell?_alloc_at _ _ _ _ rfl]; rfl, by rw [World.cell?_alloc_at _ _ _ _ rfl]; rfl, by rw [World.cell?_alloc_at _ _ _ _ rfl]; rfl, by rw [World.cell?_alloc_at _ _ _ _ rfl]; rfl⟩
theorem Box4.ch {S : List Nat} {w w' : World} {A : Nat} {p q r s : Int} (h : Box4 w A p q r s) (hc : Ch S w w') (hb : A ∉ S) : Box4 w' A p q r s :=
  ⟨(hc.cell (p := ⟨A, 0, none⟩) (cell_lt h.c0) hb).trans h.c0, (hc.cell (p := ⟨A, 1, none⟩) (cell_lt h.c1) hb).trans h.c1, (hc.cell (p := ⟨A, 2, none⟩) (cell_lt h.c2) hb).trans h.c2, (hc.cell (p := ⟨A, 3, none⟩) (cell_lt h.c3) hb).trans h.c3⟩

/-- A row that is not empty: its block and its cells. -/
theorem own_cells {w : World} {B e sz n cap : Nat} {a : Option Addr} {xs : List Value} (h : w.ownsRow B e sz (.slice a n cap) n xs) (i : Nat) (hi : i < n * sz) : ∃ g, a = some ⟨g, 0, none⟩ ∧ B ≤ g ∧ ∀ j, j < n * sz → w.cell? ⟨g, j, none⟩ = xs[j]? := by
  rcases h.2 with ⟨_, rfl⟩ | ⟨g, cp, cur, e, hb, _⟩
  · simp at hi
  · cases e
    exact ⟨g, rfl, hb, fun j hj => World.ownsRow.cellAt h j hj⟩

theorem hcs_at (xs : List (Sl Int)) (l : List Nat) (i k : Nat) (h : l[i]? = some k) : (hcs xs l)[i * 2]? = some (.int .i64 (k : Int)) ∧ (hcs xs l)[i * 2 + 1]? = some (.int .i64 ((at0 xs k).gen : Int)) := by
  induction l generalizing i with
  | nil => simp at h
  | cons a t ih =>
    have e : hcs xs (a :: t) = .int .i64 (a : Int) :: .int .i64 ((at0 xs a).gen : Int) :: hcs xs t := by simp [hcs]
    rw [e]
    cases i with
    | zero =>
      simp at h
      subst h
      simp
    | succ i =>
      have := ih i (by simpa using h)
      rw [show (i + 1) * 2 = i * 2 + 2 by omega]
      simpa using this
theorem sel_at (xs : List (Sl Int)) (q : Sl Int → Bool) (j : Nat) (hj : j < xs.length) (h : q (at0 xs j) = true) : (sel xs q)[(selTo xs q j).length]? = some j := by
  have h1 := selTo_prefix xs q (j + 1) xs.length (by omega)
  rw [selTo_yes _ _ _ h] at h1
  obtain ⟨r, hr⟩ := h1
  unfold sel
  rw [← hr]
  simp

theorem RS.setX {w : World} {D : Nat} {xs : List (Sl Int)} {g cap : Nat} (h : RS w D (.slice (some ⟨g, 0, none⟩) xs.length cap) xs) (k : Nat) (hk : k < xs.length) (x : Int) :
    RS (w.setCell ⟨g, k * 3 + 2, none⟩ (.int .i64 x)) D (.slice (some ⟨g, 0, none⟩) xs.length cap) (xs.set k ⟨(at0 xs k).gen, (at0 xs k).held, x⟩) := by
  have h1 := own_set h (k * 3 + 2) (.int .i64 x) (by omega)
  unfold RS
  have e := rcs_set xs k hk ⟨(at0 xs k).gen, (at0 xs k).held, x⟩
  rw [set_id (rcs xs) (k * 3) _ (rcs_at xs k hk).1, set_id (rcs xs) (k * 3 + 1) _ (rcs_at xs k hk).2.1] at e
  rw [List.length_set, ← e]
  exact h1

theorem live_st {S : Nat} {w W : World} {R : Nat} {xs : List (Sl Int)} (h : St S w W R xs) :
    Calls Try.prog 19 #[.pointer (some ⟨R, 0, none⟩)] W fun e W' =>
      ∃ v, e = .returned v ∧ W'.ownsRow W.heap.size 33 2 v (sel xs isHeld).length (hcs xs (sel xs isHeld)) ∧ St S w W' R xs ∧ Ch [] W W' :=
  (callsIn_wide.1 (live_in 0 _ S xs W h.la)).mono fun _ _ ⟨v, he, ho, hb⟩ => ⟨v, he, ho, h.below hb, Ch.of_below hb⟩
end Go.Proofs.Ytdompamilgbnnaa
