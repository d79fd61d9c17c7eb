/-
  Plain: the program's domain, of the answer's state; what always holds of it; polls.
-/
import Derived.Test.YtjoaigadlpndcaaGreatDoorGzD
import Derived.Test.YtjoaigadlpndcaaGreatDoorGrK
namespace Go.Proofs.YtjoaigadlpndcaaGreatDoor
open Go.RowKit Go.Shelf
open rC (Th)

/-- The program's scan and domain, of the answer's. -/
def scZ (c : Nat) (z : Az) : Option Sc := if z.rn = true then some ⟨c, z.t, z.p, z.P⟩ else none
def dgz (c : Nat) (z : Az) : Dm := ⟨runS z.ds, fOf z.M, z.gen, z.wt, scZ c z⟩
/-- What always holds of the answer's state, k acts on. -/
structure IZ (n k : Nat) (z : Az) : Prop where
  mi : MI z.M n z.last
  la : z.last ≤ z.gen
  g : 0 ≤ z.gen ∧ z.gen ≤ k
  dl : z.ds.length ≤ k
  ml : z.M.length ≤ 2 * k
  pl : z.P < 64
  ov : z.ov = if z.rn = true then z.gen - 1 else z.gen
section
variable {n k c c' : Nat} {z : Az}
theorem IZ.zero (n : Nat) : IZ n 0 ⟨[], [], 0, false, 0, 0, fun _ => false, 0, 0, 0⟩ := ⟨MI.nil n, by decide, by decide, by decide, by decide, by decide, rfl⟩
theorem IZ.enter (h : IZ n k z) (r : Int) : IZ n (k + 1) ⟨deedsIn z.ds r, z.M, z.last, z.rn, z.t, z.P, z.p, z.gen, z.ov, z.wt⟩ :=
  ⟨h.mi, h.la, ⟨h.g.1, by have := h.g.2; simp only; omega⟩, by
    have := h.dl
    show (deedsIn z.ds r).length ≤ k + 1
    unfold deedsIn
    split
    · rw [List.length_append, List.length_singleton]; omega
    · omega, by have := h.ml; simp only; omega, h.pl, h.ov⟩
theorem IZ.exit (h : IZ n k z) (r : Int) : IZ n (k + 1) ⟨deedsOut z.ds r, z.M, z.last, z.rn, z.t, z.P, z.p, z.gen, z.ov, z.wt⟩ :=
  ⟨h.mi, h.la, ⟨h.g.1, by have := h.g.2; simp only; omega⟩, by
    have := h.dl
    show (deedsOut z.ds r).length ≤ k + 1
    unfold deedsOut
    split
    · rw [List.length_append, List.length_singleton]; omega
    · omega, by have := h.ml; simp only; omega, h.pl, h.ov⟩
theorem IZ.next (h : IZ n k z) : IZ n (k + 1) z := ⟨h.mi, h.la, ⟨h.g.1, by have := h.g.2; omega⟩, by have := h.dl; omega, by have := h.ml; omega, h.pl, h.ov⟩
theorem IZ.call (h : IZ n k z) (hc : c < n) {zs : List Int} (hz : zs.length ≤ 2) : IZ n (k + 1) ⟨z.ds, z.M ++ zs.map (mkC (c : Int)), z.last, z.rn, z.t, z.P, z.p, z.gen, z.ov, z.wt⟩ :=
  ⟨h.mi.add hc zs, h.la, ⟨h.g.1, by have := h.g.2; simp only; omega⟩, by have := h.dl; simp only; omega, by have := h.ml; simp only [List.length_append, List.length_map]; omega, h.pl, h.ov⟩
theorem IZ.ticket (h : IZ n k z) (v : Int) : IZ n (k + 1) ⟨z.ds, z.M, z.last, z.rn, z.t, z.P, z.p, z.gen, z.ov, v⟩ :=
  ⟨h.mi, h.la, ⟨h.g.1, by have := h.g.2; simp only; omega⟩, by have := h.dl; simp only; omega, by have := h.ml; simp only; omega, h.pl, h.ov⟩
theorem IZ.end (h : IZ n k z) : IZ n k (endZ z) := by
  unfold endZ
  split
  · rename_i hr
    split
    · exact ⟨h.mi.done _, h.la, h.g, h.dl, by
        have h1 := List.length_filter_le (leftM z.gen) z.M
        have := h.ml
        simp only
        omega, pollP_lt h.pl _ _, rfl⟩
    · exact ⟨h.mi, h.la, h.g, h.dl, h.ml, pollP_lt h.pl _ _, by have := h.ov; rw [if_pos hr] at this; exact this⟩
  · exact h
theorem IZ.beg (h : IZ n k z) : IZ n (k + 1) (begZ z) := by
  unfold begZ
  split
  · rename_i hq
    have hg := h.g
    have hl := h.la
    exact ⟨h.mi.close (by omega) (by omega), Int.le_refl _, ⟨by simp only; omega, by simp only; omega⟩, by have := h.dl; simp only; omega, by have := h.ml; simp only [List.length_map]; omega, (show (0 : Nat) < 64 by decide), by
      have := h.ov
      rw [hq.1, if_neg (by decide)] at this
      simp only [if_true]
      omega⟩
  · exact h.next
theorem dgz_end (h : IZ n k z) : endD (dgz c z) = dgz c (endZ z) := by
  unfold endD endZ
  by_cases hr : z.rn = true
  · have hs : (dgz c z).sc = some ⟨c, z.t, z.p, z.P⟩ := by show scZ c z = _; unfold scZ; rw [if_pos hr]
    rw [hs, if_pos hr]
    simp only
    have hp : pLeft (dgz c z) ⟨c, z.t, z.p, z.P⟩ = z.left := rfl
    rw [hp]
    split
    · have hf : (fun i => ((dgz c z).f i).dropWhile (up (dgz c z).gen)) = fOf (z.M.filter (leftM z.gen)) := by
        funext i
        exact (done_rel h.mi z.gen i).symm
      rw [hf]
      rfl
    · rfl
  · have hs : (dgz c z).sc = none := by show scZ c z = _; unfold scZ; rw [if_neg hr]
    rw [hs, if_neg hr]
theorem dgz_out (h : IZ n k z) : endO n (dgz c z) = outZ n z := by
  unfold endO outZ
  by_cases hr : z.rn = true
  · have hs : (dgz c z).sc = some ⟨c, z.t, z.p, z.P⟩ := by show scZ c z = _; unfold scZ; rw [if_pos hr]
    rw [hs]
    simp only
    have hp : pLeft (dgz c z) ⟨c, z.t, z.p, z.P⟩ = z.left := rfl
    rw [hp]
    by_cases hz : cntN z.left 64 = 0
    · rw [if_pos hz, if_pos ⟨hr, hz⟩]
      exact out_rel h.mi z.gen n
    · rw [if_neg hz, if_neg (fun h => hz h.2)]
  · have hs : (dgz c z).sc = none := by show scZ c z = _; unfold scZ; rw [if_neg hr]
    rw [hs, if_neg (fun h => hr h.1)]
theorem dgz_asks (h : IZ n k z) : (asks n (dgz c z) = true) ↔ (z.rn = false ∧ (0 < zcM z.M ∨ z.gen < z.wt)) := by
  have h1 : zcI (catL (dgz c z).f n) = (zcM z.M : Int) := by
    unfold zcI
    rw [show zc (catL (dgz c z).f n) = zcM z.M from zc_rel h.mi.cpu]
  unfold asks
  rw [h1]
  have h2 : (dgz c z).sc.isSome = z.rn := by
    show (scZ c z).isSome = z.rn
    unfold scZ
    cases z.rn <;> rfl
  rw [h2]
  have h3 : ((dgz c z).gen < (dgz c z).wnt) ↔ z.gen < z.wt := Iff.rfl
  cases z.rn <;> simp [h3]
theorem dgz_beg (h : IZ n k z) : ∃ c2, begD c' n (dgz c z) = dgz c2 (begZ z) ∧ (c2 = c ∨ c2 = c') := by
  unfold begD begZ
  by_cases hq : z.rn = false ∧ (0 < zcM z.M ∨ z.gen < z.wt)
  · refine ⟨c', ?_, .inr rfl⟩
    rw [if_pos ((dgz_asks h).2 hq), if_pos hq]
    have hf : (fun i => ((dgz c z).f i).map (giveT ((dgz c z).gen + 1))) = fOf (z.M.map (giveC (z.gen + 1))) := by
      funext i
      exact (close_rel z.M (z.gen + 1) i).symm
    rw [hf]
    rfl
  · refine ⟨c, ?_, .inl rfl⟩
    rw [if_neg (fun e => hq ((dgz_asks h).1 e)), if_neg hq]
/-- What is read of it. -/
theorem dgz_done (h : IZ n k z) : doneV (dgz c z) = z.ov := by
  unfold doneV
  rw [h.ov]
  show (if (scZ c z).isSome = true then z.gen - 1 else z.gen) = _
  unfold scZ
  cases z.rn <;> rfl
theorem dgz_run : (dgz c z).sc.isSome = z.rn := by
  show (scZ c z).isSome = z.rn
  unfold scZ
  cases z.rn <;> rfl
theorem dgz_wait (h : IZ n k z) : lnI (catL (dgz c z).f n) = (z.M.length : Int) := by
  unfold lnI
  rw [show (catL (dgz c z).f n).length = z.M.length from len_rel h.mi.cpu]
theorem dgz_bar (h : IZ n k z) : barV n (dgz c z) = if 0 < zcM z.M then z.gen + 1 else mxM z.M := by
  have h1 : zcI (catL (dgz c z).f n) = (zcM z.M : Int) := by
    unfold zcI
    rw [show zc (catL (dgz c z).f n) = zcM z.M from zc_rel h.mi.cpu]
  have h2 : mxI (catL (dgz c z).f n) = mxM z.M := mx_rel h.mi.cpu
  unfold barV
  rw [h1, h2]
  by_cases e : 0 < zcM z.M
  · rw [if_pos e, if_pos (by omega)]; rfl
  · rw [if_neg e, if_neg (by omega)]
/-- Whom it waits for, as a number. -/
def holdZ (z : Az) : Nat := if z.rn = true then mskN z.p else 0
theorem msk_none : mskN (fun _ => false) = 0 := by decide +kernel
theorem dgz_hold : mskN (holdP (dgz c z)) = holdZ z := by
  unfold holdZ
  by_cases hr : z.rn = true
  · have hs : (dgz c z).sc = some ⟨c, z.t, z.p, z.P⟩ := by show scZ c z = _; unfold scZ; rw [if_pos hr]
    unfold holdP
    rw [hs, if_pos hr]
  · have hs : (dgz c z).sc = none := by show scZ c z = _; unfold scZ; rw [if_neg hr]
    unfold holdP
    rw [hs, if_neg hr]
    exact msk_none
end
end Go.Proofs.YtjoaigadlpndcaaGreatDoor
