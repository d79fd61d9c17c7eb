/-
  The program's calls, told of the answer's state.
-/
import Derived.Test.YtjoaigadlpndcaaGreatDoorGzH
namespace Go.Proofs.YtjoaigadlpndcaaGreatDoor
open Go.RowKit Go.Shelf
open rC (Th)

section
variable {w w3 w5 w6 : World} {base a L n b c k : Nat} {s : Sl3} {z : Az}
theorem QR.quiet {q : Nat} {K R C Id : Int} (h : QR w w3 base a L n b c k s z q K R C Id) (hc : Ch [] w3 w5) : QR w w5 base a L n b c k s z q K R C Id := ⟨h.1.quiet hc, h.2.1.quiet hc, h.2.2⟩
theorem QX.gen (h : QX w w3 base a L n b c k s z) : 0 ≤ z.gen ∧ z.gen ≤ 50 := by have := h.iz.g; have := h.hk; omega
theorem QX.stamps (h : QX w w3 base a L n b c k s z) : (runS z.ds).n ≤ 100000 := by have := (near_run z.ds).n1; have := h.iz.dl; have := h.hk; omega
theorem QX.cnt (h : QX w w3 base a L n b c k s z) {i : Nat} (hi : i < n) : cntM z.M (i : Int) ≤ 64 := by
  have h1 : ((dgz c z).f i).length ≤ 64 := h.dl.len i hi
  have h2 : ((dgz c z).f i).length = cntM z.M (i : Int) := fOf_len z.M i
  omega
theorem QX.enter (h : QX w w3 base a L n b c k s z) (r : Int) {E : Int} (hE : E = enterE (runS z.ds) r) (t : TypeId) :
    Calls Tryz.prog 7 #[.pointer (some ⟨a, 0, none⟩), .slice (some ⟨w3.heap.size, 0, none⟩) 1 1] (w3.alloc (.cells #[.int .i64 r] t)) fun e w' => e = .returned (.int .i64 E) ∧
      DL w w' base a L n (dgz c ⟨deedsIn z.ds r, z.M, z.last, z.rn, z.t, z.P, z.p, z.gen, z.ov, z.wt⟩) ∧ ChP (GO base a (scZ c z)) w3 w' := by
  refine (h.dl.enter r h.stamps hE.symm t).mono ?_
  rintro e w' ⟨h1, h2, h3⟩
  refine ⟨h1, ?_, h3⟩
  unfold dgz
  rw [runS_in]
  exact h2
theorem QX.exit (h : QX w w3 base a L n b c k s z) (r : Int) {U : Bool} {E : Int} (hU : U = exitB (runS z.ds) r) (hE : E = exitE (runS z.ds) r) :
    Calls Tryz.prog 9 #[.pointer (some ⟨a, 0, none⟩), .int .i64 r] w3 fun e w' => e = .returned (.tuple #[.bool U, .int .i64 E]) ∧
      DL w w' base a L n (dgz c ⟨deedsOut z.ds r, z.M, z.last, z.rn, z.t, z.P, z.p, z.gen, z.ov, z.wt⟩) ∧ ChP (GO base a (scZ c z)) w3 w' := by
  refine (h.dl.exit r hU.symm hE.symm).mono ?_
  rintro e w' ⟨h1, h2, h3⟩
  refine ⟨h1, ?_, h3⟩
  unfold dgz
  rw [runS_out]
  exact h2
theorem QX.call_in (h : QX w w3 base a L n b c k s z) {i : Nat} (hi : i < n) (x y : Int) {M' : List Cb} {E : Int} (hM : z.M ++ ([x, y].take (64 - cntM z.M (i : Int))).map (mkC (i : Int)) = M') (hE : (if 64 < cntM z.M (i : Int) + 2 then 3 else 0) = E) (t : TypeId) :
    Calls Tryz.prog 11 #[.pointer (some ⟨a, 0, none⟩), .int .i64 (i : Int), .slice (some ⟨w3.heap.size, 0, none⟩) 2 2] (w3.alloc (.cells #[.int .i64 x, .int .i64 y] t)) fun e w' => e = .returned (.int .i64 E) ∧
      DL w w' base a L n (dgz c ⟨z.ds, M', z.last, z.rn, z.t, z.P, z.p, z.gen, z.ov, z.wt⟩) ∧ ChP (GO base a (scZ c z)) w3 w' := by
  refine (h.dl.call2 hi x y t).mono ?_
  rintro e w' ⟨h1, h2, h3⟩
  have hl : ((dgz c z).f i).length = cntM z.M (i : Int) := fOf_len z.M i
  refine ⟨?_, ?_, h3⟩
  · rw [h1, hl, hE]
  · have hr := add_rel z.M i [x, y] (h.cnt hi)
    rw [hM] at hr
    have h4 : updF (dgz c z).f i (((dgz c z).f i ++ [x, y].map fresh).take 64) = fOf M' := hr
    rw [h4] at h2
    exact h2
theorem QX.call_out (h : QX w w3 base a L n b c k s z) {i : Int} (hi : i < 0 ∨ (n : Int) ≤ i) (v : Value) (w4 : World) (hc : Ch [] w3 w4) :
    Calls Tryz.prog 11 #[.pointer (some ⟨a, 0, none⟩), .int .i64 i, v] w4 fun e w' => e = .returned (.int .i64 2) ∧
      DL w w' base a L n (dgz c ⟨z.ds, z.M, z.last, z.rn, z.t, z.P, z.p, z.gen, z.ov, z.wt⟩) ∧ ChP (GO base a (scZ c z)) w3 w' := by
  refine ((h.dl.quiet hc).call_out hi v).mono ?_
  rintro e w' ⟨h1, rfl⟩
  exact ⟨h1, h.dl.quiet hc, .quiet hc⟩
theorem QX.ticket (h : QX w w3 base a L n b c k s z) {v : Int} (hv : z.gen + 1 = v) :
    Calls Tryz.prog 13 #[.pointer (some ⟨a, 0, none⟩)] w3 fun e w' => e = .returned (.int .i64 v) ∧
      DL w w' base a L n (dgz c ⟨z.ds, z.M, z.last, z.rn, z.t, z.P, z.p, z.gen, z.ov, v⟩) ∧ ChP (GO base a (scZ c z)) w3 w' := by
  have hg := h.gen
  exact h.dl.ticket (show -1000000 ≤ z.gen ∧ z.gen ≤ 1000000 by omega) hv
/-- What is told lies in a row of ints. -/
theorem QX.poll (h : QX w w3 base a L n b c k s z) {O : List Int} (hO : outZ n z = O) {z' : Az} (hz : begZ (endZ z) = z') :
    Calls Tryz.prog 16 #[.pointer (some ⟨a, 0, none⟩)] w3 fun e w' => ∃ ad cap c', e = .returned (.slice ad O.length cap) ∧ IntsAt w' ad O ∧
      DL w w' base a L n (dgz c' z') ∧ ChP (GO base a (scZ c z)) w3 w' ∧ ∀ j, j < w3.heap.size → GO base a (scZ c' z') j → GO base a (scZ c z) j := by
  subst hz
  have hg := h.gen
  refine (h.dl.poll h.hL (show 0 ≤ z.gen ∧ z.gen ≤ 1000000 by omega) ((dgz_out h.iz).trans hO)).mono ?_
  rintro e w' ⟨ad, cap, h1, h2, c', h3, h4, h5⟩
  rw [dgz_end h.iz] at h4
  obtain ⟨c2, e2, h6⟩ := dgz_beg' (c := c) (c' := c') h.iz.end
  rw [e2] at h4
  refine ⟨ad, cap, c2, h1, (ints_own h2).1, h4, h5, fun j hj hG => ?_⟩
  rcases go_scZ.1 hG with h7 | ⟨h7, h8⟩
  · exact go_scZ.2 (.inl h7)
  · rcases h6 with ⟨rfl, h9⟩ | h6
    · rw [h9] at h7
      exact go_scZ.2 (.inr ⟨endZ_rn h7, h8⟩)
    · omega
end
end Go.Proofs.YtjoaigadlpndcaaGreatDoor
