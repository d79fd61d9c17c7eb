/-
  New.
-/
import Derived.Test.YtnnliimjemmekaaCaH
namespace Go.Proofs.Ytnnliimjemmekaa
open Go.RowKit Go.Shelf Go.Maps
open rC (Th RL flat tv objT)

attribute [local go_sem] Oper.semAt_some

theorem infoP : (Try.prog.info? 63).map (fun i => (i.zero, i.size, i.bytes)) = some (some (.pointer none), 1, 8) := by kernel_rfl

/-- Lists that are being made: k of the rings are there. -/
structure NL (w wr : World) (A G n k : Nat) (R Q : Nat → Nat) : Prop where
  c0 : wr.cell? ⟨A, 0, none⟩ = some (.slice (some ⟨G, 0, none⟩) n n)
  c1 : wr.cell? ⟨A, 1, none⟩ = some (.int .i64 0)
  f1 : wr.frozen? ⟨A, 1, none⟩ = false
  row : ∀ i, i < k → wr.cell? ⟨G, i, none⟩ = some (.pointer (some ⟨R i, 0, none⟩))
  cs : ∀ i, i < n → ∃ v, wr.cell? ⟨G, i, none⟩ = some v
  fr : ∀ i, i < n → wr.frozen? ⟨G, i, none⟩ = false
  ring : ∀ i, i < k → RL wr (R i) (Q i) 64 []
  gl : w.heap.size ≤ G
  ga : G < A
  al : A < wr.heap.size
  aq : ∀ i, i < k → A < Q i
  qr : ∀ i, i < k → Q i < R i
  mono : ∀ i j, i < j → j < k → R i < Q j
  rt : ∀ i, i < k → R i < wr.heap.size
  bel : Below w.heap.size w wr
def setN (R : Nat → Nat) (k r : Nat) : Nat → Nat := fun i => if i = k then r else R i
theorem NL.step {w wr w2 w3 : World} {A G n k s : Nat} {R Q : Nat → Nat} (h : NL w wr A G n k R Q) (hk : k < n) (hd : Ch [] wr w2) (hs : s = w2.heap.size) {r : Nat} (hr : RL w3 r s 64 []) (hB : Below s w2 w3) (h1 : s < r) (h2 : r < w3.heap.size) :
    (w3.cell? ⟨A, 0, none⟩ = some (.slice (some ⟨G, 0, none⟩) n n) ∧ (∃ v, w3.cell? ⟨G, k, none⟩ = some v) ∧ w3.frozen? ⟨G, k, none⟩ = false) ∧ NL w (w3.setCell ⟨G, k, none⟩ (.pointer (some ⟨r, 0, none⟩))) A G n (k + 1) (setN R k r) (setN Q k s) := by
  subst hs
  have hc : Ch [] wr w3 := hd.trans (.of_below hB)
  have hA := h.al
  have hga := h.ga
  have hG : G < wr.heap.size := by omega
  have hs2 := hd.size
  obtain ⟨vk, hvk⟩ := h.cs k hk
  have k0 := (hc.cell (p := ⟨A, 0, none⟩) hA (by simp)).trans h.c0
  have k1 := (hc.cell (p := ⟨G, k, none⟩) hG (by simp)).trans hvk
  have k2 := (hc.frozen (p := ⟨G, k, none⟩) hG (by simp)).trans (h.fr k hk)
  have hset : Ch [G] w3 (w3.setCell ⟨G, k, none⟩ (.pointer (some ⟨r, 0, none⟩))) := (Ch.refl [G] w3).setCell (p := ⟨G, k, none⟩) (by simp) _
  have nA : A ∉ [G] := by simp; omega
  have hc' : Ch [G] wr (w3.setCell ⟨G, k, none⟩ (.pointer (some ⟨r, 0, none⟩))) := (hc.mono (by simp)).trans hset
  refine ⟨⟨k0, ⟨vk, k1⟩, k2⟩, ?_⟩
  have e1 : ∀ i, i < k → setN R k r i = R i ∧ setN Q k w2.heap.size i = Q i := fun i hi => by unfold setN; rw [if_neg (by omega), if_neg (by omega)]; exact ⟨rfl, rfl⟩
  have e2 : setN R k r k = r ∧ setN Q k w2.heap.size k = w2.heap.size := by unfold setN; rw [if_pos rfl, if_pos rfl]; exact ⟨rfl, rfl⟩
  refine ⟨(hc'.cell (p := ⟨A, 0, none⟩) hA nA).trans h.c0, (hc'.cell (p := ⟨A, 1, none⟩) hA nA).trans h.c1, (hc'.frozen (p := ⟨A, 1, none⟩) hA nA).trans h.f1, fun i hi => ?_, fun i hi => ?_, fun i hi => ?_, fun i hi => ?_, h.gl, h.ga, Nat.lt_of_lt_of_le hA hc'.size, fun i hi => ?_, fun i hi => ?_, fun i j hij hj => ?_, fun i hi => ?_, ?_⟩
  · by_cases e : i = k
    · subst e; rw [e2.1]; exact setCell_same k1
    · rw [(e1 i (by omega)).1]
      exact setCell_other ((hc.cell (p := ⟨G, i, none⟩) hG (by simp)).trans (h.row i (by omega))) (addr_ne_off (by omega))
  · by_cases e : i = k
    · subst e; exact ⟨_, setCell_same k1⟩
    · obtain ⟨v, hv⟩ := h.cs i hi
      exact ⟨v, setCell_other ((hc.cell (p := ⟨G, i, none⟩) hG (by simp)).trans hv) (addr_ne_off (by omega))⟩
  · simpa using (hc.frozen (p := ⟨G, i, none⟩) hG (by simp)).trans (h.fr i hi)
  · by_cases e : i = k
    · subst e; rw [e2.1, e2.2]; exact hr.ch hset (by simp; omega) (by simp; omega)
    · have hik : i < k := by omega
      rw [(e1 i hik).1, (e1 i hik).2]
      have h3 := h.aq i hik
      have h4 := h.qr i hik
      exact ((h.ring i hik).ch hc (by simp) (by simp)).ch hset (by simp; omega) (by simp; omega)
  · by_cases e : i = k
    · subst e; rw [e2.2]; omega
    · rw [(e1 i (by omega)).2]; exact h.aq i (by omega)
  · by_cases e : i = k
    · subst e; rw [e2.1, e2.2]; exact h1
    · rw [(e1 i (by omega)).1, (e1 i (by omega)).2]; exact h.qr i (by omega)
  · by_cases e : j = k
    · subst e; rw [e2.2, (e1 i hij).1]; have := h.rt i hij; omega
    · rw [(e1 i (by omega)).1, (e1 j (by omega)).2]; exact h.mono i j hij (by omega)
  · have : (w3.setCell ⟨G, k, none⟩ (.pointer (some ⟨r, 0, none⟩))).heap.size = w3.heap.size := by simp [World.setCell]
    rw [this]
    by_cases e : i = k
    · subst e; rw [e2.1]; exact h2
    · rw [(e1 i (by omega)).1]; have := h.rt i (by omega); have := hc.size; omega
  · exact h.bel.trans (hc'.below _ (fun j hj => by simp at hj; have := h.gl; omega) h.bel.size)

theorem new_bad {cpus : Int} (h : cpus < 1 ∨ 64 < cpus) (w : World) :
    Calls Try.prog 7 #[.int .i64 cpus] w fun e w' => e = .returned (.tuple #[.pointer none, .int .i64 2]) ∧ w = w' := by
  rcases Int.lt_or_le cpus 1 with h0 | h0
  · have hd : decide (cpus < 1) = true := decide_eq_true h0
    clear h h0
    go_enter Try.func7, Try.ntmps7
    go_wp2_with fail
    go_ret2
    exact ⟨rfl, rfl⟩
  · have hd : decide (cpus < 1) = false := decide_eq_false (by omega)
    have hd2 : decide (cpus > 64) = true := decide_eq_true (by omega)
    clear h h0
    go_enter Try.func7, Try.ntmps7
    go_wp2_with fail
    go_ret2
    exact ⟨rfl, rfl⟩

/-- What New tells and leaves. -/
def NewR (w : World) (n : Nat) (e : Ending) (w' : World) : Prop :=
  ∃ A G R Q, e = .returned (.tuple #[.pointer (some ⟨A, 0, none⟩), .int .i64 0]) ∧ CL w' w.heap.size w'.heap.size A G n 0 R Q (fun _ => []) ∧ Below w.heap.size w w'
set_option maxRecDepth 100000 in
set_option maxHeartbeats 4000000 in
theorem new_ok {n : Nat} (h0 : 1 ≤ n) (h1 : n ≤ 64) (w : World) :
    Calls Try.prog 7 #[.int .i64 (n : Int)] w (NewR w n) := by
  obtain ⟨i0, hi, hz0, hz1, hz2⟩ := info_parts infoP
  have hd : decide ((n : Int) < 1) = false := decide_eq_false (by omega)
  have hd2 : decide ((n : Int) > 64) = false := decide_eq_false (by omega)
  have hp0 : (0 : Int) ≤ (n : Int) := by omega
  have hbt : Try.prog.built 62 [(0, .slice (some ⟨w.heap.size, 0, none⟩) n n)] = some #[.slice (some ⟨w.heap.size, 0, none⟩) n n, .int .i64 0] := by kernel_rfl
  go_enter Try.func7, Try.ntmps7
  go_wp2_with (first | (at_make; go_must (refine wpList_make_full _ rfl _ _ 60 rfl w.heap.size 63 i0 (.pointer none) 1 Try.underlying60 hi hz0 hz1 _ _ _ _ n rfl rfl rfl rfl (by rw [hz2]; omega) (by unfold maxLen; omega) (Nat.le_refl _) ?_); intro w1 hrow1 hg1) | fail)
  have hst : NL w (w1.alloc (.cells #[.slice (some ⟨w.heap.size, 0, none⟩) n n, .int .i64 0] 62)) w1.heap.size w.heap.size n 0 (fun _ => 0) (fun _ => 0) := by
    have hlt := (hrow1.lt w.heap.size rfl).2
    have hb2 := Box2.new w1 (.slice (some ⟨w.heap.size, 0, none⟩) n n) (.int .i64 0) 62
    refine ⟨hb2.c0, hb2.c1, hb2.f1, fun i hi => by omega, fun i hi => ?_, fun i hi => ?_, fun i hi => by omega, Nat.le_refl _, hlt, by simp, fun i hi => by omega, fun i hi => by omega, fun i j _ hj => by omega, fun i hi => by omega, ((Below.refl _ w).grown hg1 (Nat.le_refl _) (fun j hj => by cases hj)).alloc hg1.size _⟩
    · refine ⟨_, (World.cell?_alloc_past _ _ _ (by exact hlt)).trans ((World.ownsRow.cellAt hrow1 i (by omega)).trans (List.getElem?_eq_getElem (by rw [hrow1.1]; omega)))⟩
    · exact (World.frozen?_alloc_old w1 _ ⟨w.heap.size, i, none⟩ (Nat.ne_of_lt hlt)).trans (World.ownsRow.frozenAt hrow1 i)
  have HSt := Lib.hid hst
  have hc0 := hst.c0
  clear hst hrow1 hg1 hbt hd hd2
  go_wp2_with fail
  go_loopw [21] (fun r wr => ∃ (k : Nat) (R Q : Nat → Nat), k ≤ n ∧ r = .int .i64 (k : Int) ∧ NL w wr w1.heap.size w.heap.size n k R Q) (fun r _ => n - (intOf r).toNat)
  case atStart => exact ⟨0, _, _, Nat.zero_le _, rfl, HSt.out⟩
  case round =>
    obtain ⟨k, R, Q, hk, rfl, hnl⟩ := hrel
    clear hc0
    by_cases hlt : k < n
    · have hlt' : (k : Int) < (n : Int) := by omega
      have HNl := Lib.hid hnl
      have c0 := hnl.c0
      obtain ⟨vk, g0⟩ := hnl.cs k hlt
      have g1 := hnl.fr k hlt
      have HNew := Lib.hid (show Calls Try.prog 21 #[.int .i64 64] wr.drew fun e w' => ∃ R, e = .returned (.tuple #[.pointer (some ⟨R, 0, none⟩), .int .i64 0]) ∧
        RL w' R wr.heap.size 64 [] ∧ Below wr.heap.size wr.drew w' ∧ wr.heap.size < R ∧ R < w'.heap.size from rC.new_l 64 wr.drew (by decide) (by decide))
      clear hnl
      go_wp2_with fail
      go_region_with (with_reducible refine HNew.out.mono ?_; rintro e w3 ⟨r, rfl, hr3, hB3, h3a, h3b⟩; obtain ⟨⟨q0, ⟨vk3, q1⟩, q2⟩, q3⟩ := HNl.out.step (s := wr.heap.size) hlt (w2 := wr.drew) ((Ch.refl [] wr).drew) rfl hr3 hB3 h3a h3b; have HQ3 := Lib.hid q3; clear hr3 hB3 q3)
      all_goals
        go_wp2
        go_roundw
        case rel => exact ⟨k + 1, _, _, by omega, by go_num, HQ3.out⟩
        case measure => simp [intOf]; omega
    · have hlt' : ¬ (k : Int) < (n : Int) := by omega
      go_wp2
      go_ret2
      obtain rfl : k = n := by omega
      exact ⟨_, _, R, Q, rfl, ⟨h0, h1, hnl.c0, hnl.c1, hnl.f1, hnl.row, hnl.ring, hnl.gl, hnl.ga, hnl.aq, hnl.qr, hnl.mono, hnl.rt, Nat.le_refl _⟩, hnl.bel⟩
end Go.Proofs.Ytnnliimjemmekaa
