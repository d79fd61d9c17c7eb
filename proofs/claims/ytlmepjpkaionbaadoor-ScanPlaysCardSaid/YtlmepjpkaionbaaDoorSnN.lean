/-
  The document's answer for scans: New.
-/
import Derived.Test.YtlmepjpkaionbaaDoorSnS
import Derived.Test.YtlmepjpkaionbaaDoorBaseZ
namespace Go.Proofs.YtlmepjpkaionbaaDoor
open Go.RowKit

/-- A new scan of the answer's while its row grows: the block of the result, that of the scan. -/
structure NS (w0 w : World) (R X : Nat) (t : Int) (p : Nat → Bool) (k : Nat) (v : Value) : Prop where
  bx : Tri w X (.int .i64 t) (.int .i64 0) v
  rx : Tri w R (.int .i64 0) (.int .i64 0) (.slice none 0 0)
  row : w.ownsRow (X + 1) 4 1 v k (bls p k)
  lo : w0.heap.size ≤ R ∧ R < X
  ch : Ch [] w0 w
section
variable {w0 w w' : World} {R X : Nat} {t : Int} {p : Nat → Bool} {k : Nat} {v : Value}
theorem Tri.drew {B : Nat} {x y z : Value} (h : Tri w B x y z) : Tri w.drew B x y z := ⟨h.c0, h.c1, h.c2, h.fr⟩
theorem Tri.grown {B : Nat} {x y z : Value} {row : Option Nat} (h : Tri w B x y z) (hg : w.grownBy w' row) (hn : some B ≠ row) : Tri w' B x y z :=
  ⟨hg.cell h.c0 hn, hg.cell h.c1 hn, hg.cell h.c2 hn, fun k => (World.frozen?_of_block (w := w) (a := ⟨B, k, none⟩) (hg.block B h.lt hn)).trans (h.fr k)⟩
theorem NS.drew (h : NS w0 w R X t p k v) : NS w0 w.drew R X t p k v := ⟨h.bx.drew, h.rx.drew, own_ch h.row ((Ch.refl [] w).drew) (by simp), h.lo, h.ch.drew⟩
theorem NS.far (h : NS w0 w R X t p k v) {B : Nat} (hB : B ≤ X) : some B ≠ v.ownBlock := fun e => by
  have := (h.row.lt B e.symm).1
  omega
theorem NS.step (h : NS w0 w R X t p k v) {o : Obj} {w8 : World} {v' : Value} (h8 : w8.ownsRow (X + 1) 4 1 v' (k + 1) (bls p k ++ [.bool (p k)])) (hg : (w.alloc o).grownBy w8 v.ownBlock) :
    Tri w8 X (.int .i64 t) (.int .i64 0) v ∧ NS w0 (w8.setCell ⟨X, 2, none⟩ v') R X t p (k + 1) v' := by
  have hal : Ch [] w (w.alloc o) := (Ch.refl [] w).alloc o
  have hx := (h.bx.quiet hal).grown hg (h.far (Nat.le_refl X))
  have hr := (h.rx.quiet hal).grown hg (h.far (Nat.le_of_lt h.lo.2))
  have hRX := h.lo.2
  have hw : Ch [] w0 (w.alloc o) := h.ch.trans hal
  have hc8 : Ch [] w0 w8 := hw.kept hg (fun r e => by have := (h.row.lt r e).1; have := h.lo; omega)
  have hcs : Ch [X] w8 (w8.setCell ⟨X, 2, none⟩ v') := (Ch.refl _ _).setCell (by simp) _
  refine ⟨hx, ⟨?_, hr.ch hcs (by simp; omega), ?_, h.lo, ?_⟩⟩
  · exact ⟨setCell_other hx.c0 (addr_ne_off (by omega)), setCell_other hx.c1 (addr_ne_off (by omega)), setCell_same hx.c2, fun k => by simpa using hx.fr k⟩
  · rw [bls_succ]
    obtain ⟨h1, h2⟩ := h8
    refine ⟨h1, ?_⟩
    rcases h2 with h2 | ⟨g, cap, cur, rfl, hb, hgr, r⟩
    · exact .inl h2
    · exact .inr ⟨g, cap, cur, rfl, hb, (hcs.block g (Array.getElem?_eq_some_iff.1 hgr).1 (by simp; omega)).trans hgr, r⟩
  · exact hc8.fresh hcs (by have := h.lo; simp; omega)
end

set_option maxRecDepth 100000 in
set_option maxHeartbeats 4000000 in
theorem rnew_any {w : World} {D : Nat} {m : Value} {l : List (Nat × Bool)} (hr : RD w D m l) (hl : l.length ≤ 900) :
    Calls Tryd.prog 9 #[m] w fun e w' => ∃ g cap, e = .returned (rval (runS l).n 0 g cap) ∧ RB w' w.heap.size g cap (inP (runS l)) ∧ Ch [] w w' := by
  obtain ⟨i0, hi, hz0, hz1, hz2⟩ := info_parts infoB
  have hal : Ch [] w (w.alloc (.cells #[.int .i64 0, .int .i64 0, .slice none 0 0] 36)) := (Ch.refl [] w).alloc _
  have C1 := Lib.hid (rstamps_any (hr.quiet hal) (by omega) 0)
  have HR := Lib.hid hr
  have HL := Lib.hid hl
  have TR := Lib.hid (Tri.new w (.int .i64 0) (.int .i64 0) (.slice none 0 0) 36)
  have HC := Lib.hid hal
  obtain ⟨ma, mc, rfl⟩ := hr.form
  obtain ⟨n, hn⟩ : ∃ n, n = l.length := ⟨_, rfl⟩
  rw [← hn] at HR C1 ⊢
  obtain ⟨t, ht⟩ : ∃ t, t = (runS l).n := ⟨_, rfl⟩
  rw [← ht] at C1 ⊢
  generalize sOf (runS l) 0 = s0 at C1
  clear hr hl hal hn ht
  go_enter Tryd.func9, Tryd.ntmps9
  go_wp2_with fail
  with_reducible refine C1.out.mono ?_
  rintro e w2 ⟨rfl, hc⟩
  have TR2 := Lib.hid (TR.out.quiet hc)
  have HC2 := Lib.hid (HC.out.trans hc)
  clear hc C1 TR HC
  go_wp2_with fail
  obtain ⟨R, hR⟩ : ∃ R, R = w.heap.size := ⟨_, rfl⟩
  obtain ⟨X, hX⟩ : ∃ X, X = w2.heap.size := ⟨_, rfl⟩
  obtain ⟨w3, hw3⟩ : ∃ W, W = w2.alloc (.cells #[.int .i64 t, .int .i64 0, .slice none 0 0] 36) := ⟨_, rfl⟩
  have h0 : NS w w3 R X t (inP (runS l)) 0 (.slice none 0 0) := by
    have hal : Ch [] w2 w3 := by rw [hw3]; exact (Ch.refl [] w2).alloc _
    refine ⟨by rw [hw3, hX]; exact Tri.new _ _ _ _ _, by rw [hR]; exact TR2.out.quiet hal, World.ownsRow_nil _ _ _ _, ?_, HC2.out.trans hal⟩
    have := TR2.out.lt
    omega
  rw [← hw3, ← hX, ← hR]
  have H0 := Lib.hid h0
  have HRw := Lib.hid hR
  clear h0 hw3 hX hR TR2 HC2
  go_loopw [6] (fun r wr => ∃ (k : Nat) (v : Value), k ≤ 64 ∧ r = .int .i64 (k : Int) ∧ NS w wr R X t (inP (runS l)) k v) (fun r _ => 64 - (intOf r).toNat)
  case atStart => exact ⟨0, _, by decide, rfl, H0.out⟩
  case round =>
    obtain ⟨k, v, hk, rfl, hns⟩ := hrel
    clear H0
    by_cases hlt : k < 64
    · have hlt' : (k : Int) < 64 := by omega
      obtain ⟨a, cp, rfl⟩ := own_form hns.row
      have c0 := hns.bx.c2
      have HDep := rdepth_any (HR.out.quiet hns.drew.ch) (by have := HL.out; omega) (k : Int)
      rw [dOf_nat _ hlt] at HDep
      replace HDep := Lib.hid HDep
      have HNS := Lib.hid hns.drew
      obtain ⟨b, hb⟩ : ∃ b, b = inP (runS l) k := ⟨_, rfl⟩
      have hgt : decide ((runS l).d k > 0) = b := by rw [hb]; rfl
      have HB := Lib.hid hb
      have hsz : X + 1 ≤ wr.heap.size := by have := hns.bx.lt; omega
      generalize (runS l).d k = d at *
      clear hns hb
      go_wp2_with fail
      refine wp_region_noPanic ?_
      refine wp_region_lastL _ (by kernel_rfl) rfl (by kernel_rfl) (fun w' => w'.cell? ⟨X, 2, none⟩ = some (.slice a k cp)) c0 (fun hHeld => ?_)
      simp only [List.dropLast_cons_cons, List.dropLast_singleton, List.length_cons, List.length_nil]
      refine wpAnyH_take (i := 0) (v := ?v1_0) rfl (by kernel_rfl) (by kernel_rfl) (by kernel_rfl) (fun _ _ _ h => h) (Or.inl ⟨by rfl, ?y1_0⟩) (by assumption) ?_
      case y1_0 => intro w hSw; have s0 : w.cell? ⟨X, 2, none⟩ = some (.slice a k cp) := hSw; go_simp; try with_reducible rfl
      try simp only [Act.put, List.getElem_toArray, List.getElem_cons_zero, List.setIfInBounds_toArray, List.set_cons_zero, List.set_cons_succ]
      refine wpAnyH_take (i := 1) (v := ?v1_1) rfl (by kernel_rfl) (by kernel_rfl) (by kernel_rfl) (fun _ _ _ h => h) (Or.inl ⟨by rfl, ?y1_1⟩) (by assumption) ?_
      case y1_1 => intro w hSw; have s0 : w.cell? ⟨X, 2, none⟩ = some (.slice a k cp) := hSw; go_simp; try with_reducible rfl
      try simp only [Act.put, List.getElem_toArray, List.getElem_cons_succ, List.getElem_cons_zero, List.setIfInBounds_toArray, List.set_cons_zero, List.set_cons_succ]
      refine wpAnyH_take (i := 2) (v := ?v1_2) rfl (by kernel_rfl) (by kernel_rfl) (by kernel_rfl) (fun _ _ _ h => h) (Or.inl ⟨by rfl, ?y1_2⟩) (by assumption) ?_
      case y1_2 => intro w hSw; have s0 : w.cell? ⟨X, 2, none⟩ = some (.slice a k cp) := hSw; go_simp; try with_reducible rfl
      try simp only [Act.put, List.getElem_toArray, List.getElem_cons_succ, List.getElem_cons_zero, List.setIfInBounds_toArray, List.set_cons_zero, List.set_cons_succ]
      refine wpAnyH_take (i := 3) (v := ?v1_3) rfl (by kernel_rfl) (by kernel_rfl) (by kernel_rfl) (fun _ _ _ h => h) (Or.inl ⟨by rfl, ?y1_3⟩) (by assumption) ?_
      case y1_3 => intro w hSw; have s0 : w.cell? ⟨X, 2, none⟩ = some (.slice a k cp) := hSw; go_simp; try with_reducible rfl
      try simp only [Act.put, List.getElem_toArray, List.getElem_cons_succ, List.getElem_cons_zero, List.setIfInBounds_toArray, List.set_cons_zero, List.set_cons_succ]
      try simp only [Act.put, List.getElem_toArray, List.getElem_cons_succ, List.getElem_cons_zero, List.setIfInBounds_toArray, List.set_cons_zero, List.set_cons_succ]
      refine wpAnyH_ready (rs := [4]) (by kernel_rfl) (by simp) ?_
      refine AllReadyH.cons rfl (fun K hK => ?_) AllReadyH.nil
      go_simp
      with_reducible refine HDep.out.mono ?_
      rintro e w' ⟨rfl, rfl⟩
      have e0 : wr.drew.cell? ⟨X, 2, none⟩ = some (.slice a k cp) := c0
      refine hK.out _ _ e0 (fun hHeld => ?_)
      clear hK K HDep
      try simp only [Act.put, List.getElem_toArray, List.getElem_cons_succ, List.getElem_cons_zero, List.setIfInBounds_toArray, List.set_cons_zero, List.set_cons_succ]
      refine wpAnyH_take (i := 5) (v := ?v1_5) rfl (by kernel_rfl) (by kernel_rfl) (by kernel_rfl) (fun _ _ _ h => h) (Or.inl ⟨by rfl, ?y1_5⟩) (by assumption) ?_
      case y1_5 => intro w hSw; have s0 : w.cell? ⟨X, 2, none⟩ = some (.slice a k cp) := hSw; go_simp; try with_reducible rfl
      try simp only [Act.put, List.getElem_toArray, List.getElem_cons_succ, List.getElem_cons_zero, List.setIfInBounds_toArray, List.set_cons_zero, List.set_cons_succ]
      have e9 : (wr.drew.alloc (.cells #[.bool b] 4)).cell? ⟨X, 2, none⟩ = some (.slice a k cp) := Mk.cell_allocd (.cells #[.bool b] 4) e0
      try simp only [Act.put, List.getElem_toArray, List.getElem_cons_succ, List.getElem_cons_zero, List.setIfInBounds_toArray, List.set_cons_zero, List.set_cons_succ]
      refine wpAnyH_ready (rs := [6]) (by kernel_rfl) (by simp) ?_
      refine AllReadyH.cons rfl (fun K hK => ?_) AllReadyH.nil
      go_simp
      refine hK.out _ _ e9 (fun hHeld => ?_)
      clear hK K
      try simp only [Act.put, List.getElem_toArray, List.getElem_cons_succ, List.getElem_cons_zero, List.setIfInBounds_toArray, List.set_cons_zero, List.set_cons_succ]
      refine wpAnyH_ready (rs := [7]) (by kernel_rfl) (by simp) ?_
      refine AllReadyH.cons rfl (fun K hK => ?_) AllReadyH.nil
      refine step_append_own rfl (.tmp 19) (.tmp 24) 34 rfl (X + 1) 4 i0 (.bool false) 1 1 Tryd.underlying34 hi hz0 hz1 hz2 rfl (by decide) (.slice a k cp) k (bls (inP (runS l)) k) (by simp [Act.eval]) (HNS.out.row.alloc _) ⟨wr.heap.size, 0, none⟩ 1 1 [.bool b] (by simp [Act.eval]) rfl (One.new wr.drew (.bool b) 4).news (by simp [Value.oneCell']) (by unfold maxLen; omega) (by omega) (by simp; omega) ?_
      intro v' w8 hown8 hg8 _
      obtain ⟨a8, c8, rfl⟩ := own_form hown8
      obtain ⟨t8, hns8⟩ := HNS.out.step (by rw [← HB.out]; exact hown8) hg8
      have e1 := t8.c2
      have f1 := t8.fr 2
      have HNs8 := Lib.hid hns8
      clear hown8 hg8 t8 hns8
      refine hK.out _ _ e1 (fun hHeld => ?_)
      clear hK K
      try simp only [Act.put, List.getElem_toArray, List.getElem_cons_succ, List.getElem_cons_zero, List.setIfInBounds_toArray, List.set_cons_zero, List.set_cons_succ]
      refine wpAnyH_take (i := 8) (v := ?v1_8) rfl (by kernel_rfl) (by kernel_rfl) (by kernel_rfl) (fun _ _ _ h => h) (Or.inl ⟨by rfl, ?y1_8⟩) (by assumption) ?_
      case y1_8 => intro w hSw; have s0 : w.cell? ⟨X, 2, none⟩ = some (.slice a k cp) := hSw; go_simp; try with_reducible rfl
      try simp only [Act.put, List.getElem_toArray, List.getElem_cons_succ, List.getElem_cons_zero, List.setIfInBounds_toArray, List.set_cons_zero, List.set_cons_succ]
      refine wpAnyH_done (by kernel_rfl) ?_ _
      unfold lastPost
      simp only []
      go_simp
      refine NoPanic.normal ?_
      go_wp2_with fail
      go_roundw
      case rel => exact ⟨k + 1, _, by omega, by go_num, HNs8.out⟩
      case measure => simp [intOf]; omega
    · obtain rfl : k = 64 := by omega
      obtain ⟨a, cp, rfl⟩ := own_form hns.row
      obtain ⟨g, rfl, hg1, hg2, _, _⟩ := own_cells hns.row 0 (by decide)
      obtain ⟨x0, x1, x2, -⟩ := hns.bx
      obtain ⟨r0, r1, r2, rf⟩ := hns.rx
      have f0 := rf 0
      have f1 := rf 1
      have f2 := rf 2
      have T3 := Lib.hid (hns.rx.set (.int .i64 t) (.int .i64 0) (.slice (some ⟨g, 0, none⟩) 64 cp))
      have HC := Lib.hid (ch_set3 hns.ch hns.lo.1 (.int .i64 t) (.int .i64 0) (.slice (some ⟨g, 0, none⟩) 64 cp))
      have HCr := Lib.hid (show Ch [R] wr (((wr.setCell ⟨R, 0, none⟩ (.int .i64 t)).setCell ⟨R, 1, none⟩ (.int .i64 0)).setCell ⟨R, 2, none⟩ (.slice (some ⟨g, 0, none⟩) 64 cp)) from (((Ch.refl _ wr).setCell (by simp) _).setCell (by simp) _).setCell (by simp) _)
      have HRow := Lib.hid hns.row
      have HLo := Lib.hid (show w.heap.size ≤ X + 1 ∧ R < g by have := hns.lo; omega)
      clear hns rf hg1 hg2 hlt
      go_wp2_with fail
      refine bodyPost_ret (v := rval t 0 g cp) ?_ rfl ?_
      · have k0 := T3.out.c0
        have k1 := T3.out.c1
        have k2 := T3.out.c2
        simp [results, Tryd.f9, go_sem, k0, k1, k2]
      · exact ⟨g, cp, rfl, ((RB.mk HRow.out).away HCr.out (by have := HLo.out.2; simp; omega)).mono HLo.out.1, HC.out⟩
end Go.Proofs.YtlmepjpkaionbaaDoor
