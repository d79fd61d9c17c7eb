/-
  The document's answer for scans: New.
  The document's answer for scans: Poll.
-/
import Derived.Test.YtjoaigadlpndcaaGreatDoorMgK
import Derived.Test.YtjoaigadlpndcaaGreatDoorMgA
import Derived.Maps.RangeWalk
namespace Go.Proofs.YtjoaigadlpndcaaGreatDoor
open Go.RowKit

/-- A new scan of the answer's while its row grows: the block of the result, that of the scan. -/
structure NS (w0 w : World) (R X : Nat) (t : Int) (p : Nat → Bool) (k : Nat) (v : Value) : Prop where
  bx : Tri w X (.int .i64 t) (.int .i64 0) v
  rx : Tri w R (.int .i64 0) (.int .i64 0) (.slice none 0 0)
  row : w.ownsRow (X + 1) 4 1 v k (bls p k)
  lo : w0.heap.size ≤ R ∧ R < X
  ch : Ch [] w0 w
section
variable {w0 w w' : World} {R X : Nat} {t : Int} {p : Nat → Bool} {k : Nat} {v : Value}
theorem Tri.drew {B : Nat} {x y z : Value} (h : Tri w B x y z) : Tri w.drew B x y z := ⟨h.c0, h.c1, h.c2, h.fr⟩
theorem Tri.grown {B : Nat} {x y z : Value} {row : Option Nat} (h : Tri w B x y z) (hg : w.grownBy w' row) (hn : some B ≠ row) : Tri w' B x y z :=
  ⟨hg.cell h.c0 hn, hg.cell h.c1 hn, hg.cell h.c2 hn, fun k => (World.frozen?_of_block (w := w) (a := ⟨B, k, none⟩) (hg.block B h.lt hn)).trans (h.fr k)⟩
theorem NS.drew (h : NS w0 w R X t p k v) : NS w0 w.drew R X t p k v := ⟨h.bx.drew, h.rx.drew, own_ch h.row ((Ch.refl [] w).drew) (by simp), h.lo, h.ch.drew⟩
theorem NS.far (h : NS w0 w R X t p k v) {B : Nat} (hB : B ≤ X) : some B ≠ v.ownBlock := fun e => by
  have := (h.row.lt B e.symm).1
  omega
theorem NS.step (h : NS w0 w R X t p k v) {o : Obj} {w8 : World} {v' : Value} (h8 : w8.ownsRow (X + 1) 4 1 v' (k + 1) (bls p k ++ [.bool (p k)])) (hg : (w.alloc o).grownBy w8 v.ownBlock) :
    Tri w8 X (.int .i64 t) (.int .i64 0) v ∧ NS w0 (w8.setCell ⟨X, 2, none⟩ v') R X t p (k + 1) v' := by
  have hal : Ch [] w (w.alloc o) := (Ch.refl [] w).alloc o
  have hx := (h.bx.quiet hal).grown hg (h.far (Nat.le_refl X))
  have hr := (h.rx.quiet hal).grown hg (h.far (Nat.le_of_lt h.lo.2))
  have hRX := h.lo.2
  have hw : Ch [] w0 (w.alloc o) := h.ch.trans hal
  have hc8 : Ch [] w0 w8 := hw.kept hg (fun r e => by have := (h.row.lt r e).1; have := h.lo; omega)
  have hcs : Ch [X] w8 (w8.setCell ⟨X, 2, none⟩ v') := (Ch.refl _ _).setCell (by simp) _
  refine ⟨hx, ⟨?_, hr.ch hcs (by simp; omega), ?_, h.lo, ?_⟩⟩
  · exact ⟨setCell_other hx.c0 (addr_ne_off (by omega)), setCell_other hx.c1 (addr_ne_off (by omega)), setCell_same hx.c2, fun k => by simpa using hx.fr k⟩
  · rw [bls_succ]
    obtain ⟨h1, h2⟩ := h8
    refine ⟨h1, ?_⟩
    rcases h2 with h2 | ⟨g, cap, cur, rfl, hb, hgr, r⟩
    · exact .inl h2
    · exact .inr ⟨g, cap, cur, rfl, hb, (hcs.block g (Array.getElem?_eq_some_iff.1 hgr).1 (by simp; omega)).trans hgr, r⟩
  · exact hc8.fresh hcs (by have := h.lo; simp; omega)
end

set_option maxRecDepth 100000 in
set_option maxHeartbeats 4000000 in
theorem rnew_any {w : World} {D : Nat} {m : Value} {l : List (Nat × Bool)} (hr : RD w D m l) (hl : l.length ≤ 900) :
    Calls Tryz.prog 44 #[m] w fun e w' => ∃ g cap, e = .returned (rval (runS l).n 0 g cap) ∧ RB w' w.heap.size g cap (inP (runS l)) ∧ Ch [] w w' := by
  obtain ⟨i0, hi, hz0, hz1, hz2⟩ := info_parts infoB
  have hal : Ch [] w (w.alloc (.cells #[.int .i64 0, .int .i64 0, .slice none 0 0] 34)) := (Ch.refl [] w).alloc _
  have C1 := Lib.hid (rstamps_any (hr.quiet hal) (by omega) 0)
  have HR := Lib.hid hr
  have HL := Lib.hid hl
  have TR := Lib.hid (Tri.new w (.int .i64 0) (.int .i64 0) (.slice none 0 0) 34)
  have HC := Lib.hid hal
  obtain ⟨ma, mc, rfl⟩ := hr.form
  obtain ⟨n, hn⟩ : ∃ n, n = l.length := ⟨_, rfl⟩
  rw [← hn] at HR C1 ⊢
  obtain ⟨t, ht⟩ : ∃ t, t = (runS l).n := ⟨_, rfl⟩
  rw [← ht] at C1 ⊢
  generalize sOf (runS l) 0 = s0 at C1
  clear hr hl hal hn ht
  go_enter Tryz.func44, Tryz.ntmps44
  go_wp2_with fail
  with_reducible refine C1.out.mono ?_
  rintro e w2 ⟨rfl, hc⟩
  have TR2 := Lib.hid (TR.out.quiet hc)
  have HC2 := Lib.hid (HC.out.trans hc)
  clear hc C1 TR HC
  go_wp2_with fail
  obtain ⟨R, hR⟩ : ∃ R, R = w.heap.size := ⟨_, rfl⟩
  obtain ⟨X, hX⟩ : ∃ X, X = w2.heap.size := ⟨_, rfl⟩
  obtain ⟨w3, hw3⟩ : ∃ W, W = w2.alloc (.cells #[.int .i64 t, .int .i64 0, .slice none 0 0] 34) := ⟨_, rfl⟩
  have h0 : NS w w3 R X t (inP (runS l)) 0 (.slice none 0 0) := by
    have hal : Ch [] w2 w3 := by rw [hw3]; exact (Ch.refl [] w2).alloc _
    refine ⟨by rw [hw3, hX]; exact Tri.new _ _ _ _ _, by rw [hR]; exact TR2.out.quiet hal, World.ownsRow_nil _ _ _ _, ?_, HC2.out.trans hal⟩
    have := TR2.out.lt
    omega
  rw [← hw3, ← hX, ← hR]
  have H0 := Lib.hid h0
  have HRw := Lib.hid hR
  clear h0 hw3 hX hR TR2 HC2
  go_loopw [6] (fun r wr => ∃ (k : Nat) (v : Value), k ≤ 64 ∧ r = .int .i64 (k : Int) ∧ NS w wr R X t (inP (runS l)) k v) (fun r _ => 64 - (intOf r).toNat)
  case atStart => exact ⟨0, _, by decide, rfl, H0.out⟩
  case round =>
    obtain ⟨k, v, hk, rfl, hns⟩ := hrel
    clear H0
    by_cases hlt : k < 64
    · have hlt' : (k : Int) < 64 := by omega
      obtain ⟨a, cp, rfl⟩ := own_form hns.row
      have c0 := hns.bx.c2
      have HDep := rdepth_any (HR.out.quiet hns.drew.ch) (by have := HL.out; omega) (k : Int)
      rw [dOf_nat _ hlt] at HDep
      replace HDep := Lib.hid HDep
      have HNS := Lib.hid hns.drew
      obtain ⟨b, hb⟩ : ∃ b, b = inP (runS l) k := ⟨_, rfl⟩
      have hgt : decide ((runS l).d k > 0) = b := by rw [hb]; rfl
      have HB := Lib.hid hb
      have hsz : X + 1 ≤ wr.heap.size := by have := hns.bx.lt; omega
      generalize (runS l).d k = d at *
      clear hns hb
      go_wp2_with fail
      refine wp_region_noPanic ?_
      refine wp_region_lastL _ (by kernel_rfl) rfl (by kernel_rfl) (fun w' => w'.cell? ⟨X, 2, none⟩ = some (.slice a k cp)) c0 (fun hHeld => ?_)
      simp only [List.dropLast_cons_cons, List.dropLast_singleton, List.length_cons, List.length_nil]
      refine wpAnyH_take (i := 0) (v := ?v1_0) rfl (by kernel_rfl) (by kernel_rfl) (by kernel_rfl) (fun _ _ _ h => h) (Or.inl ⟨by rfl, ?y1_0⟩) (by assumption) ?_
      case y1_0 => intro w hSw; have s0 : w.cell? ⟨X, 2, none⟩ = some (.slice a k cp) := hSw; go_simp; try with_reducible rfl
      try simp only [Act.put, List.getElem_toArray, List.getElem_cons_zero, List.setIfInBounds_toArray, List.set_cons_zero, List.set_cons_succ]
      refine wpAnyH_take (i := 1) (v := ?v1_1) rfl (by kernel_rfl) (by kernel_rfl) (by kernel_rfl) (fun _ _ _ h => h) (Or.inl ⟨by rfl, ?y1_1⟩) (by assumption) ?_
      case y1_1 => intro w hSw; have s0 : w.cell? ⟨X, 2, none⟩ = some (.slice a k cp) := hSw; go_simp; try with_reducible rfl
      try simp only [Act.put, List.getElem_toArray, List.getElem_cons_succ, List.getElem_cons_zero, List.setIfInBounds_toArray, List.set_cons_zero, List.set_cons_succ]
      refine wpAnyH_take (i := 2) (v := ?v1_2) rfl (by kernel_rfl) (by kernel_rfl) (by kernel_rfl) (fun _ _ _ h => h) (Or.inl ⟨by rfl, ?y1_2⟩) (by assumption) ?_
      case y1_2 => intro w hSw; have s0 : w.cell? ⟨X, 2, none⟩ = some (.slice a k cp) := hSw; go_simp; try with_reducible rfl
      try simp only [Act.put, List.getElem_toArray, List.getElem_cons_succ, List.getElem_cons_zero, List.setIfInBounds_toArray, List.set_cons_zero, List.set_cons_succ]
      refine wpAnyH_take (i := 3) (v := ?v1_3) rfl (by kernel_rfl) (by kernel_rfl) (by kernel_rfl) (fun _ _ _ h => h) (Or.inl ⟨by rfl, ?y1_3⟩) (by assumption) ?_
      case y1_3 => intro w hSw; have s0 : w.cell? ⟨X, 2, none⟩ = some (.slice a k cp) := hSw; go_simp; try with_reducible rfl
      try simp only [Act.put, List.getElem_toArray, List.getElem_cons_succ, List.getElem_cons_zero, List.setIfInBounds_toArray, List.set_cons_zero, List.set_cons_succ]
      try simp only [Act.put, List.getElem_toArray, List.getElem_cons_succ, List.getElem_cons_zero, List.setIfInBounds_toArray, List.set_cons_zero, List.set_cons_succ]
      refine wpAnyH_ready (rs := [4]) (by kernel_rfl) (by simp) ?_
      refine AllReadyH.cons rfl (fun K hK => ?_) AllReadyH.nil
      go_simp
      with_reducible refine HDep.out.mono ?_
      rintro e w' ⟨rfl, rfl⟩
      have e0 : wr.drew.cell? ⟨X, 2, none⟩ = some (.slice a k cp) := c0
      refine hK.out _ _ e0 (fun hHeld => ?_)
      clear hK K HDep
      try simp only [Act.put, List.getElem_toArray, List.getElem_cons_succ, List.getElem_cons_zero, List.setIfInBounds_toArray, List.set_cons_zero, List.set_cons_succ]
      refine wpAnyH_take (i := 5) (v := ?v1_5) rfl (by kernel_rfl) (by kernel_rfl) (by kernel_rfl) (fun _ _ _ h => h) (Or.inl ⟨by rfl, ?y1_5⟩) (by assumption) ?_
      case y1_5 => intro w hSw; have s0 : w.cell? ⟨X, 2, none⟩ = some (.slice a k cp) := hSw; go_simp; try with_reducible rfl
      try simp only [Act.put, List.getElem_toArray, List.getElem_cons_succ, List.getElem_cons_zero, List.setIfInBounds_toArray, List.set_cons_zero, List.set_cons_succ]
      have e9 : (wr.drew.alloc (.cells #[.bool b] 4)).cell? ⟨X, 2, none⟩ = some (.slice a k cp) := Mk.cell_allocd (.cells #[.bool b] 4) e0
      try simp only [Act.put, List.getElem_toArray, List.getElem_cons_succ, List.getElem_cons_zero, List.setIfInBounds_toArray, List.set_cons_zero, List.set_cons_succ]
      refine wpAnyH_ready (rs := [6]) (by kernel_rfl) (by simp) ?_
      refine AllReadyH.cons rfl (fun K hK => ?_) AllReadyH.nil
      go_simp
      refine hK.out _ _ e9 (fun hHeld => ?_)
      clear hK K
      try simp only [Act.put, List.getElem_toArray, List.getElem_cons_succ, List.getElem_cons_zero, List.setIfInBounds_toArray, List.set_cons_zero, List.set_cons_succ]
      refine wpAnyH_ready (rs := [7]) (by kernel_rfl) (by simp) ?_
      refine AllReadyH.cons rfl (fun K hK => ?_) AllReadyH.nil
      refine step_append_own rfl (.tmp 19) (.tmp 24) 32 rfl (X + 1) 4 i0 (.bool false) 1 1 Tryz.underlying32 hi hz0 hz1 hz2 rfl (by decide) (.slice a k cp) k (bls (inP (runS l)) k) (by simp [Act.eval]) (HNS.out.row.alloc _) ⟨wr.heap.size, 0, none⟩ 1 1 [.bool b] (by simp [Act.eval]) rfl (One.new wr.drew (.bool b) 4).news (by simp [Value.oneCell']) (by unfold maxLen; omega) (by omega) (by simp; omega) ?_
      intro v' w8 hown8 hg8 _
      obtain ⟨a8, c8, rfl⟩ := own_form hown8
      obtain ⟨t8, hns8⟩ := HNS.out.step (by rw [← HB.out]; exact hown8) hg8
      have e1 := t8.c2
      have f1 := t8.fr 2
      have HNs8 := Lib.hid hns8
      clear hown8 hg8 t8 hns8
      refine hK.out _ _ e1 (fun hHeld => ?_)
      clear hK K
      try simp only [Act.put, List.getElem_toArray, List.getElem_cons_succ, List.getElem_cons_zero, List.setIfInBounds_toArray, List.set_cons_zero, List.set_cons_succ]
      refine wpAnyH_take (i := 8) (v := ?v1_8) rfl (by kernel_rfl) (by kernel_rfl) (by kernel_rfl) (fun _ _ _ h => h) (Or.inl ⟨by rfl, ?y1_8⟩) (by assumption) ?_
      case y1_8 => intro w hSw; have s0 : w.cell? ⟨X, 2, none⟩ = some (.slice a k cp) := hSw; go_simp; try with_reducible rfl
      try simp only [Act.put, List.getElem_toArray, List.getElem_cons_succ, List.getElem_cons_zero, List.setIfInBounds_toArray, List.set_cons_zero, List.set_cons_succ]
      refine wpAnyH_done (by kernel_rfl) ?_ _
      unfold lastPost
      simp only []
      go_simp
      refine NoPanic.normal ?_
      go_wp2_with fail
      go_roundw
      case rel => exact ⟨k + 1, _, by omega, by go_num, HNs8.out⟩
      case measure => simp [intOf]; omega
    · obtain rfl : k = 64 := by omega
      obtain ⟨a, cp, rfl⟩ := own_form hns.row
      obtain ⟨g, rfl, hg1, hg2, _, _⟩ := own_cells hns.row 0 (by decide)
      obtain ⟨x0, x1, x2, -⟩ := hns.bx
      obtain ⟨r0, r1, r2, rf⟩ := hns.rx
      have f0 := rf 0
      have f1 := rf 1
      have f2 := rf 2
      have T3 := Lib.hid (hns.rx.set (.int .i64 t) (.int .i64 0) (.slice (some ⟨g, 0, none⟩) 64 cp))
      have HC := Lib.hid (ch_set3 hns.ch hns.lo.1 (.int .i64 t) (.int .i64 0) (.slice (some ⟨g, 0, none⟩) 64 cp))
      have HCr := Lib.hid (show Ch [R] wr (((wr.setCell ⟨R, 0, none⟩ (.int .i64 t)).setCell ⟨R, 1, none⟩ (.int .i64 0)).setCell ⟨R, 2, none⟩ (.slice (some ⟨g, 0, none⟩) 64 cp)) from (((Ch.refl _ wr).setCell (by simp) _).setCell (by simp) _).setCell (by simp) _)
      have HRow := Lib.hid hns.row
      have HLo := Lib.hid (show w.heap.size ≤ X + 1 ∧ R < g by have := hns.lo; omega)
      clear hns rf hg1 hg2 hlt
      go_wp2_with fail
      refine bodyPost_ret (v := rval t 0 g cp) ?_ rfl ?_
      · have k0 := T3.out.c0
        have k1 := T3.out.c1
        have k2 := T3.out.c2
        simp [results, Tryz.f44, go_sem, k0, k1, k2]
      · exact ⟨g, cp, rfl, ((RB.mk HRow.out).away HCr.out (by have := HLo.out.2; simp; omega)).mono HLo.out.1, HC.out⟩
end Go.Proofs.YtjoaigadlpndcaaGreatDoor
namespace Go.Proofs.YtjoaigadlpndcaaGreatDoor
open Go.RowKit Go.Maps

/-- The first k of the order. -/
def ordT (P : Nat) (p : Nat → Bool) (k : Nat) : List Nat := ((List.range k).map fun i => (P + i) % 64).filter p
theorem ordT_succ (P : Nat) (p : Nat → Bool) (k : Nat) : ordT P p (k + 1) = if p ((P + k) % 64) = true then ordT P p k ++ [(P + k) % 64] else ordT P p k := by
  unfold ordT
  rw [List.range_succ, List.map_append, List.filter_append]
  cases h : p ((P + k) % 64) <;> simp [h]
theorem ordT_len (P : Nat) (p : Nat → Bool) (k : Nat) : (ordT P p k).length ≤ k := by
  have := List.length_filter_le p ((List.range k).map fun i => (P + i) % 64)
  simpa [ordT] using this
theorem ivs_snoc (l : List Nat) (q : Nat) : Mk.ivs (l ++ [q]) = Mk.ivs l ++ [.int .i64 (q : Int)] := by simp [Mk.ivs]
theorem lookL_nat {e : Int → Bool} {p : Nat → Bool} {r : Nat} (hr : r < 64) : (if lookB e p (r : Int) = true then rmv p (r : Int) else p) = if e (r : Int) = true then rmv p (r : Int) else p := by
  unfold lookB
  rw [decide_eq_true (show 0 ≤ (r : Int) ∧ (r : Int) < 64 by omega), Bool.true_and, Int.toNat_natCast]
  cases he : e (r : Int)
  · simp
  · rw [Bool.and_true, if_pos rfl]
    cases hp : p r
    · rw [if_neg (by decide), rmv_none fun i hi => by rw [show i = r by omega]; exact hp]
    · rw [if_pos rfl]
theorem RD.other {w w' : World} {D B : Nat} {m : Value} {l : List (Nat × Bool)} (h : RD w D m l) (hc : Ch [B] w w') (hB : m.ownBlock ≠ some B) : RD w' D m l := h.away hc (fun k hk e => hB (by rw [e, List.mem_singleton.1 hk]))
theorem Tri.put1 {w : World} {B : Nat} {x y z : Value} (h : Tri w B x y z) (y' : Value) : Tri (w.setCell ⟨B, 1, none⟩ y') B x y' z :=
  ⟨setCell_other h.c0 (addr_ne_off (by omega)), setCell_same h.c1, setCell_other h.c2 (addr_ne_off (by omega)), fun k => by simpa using h.fr k⟩
/-- The numbers of a row of the call's own. -/
theorem ints_of_row {w : World} {B : Nat} {a : Option Addr} {cap n : Nat} {l : List Nat} (h : w.ownsRow B 3 1 (.slice a n cap) n (Mk.ivs l)) (hn : n = l.length) :
    Mk.IntsAt w a (l.map fun (i : Nat) => (i : Int)) ∧ ∀ y, a = some y → B ≤ y.block := by
  subst hn
  constructor
  · by_cases h0 : l.length = 0
    · exact .inl (by rw [List.eq_nil_of_length_eq_zero h0]; rfl)
    · obtain ⟨g, rfl, _, _, _, _⟩ := own_cells h 0 (by omega)
      refine .inr ⟨g, 0, rfl, fun i hi => ?_⟩
      rw [List.length_map] at hi
      obtain ⟨g', e, _, _, _, hc⟩ := own_cells h i (by omega)
      cases e
      rw [Nat.zero_add, hc i (by omega), Mk.ivs, List.getElem?_map, List.getElem?_map, List.getElem?_eq_getElem hi]
      rfl
  · intro y hy
    subst hy
    rcases h.2 with ⟨h', _⟩ | ⟨g, cp, cur, h', hb', _⟩
    · cases h'
    · cases h'; exact hb'

set_option maxRecDepth 100000 in
set_option maxHeartbeats 4000000 in
theorem rpoll_any {w : World} {D g cap : Nat} {p : Nat → Bool} (h : RB w D g cap p) {m : Value} {l : List (Nat × Bool)} (hr : RD w D m l) (hl : l.length ≤ 900) (hD : D ≤ w.heap.size) (t : Int) {P : Nat} (hP : P < 64) (n : Int) :
    Calls Tryz.prog 39 #[rval t P g cap, m, .int .i64 n] w fun e w' => ∃ g' cap', e = .returned (rval t (pollP P p n) g' cap') ∧ RB w' D g' cap' (pollL (endF t (runS l)) P p n) ∧ (g' = g ∨ w.heap.size ≤ g') ∧ Ch [] w w' := by
  obtain ⟨i0, hI, hz0, hz1, hz2⟩ := info_parts Mk.infoInt
  have HH := Lib.hid h
  have HR := Lib.hid hr
  have HL := Lib.hid hl
  have HD := Lib.hid hD
  have HP := Lib.hid hP
  have HM := Lib.hid (fun (j : Nat) (e : m.ownBlock = some j) => (hr.row.lt j e).2)
  have HG := Lib.hid h.lo.2
  obtain ⟨a, mc, rfl⟩ := hr.form
  obtain ⟨ln, hln⟩ : ∃ n, n = l.length := ⟨_, rfl⟩
  rw [← hln] at HR HM ⊢
  clear h hr hl hD hln
  go_enter Tryz.func39, Tryz.ntmps39
  go_wp2_with fail
  obtain ⟨B, hB⟩ : ∃ B, B = w.heap.size := ⟨_, rfl⟩
  obtain ⟨w1, hw1⟩ : ∃ W, W = (w.alloc (.cells #[.int .i64 t, .int .i64 (P : Int), .slice (some ⟨g, 0, none⟩) 64 cap] 34)).alloc (.cells #[.int .i64 0, .int .i64 0, .slice none 0 0] 34) := ⟨_, rfl⟩
  have T1 := (Tri.new w (.int .i64 t) (.int .i64 (P : Int)) (.slice (some ⟨g, 0, none⟩) 64 cap) 34).quiet ((Ch.refl [] _).alloc (.cells #[.int .i64 0, .int .i64 0, .slice none 0 0] 34))
  have T2 := Tri.new (w.alloc (.cells #[.int .i64 t, .int .i64 (P : Int), .slice (some ⟨g, 0, none⟩) 64 cap] 34)) (.int .i64 0) (.int .i64 0) (.slice none 0 0) 34
  rw [World.size_alloc, ← hw1, ← hB] at T2
  rw [← hw1, ← hB] at T1
  have hal : Ch [] w w1 := by rw [hw1]; exact ((Ch.refl [] w).alloc _).alloc _
  rw [← hw1, ← hB]
  replace T1 := Lib.hid T1
  replace T2 := Lib.hid T2
  have HC1 := Lib.hid hal
  have HBw := Lib.hid hB
  have hRs : B + 1 + 1 ≤ w1.heap.size := by have := T2.out.lt; omega
  have HRs2 := Lib.hid (show w1.heap.size ≤ B + 1 + 1 by rw [hw1, hB]; simp)
  clear hw1 hB hal
  go_loopw [7, 8] (fun v i wr => ∃ k : Nat, k ≤ 64 ∧ i = .int .i64 (k : Int) ∧ wr.ownsRow (B + 1 + 1) 3 1 v (ordT P p k).length (Mk.ivs (ordT P p k)) ∧ Ch [] w1 wr) (fun _ i _ => 64 - (intOf i).toNat)
  case atStart => exact ⟨0, by decide, rfl, World.ownsRow_nil _ _ _ _, Ch.refl _ _⟩
  case round =>
    rename_i v _
    obtain ⟨k, hk, rfl, hrow, hc⟩ := hrel
    obtain ⟨oa, ocap, rfl⟩ := own_form hrow
    by_cases hlt : k < 64
    · have hlt' : (k : Int) < 64 := by omega
      obtain ⟨q, hq⟩ : ∃ q, q = (P + k) % 64 := ⟨_, rfl⟩
      have hq64 : q < 64 := by omega
      have hq64' : (q : Int) < 64 := by omega
      have hw1 : IntKind.i64.wrap ((P : Int) + (k : Int)) = (P : Int) + (k : Int) := IntWalk.i64_in _ (by omega)
      have htm : Int.tmod ((P : Int) + (k : Int)) 64 = (q : Int) := by rw [Int.tmod_eq_emod_of_nonneg (by omega)]; omega
      have hwq : IntKind.i64.wrap (q : Int) = (q : Int) := IntWalk.i64_in _ (by omega)
      have hst := ordT_succ P p k
      rw [← hq] at hst
      have hol := ordT_len P p k
      have c0 := (HH.out.quiet (HC1.out.trans hc)).at hq64
      have t1 := T1.out.quiet hc
      obtain ⟨-, x1, x2, -⟩ := t1
      obtain ⟨O, hO⟩ : ∃ O, O = ordT P p k := ⟨_, rfl⟩
      rw [← hO] at hst hol hrow
      rw [← hO]
      have HSt := Lib.hid hst
      have HRow := Lib.hid hrow
      have HC := Lib.hid hc
      have hsz := hc.size
      obtain ⟨N, hN⟩ : ∃ N, N = O.length := ⟨_, rfl⟩
      rw [← hN] at hol HRow ⊢
      have HN := Lib.hid hN
      clear hq hst hrow hc hO hN
      cases hp : p q with
      | false =>
        rw [hp] at c0 HSt
        simp only [Bool.false_eq_true, if_false] at HSt
        clear hp
        go_wp2_with fail
        go_roundw
        case rel => exact ⟨k + 1, by omega, by go_num, by rw [HSt.out, ← HN.out]; exact HRow.out, HC.out⟩
        case measure => simp [intOf]; omega
      | true =>
        rw [hp] at c0 HSt
        simp only [if_true] at HSt
        clear hp
        go_wp2_with (at_builtin; go_must (refine wpList_append_own _ rfl _ _ 48 rfl (B + 1 + 1) 3 i0 (.int .i64 0) 1 8 Tryz.underlying48 hI hz0 hz1 hz2 rfl (by decide) _ _ _ rfl (HRow.out.alloc _) ⟨wr.heap.size, 0, none⟩ 1 1 [.int .i64 (q : Int)] rfl rfl (cell_one_new _ _ _) (by simp [Value.oneCell']) (by unfold maxLen; omega) (by omega) (by simp; omega) ?_); intro v2 w2 hown2 hgrow2 _)
        have hc2 : Ch [] w1 w2 := (HC.out.alloc (.cells #[.int .i64 (q : Int)] 3)).kept hgrow2 (fun r e => by have := (HRow.out.lt r e).1; have := HRs2.out; omega)
        obtain ⟨p2, cp2, rfl⟩ := own_form hown2
        have HO2 := Lib.hid hown2
        have HC2 := Lib.hid hc2
        clear hown2 hgrow2 hc2
        go_wp2_with fail
        go_roundw
        case rel => exact ⟨k + 1, by omega, by go_num, by rw [HSt.out, ivs_snoc, List.length_append, ← HN.out]; exact HO2.out, HC2.out⟩
        case measure => simp [intOf]; omega
    · have hk64 : k = 64 := by omega
      have hke : ordT P p k = ordN P p := by rw [hk64]; rfl
      have hkl : ¬ (k : Int) < 64 := by omega
      rw [hke] at hrow
      obtain ⟨O, hO⟩ : ∃ O, O = ordN P p := ⟨_, rfl⟩
      rw [← hO] at hrow
      obtain ⟨N, hN⟩ : ∃ N, N = O.length := ⟨_, rfl⟩
      have hN64 : N ≤ 64 := by rw [hN, hO, ord_len HP.out]; exact cntN_le p 64
      rw [hke, ← hO, ← hN]
      rw [← hN] at hrow
      obtain ⟨hoi, hob⟩ := ints_of_row hrow hN
      have HOI := Lib.hid hoi
      have HOB := Lib.hid hob
      have HO := Lib.hid hO
      have HN := Lib.hid hN
      obtain ⟨w2, hw2⟩ : ∃ W, W = wr := ⟨_, rfl⟩
      have HC2 := Lib.hid (show Ch [] w1 w2 from by rw [hw2]; exact hc)
      have HW2 := Lib.hid hw2
      rw [← hw2] at HOI ⊢
      clear hrow hc hoi hob hO hN hw2 hlt hk hk64 hke
      go_wp2_with fail
      clear hkl
      go_loopw [10] (fun i wr => ∃ (k g' cap' : Nat), k ≤ N ∧ i = .int .i64 (k : Int) ∧ ((k : Int) ≤ n ∨ k = 0) ∧ Tri wr B (.int .i64 t) (.int .i64 (plc P O k : Int)) (.slice (some ⟨g', 0, none⟩) 64 cap') ∧ RB wr D g' cap' (lft (endF t (runS l)) p O k) ∧ (g' ≠ B ∧ g' ≠ B + 1 ∧ (g' = g ∨ w.heap.size ≤ g')) ∧ Ch [B] w2 wr) (fun i _ => N - (intOf i).toNat)
      case atStart => exact ⟨0, g, cap, Nat.zero_le _, rfl, .inr rfl, T1.out.quiet HC2.out, by rw [lft_zero]; exact HH.out.quiet (HC1.out.trans HC2.out), ⟨by have := HG.out; have := HBw.out; omega, by have := HG.out; have := HBw.out; omega, .inl rfl⟩, Ch.refl _ _⟩
      case round =>
        obtain ⟨k, g', cap', hk, rfl, hkn, htri, hrb, hgB, hc⟩ := hrel
        by_cases hgo : k < N ∧ (k : Int) < n
        · obtain ⟨hlt, hltn⟩ := hgo
          have hlt' : (k : Int) < (N : Int) := by omega
          obtain ⟨r, hr⟩ : ∃ r, O[k]? = some r := ⟨_, List.getElem?_eq_getElem (by rw [← HN.out]; exact hlt)⟩
          have hr64 : r < 64 := by rw [HO.out] at hr; exact ((ord_mem HP.out).1 (List.mem_iff_getElem?.2 ⟨k, hr⟩)).1
          have hm := intsAt_ch HOI.out hc (.inr fun y hy => by have := HOB.out y hy; simp; omega)
          rcases hm with h0 | ⟨go, oo, rfl, hcc⟩
          · exfalso; have := HN.out; have h1 := congrArg List.length h0; rw [List.length_map, List.length_nil] at h1; omega
          · have q0 := hcc k (by rw [List.length_map, ← HN.out]; exact hlt)
            rw [List.getElem?_map, hr] at q0
            simp only [Option.map_some, Option.getD_some] at q0
            have hgo : B + 1 + 1 ≤ go := HOB.out _ rfl
            have hLm : Ch [B] w2 wr.drew := hc.drew
            have hRD : RD wr.drew D (.slice a ln mc) l := (HR.out.quiet (HC1.out.trans HC2.out)).other hLm (fun e => by have := HM.out B e; have := HBw.out; omega)
            have HLook := Lib.hid (rlook_any (hrb.quiet ((Ch.refl [] wr).drew)) hRD HL.out (by have h1 := hc.size; have h2 := HC2.out.size; have h3 := HD.out; have h4 := HBw.out; rw [World.size_drew]; omega) t (plc P O k) (r : Int) rfl)
            obtain ⟨x0, x1, x2, xf⟩ := htri
            have hls := lft_step (e := endF t (runS l)) (p := p) hr
            rw [← lookL_nat hr64] at hls
            have HLs := Lib.hid hls
            have HPl := Lib.hid (show plc P O (k + 1) = (r + 1) % 64 by show (O[k]?.getD 0 + 1) % 64 = _; rw [hr]; rfl)
            obtain ⟨Q, hQ⟩ : ∃ Q : Nat, Q = plc P O k := ⟨_, rfl⟩
            rw [← hQ] at x1 HLook
            obtain ⟨E, hE⟩ : ∃ E, E = lookB (endF t (runS l)) (lft (endF t (runS l)) p O k) (r : Int) := ⟨_, rfl⟩
            rw [← hE] at HLook HLs
            obtain ⟨Q2, hQ2⟩ : ∃ Q2 : Nat, Q2 = (r + 1) % 64 := ⟨_, rfl⟩
            rw [← hQ2] at HPl
            have hw1 : IntKind.i64.wrap ((r : Int) + 1) = (r : Int) + 1 := IntWalk.i64_in _ (by omega)
            have htm : Int.tmod ((r : Int) + 1) 64 = (Q2 : Int) := by rw [Int.tmod_eq_emod_of_nonneg (by omega)]; omega
            have hwq : IntKind.i64.wrap (Q2 : Int) = (Q2 : Int) := IntWalk.i64_in _ (by omega)
            have HTr := Lib.hid (Tri.mk x0 x1 x2 xf)
            have HC := Lib.hid hc
            have HGo := Lib.hid hgo
            have HGB := Lib.hid (show B < wr.heap.size ∧ B + 1 < wr.heap.size ∧ g' ≠ B ∧ g' ≠ B + 1 ∧ (g' = g ∨ w.heap.size ≤ g') ∧ w.heap.size ≤ wr.heap.size by have h1 := hc.size; have h2 := HC2.out.size; have := T2.out.lt; have := HBw.out; exact ⟨by omega, by omega, hgB.1, hgB.2.1, hgB.2.2, by omega⟩)
            have HQ0 := Lib.hid q0
            have hqd : wr.drew.cell? ⟨go, oo + k, none⟩ = some (.int .i64 (r : Int)) := q0
            have d0 : wr.drew.cell? ⟨B, 0, none⟩ = some (.int .i64 t) := x0
            have d1 : wr.drew.cell? ⟨B, 1, none⟩ = some (.int .i64 (Q : Int)) := x1
            have d2 : wr.drew.cell? ⟨B, 2, none⟩ = some (.slice (some ⟨g', 0, none⟩) 64 cap') := x2
            clear hrb hc hLm hRD hls hQ hE hQ2 hcc hgB hr hgo xf
            go_wp2_with fail
            go_region_with (with_reducible refine HLook.out.mono ?_; rintro e w6 ⟨g6, cap6, rfl, hrb6, hg6, hc6⟩; have HT6 := Lib.hid (HTr.out.drew.quiet hc6); have y0 := HT6.out.c0; have y1 := HT6.out.c1; have y2 := HT6.out.c2; have yf0 := HT6.out.fr 0; have yf1 := HT6.out.fr 1; have yf2 := HT6.out.fr 2; have HRb6 := Lib.hid hrb6; have HG6 := Lib.hid hg6; have HC6 := Lib.hid hc6; clear hrb6 hg6 hc6)
            all_goals
              clear y0 y1 y2 yf0 yf1 yf2 hqd d0 d1 d2 x0 x1 x2 HLook
              obtain ⟨w7, hw7⟩ : ∃ W, W = ((w6.setCell ⟨B, 0, none⟩ (.int .i64 t)).setCell ⟨B, 1, none⟩ (.int .i64 (Q : Int))).setCell ⟨B, 2, none⟩ (.slice (some ⟨g6, 0, none⟩) 64 cap6) := ⟨_, rfl⟩
              have hc7 : Ch [B] w6 w7 := by rw [hw7]; exact (((Ch.refl _ w6).setCell (by simp) _).setCell (by simp) _).setCell (by simp) _
              have hgg : g6 ≠ B ∧ g6 ≠ B + 1 ∧ (g6 = g ∨ w.heap.size ≤ g6) := by
                have h1 := HGB.out
                rcases HG6.out with h2 | h2
                · rw [h2]; exact ⟨h1.2.2.1, h1.2.2.2.1, h1.2.2.2.2.1⟩
                · rw [World.size_drew] at h2; omega
              have T7 := HT6.out.set (.int .i64 t) (.int .i64 (Q : Int)) (.slice (some ⟨g6, 0, none⟩) 64 cap6)
              rw [← hw7] at T7 ⊢
              have hcd : Ch [] wr w6 := ((Ch.refl [] wr).drew).trans HC6.out
              have q0 : w7.cell? ⟨go, oo + k, none⟩ = some (.int .i64 (r : Int)) := (hc7.cell (p := ⟨go, oo + k, none⟩) (by have := cell_lt HQ0.out; have := hcd.size; simp only at *; omega) (by have := HGo.out; simp; omega)).trans ((hcd.cell (p := ⟨go, oo + k, none⟩) (cell_lt HQ0.out) (by simp)).trans HQ0.out)
              have z1 := T7.c1
              have zf := T7.fr 1
              have T8 := Lib.hid (T7.put1 (.int .i64 (Q2 : Int)))
              have hc8 : Ch [B] w7 (w7.setCell ⟨B, 1, none⟩ (.int .i64 (Q2 : Int))) := (Ch.refl _ w7).setCell (by simp) _
              have HRb8 := Lib.hid (HRb6.out.away (hc7.trans hc8) (by simpa using hgg.1))
              have HC8 := Lib.hid (HC.out.trans (((hcd.mono (T := [B]) (by simp)).trans hc7).trans hc8))
              have HGg := Lib.hid hgg
              clear hw7 hc7 hgg T7 hcd hc8 HRb6 HG6 HC6 HT6
              go_wp2_with fail
              go_roundw
              case rel => exact ⟨k + 1, g6, cap6, by omega, by go_num, .inl (by omega), by rw [HPl.out]; exact T8.out, by rw [HLs.out]; exact HRb8.out, HGg.out, HC8.out⟩
              case measure => simp [intOf]; omega
        · have hend := poll_end (n := n) (l := O) (k := k) (by rw [← HN.out]; exact hk) hkn (by have := HN.out; omega)
          have HEnd := Lib.hid hend
          have hcond : ((k : Int) < (N : Int) ∧ ¬ (k : Int) < n) ∨ ¬ (k : Int) < (N : Int) := by
            by_cases hkN : (k : Int) < (N : Int)
            · exact .inl ⟨hkN, fun h => hgo ⟨by omega, h⟩⟩
            · exact .inr hkN
          have T5 := (T2.out.quiet HC2.out).ch hc (by simp)
          have T6 := Lib.hid (T5.set (.int .i64 t) (.int .i64 (plc P O k : Int)) (.slice (some ⟨g', 0, none⟩) 64 cap'))
          have hcw : Ch [] w wr := (HC1.out.trans HC2.out).fresh hc (by have := HBw.out; simp; omega)
          have HCf := Lib.hid (ch_set3 hcw (show w.heap.size ≤ B + 1 by have := HBw.out; omega) (.int .i64 t) (.int .i64 (plc P O k : Int)) (.slice (some ⟨g', 0, none⟩) 64 cap'))
          have hcr : Ch [B + 1] wr (((wr.setCell ⟨B + 1, 0, none⟩ (.int .i64 t)).setCell ⟨B + 1, 1, none⟩ (.int .i64 (plc P O k : Int))).setCell ⟨B + 1, 2, none⟩ (.slice (some ⟨g', 0, none⟩) 64 cap')) := (((Ch.refl _ wr).setCell (by simp) _).setCell (by simp) _).setCell (by simp) _
          have HRf := Lib.hid (hrb.away hcr (by simpa using hgB.2.1))
          have HGf := Lib.hid hgB.2.2
          obtain ⟨x0, x1, x2, -⟩ := htri
          obtain ⟨b0, b1, b2, bf⟩ := T5
          have f0 := bf 0
          have f1 := bf 1
          have f2 := bf 2
          have HPl := Lib.hid (show pollP P p n = plc P O k by unfold pollP; rw [← HO.out, HEnd.out])
          have HLl := Lib.hid (show pollL (endF t (runS l)) P p n = lft (endF t (runS l)) p O k by unfold pollL; rw [← HO.out, HEnd.out])
          generalize plc P O k = Q at *
          clear hend hgo hkn hc hrb hgB bf hcw hcr hk
          rcases hcond with ⟨hc1, hc2⟩ | hc1
          all_goals
            go_wp2_with fail
            refine bodyPost_ret (v := rval t Q g' cap') ?_ rfl ?_
            · have k0 := T6.out.c0
              have k1 := T6.out.c1
              have k2 := T6.out.c2
              simp [results, Tryz.f39, go_sem, k0, k1, k2]
            · exact ⟨g', cap', by rw [HPl.out], by rw [HLl.out]; exact HRf.out, HGf.out, HCf.out⟩
end Go.Proofs.YtjoaigadlpndcaaGreatDoor
