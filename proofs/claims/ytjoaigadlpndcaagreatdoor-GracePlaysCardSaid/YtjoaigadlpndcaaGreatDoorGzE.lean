/-
  The answer's Poll.
-/
import Derived.Test.YtjoaigadlpndcaaGreatDoorGzD
namespace Go.Proofs.YtjoaigadlpndcaaGreatDoor
open Go.RowKit Go.Shelf

/-- What the answer's poll comes to. -/
def PollZ (Y : Nat → Prop) (w : World) (D n : Nat) (z : Az) (out : List Int) (e : Ending) (w' : World) : Prop :=
  ∃ s' ad cap, e = .returned (.tuple #[gvz s' n z, .slice ad out.length cap]) ∧ RZ w' D s' z Y ∧ IntsAt w' ad out ∧ Ch [] w w' ∧ ∀ y, ad = some y → w.heap.size ≤ y.block
theorem RZ.weak {w : World} {D : Nat} {s : Sl3} {z : Az} {X Y : Nat → Prop} (h : RZ w D s z X) (hX : ∀ k, Y k → X k) : RZ w D s z Y :=
  ⟨h.rd, h.rc, h.rb, fun g e hy => h.x1 g e (hX g hy), fun g e hy => h.x2 g e (hX g hy), fun e g eg hy => h.x3 e g eg (hX g hy)⟩
theorem RZ.own {w : World} {D : Nat} {s : Sl3} {z : Az} {X : Nat → Prop} (h : RZ w D s z X) : RZ w D s z (fun k => k = w.heap.size ∨ k = w.heap.size + 1 ∨ X k) :=
  ⟨h.rd, h.rc, h.rb, fun g e hk => by
    have := (h.rd.row.lt g e).2
    rcases hk with hk | hk | hk
    · omega
    · omega
    · exact h.x1 g e hk, fun g e hk => by
    have := h.rc.lt e
    rcases hk with hk | hk | hk
    · omega
    · omega
    · exact h.x2 g e hk, fun e g eg hk => by
    obtain ⟨g', cap, e1, e2⟩ := h.rb e
    have eg' := eg
    rw [e1] at eg'
    have e3 : g' = g := Option.some.inj eg'
    have := e2.lo.2
    rcases hk with hk | hk | hk
    · omega
    · omega
    · exact h.x3 e g eg hk⟩
/-- What is told, aside from the box. -/
def IO (w : World) (B : Nat) (ad : Option Addr) (out : List Int) : Prop := IntsAt w ad out ∧ ∀ y, ad = some y → B + 1 < y.block
theorem IO.ch {w w' : World} {B : Nat} {ad : Option Addr} {out : List Int} {S : List Nat} (h : IO w B ad out) (hc : Ch S w w') (hS : ∀ k ∈ S, k = B ∨ k = B + 1) : IO w' B ad out := by
  refine ⟨?_, h.2⟩
  rcases h.1 with h1 | ⟨b, off, e, h1⟩
  · exact .inl h1
  · refine .inr ⟨b, off, e, fun i hi => (hc.cell (p := ⟨b, off + i, none⟩) (cell_lt (h1 i hi)) (fun hm => ?_)).trans (h1 i hi)⟩
    have h2 : B + 1 < b := h.2 _ e
    rcases hS b hm with h3 | h3 <;> omega
set_option maxRecDepth 100000 in
set_option maxHeartbeats 8000000 in
theorem gz_poll_f {Y : Nat → Prop} {w : World} {D n : Nat} {s : Sl3} {z : Az} (h : RZ w D s z Y) (hY : ∀ k, Y k → k < w.heap.size) (hD : D ≤ w.heap.size) (hl : z.ds.length ≤ 900) (hM : z.M.length ≤ 1000) (hP : z.P < 64) (hn : n ≤ 64) (hg : 0 ≤ z.gen ∧ z.gen ≤ 100000) (hla : z.last ≤ z.gen) (hrn : z.rn = false) :
    Calls Tryz.prog 14 #[gvz s n z] w (PollZ Y w D n (begZ (endZ z)) (outZ n z)) := by
  obtain ⟨a1, n1, c1, a2, n2, c2, a3, n3, c3⟩ := s
  obtain ⟨ds, M, last, rn, t, P, p, gen, ov, wt⟩ := z
  obtain rfl : rn = false := hrn
  obtain ⟨w1, hw1⟩ : ∃ W, W = w.alloc (.cells #[.slice a1 n1 c1, .int .i64 (n : Int), .int .i64 last, .slice a2 n2 c2, .bool false, .int .i64 t, .int .i64 (P : Int), .slice a3 n3 c3, .int .i64 gen, .int .i64 ov, .int .i64 wt] 36) := ⟨_, rfl⟩
  obtain ⟨w2, hw2⟩ : ∃ W, W = w1.alloc (.cells #[.slice none 0 0, .int .i64 0, .int .i64 0, .slice none 0 0, .bool false, .int .i64 0, .int .i64 0, .slice none 0 0, .int .i64 0, .int .i64 0, .int .i64 0] 36) := ⟨_, rfl⟩
  have s1 : w1.heap.size = w.heap.size + 1 := by rw [hw1]; simp
  have hb1 : Bx w1 w.heap.size (.slice a1 n1 c1) (.int .i64 (n : Int)) (.int .i64 last) (.slice a2 n2 c2) (.bool false) (.int .i64 t) (.int .i64 (P : Int)) (.slice a3 n3 c3) (.int .i64 gen) (.int .i64 ov) (.int .i64 wt) := by rw [hw1]; exact Bx.new w _ _ _ _ _ _ _ _ _ _ _ _
  have hz2 : Bx w2 (w.heap.size + 1) (.slice none 0 0) (.int .i64 0) (.int .i64 0) (.slice none 0 0) (.bool false) (.int .i64 0) (.int .i64 0) (.slice none 0 0) (.int .i64 0) (.int .i64 0) (.int .i64 0) := by rw [hw2, ← s1]; exact Bx.new w1 _ _ _ _ _ _ _ _ _ _ _ _
  have hal2 : Ch [] w1 w2 := by rw [hw2]; exact (Ch.refl [] w1).alloc _
  have hal : Ch [] w w2 := by rw [hw1] at hal2; exact ((Ch.refl [] w).alloc _).trans hal2
  have hs2 : w2.heap.size = w.heap.size + 1 + 1 := by rw [hw2, World.size_alloc, s1]
  have hrz := (h.own).quiet hal
  obtain ⟨B, hB⟩ : ∃ B, w.heap.size = B := ⟨_, rfl⟩
  rw [hB] at hb1 hz2 hrz
  have HP2 := Lib.hid (show PZ Y w w2 B D ⟨a1, n1, c1, a2, n2, c2, a3, n3, c3⟩ n ⟨ds, M, last, false, t, P, p, gen, ov, wt⟩ from ⟨hb1.quiet hal2, hz2, hal, hrz, hB, by omega, by rw [← hB]; exact hY⟩)
  have HW := Lib.hid (show w2 = (w.alloc (.cells #[.slice a1 n1 c1, .int .i64 (n : Int), .int .i64 last, .slice a2 n2 c2, .bool false, .int .i64 t, .int .i64 (P : Int), .slice a3 n3 c3, .int .i64 gen, .int .i64 ov, .int .i64 wt] 36)).alloc (.cells #[.slice none 0 0, .int .i64 0, .int .i64 0, .slice none 0 0, .bool false, .int .i64 0, .int .i64 0, .slice none 0 0, .int .i64 0, .int .i64 0, .int .i64 0] 36) from by rw [hw2, hw1])
  have HBs := Lib.hid hB
  have HDw := Lib.hid (show D ≤ B by rw [← hB]; exact hD)
  have HLd := Lib.hid (show ds.length ≤ 900 from hl)
  have HGb := Lib.hid (show 0 ≤ gen ∧ gen ≤ 100000 from hg)
  have HGc := Lib.hid (show 1 ≤ gen + 1 ∧ last ≤ gen + 1 from ⟨by have := hg.1; dsimp only at this; omega, by dsimp only at hla; omega⟩)
  have hM' : M.length ≤ 1000 := hM
  have HO := Lib.hid (show IO w2 B none [] from ⟨.inl rfl, fun y e => by cases e⟩)
  have HOz := Lib.hid (show outZ n ⟨ds, M, last, false, t, P, p, gen, ov, wt⟩ = [] from by unfold outZ; rw [if_neg (fun h => by cases h.1)])
  have HOl := Lib.hid (show ([] : List Int).length = 0 from rfl)
  have HE0 := Lib.hid (show begZ (endZ ⟨ds, M, last, false, t, P, p, gen, ov, wt⟩) = begZ ⟨ds, M, last, false, t, P, p, gen, ov, wt⟩ from by unfold endZ; rw [if_neg (by simp)])
  have HLm := Lib.hid (show M.length ≤ 1000000 by omega)
  have HLn := Lib.hid (show M.length ≤ 100000 by omega)
  clear h hY hD hl hM hP hn hg hla s1 hb1 hz2 hal2 hal hs2 hrz hB hw1 hw2 hM'
  have x0 : w2.cell? ⟨B, 0, none⟩ = some (.slice a1 n1 c1) := HP2.out.hB.c0
  have x1 : w2.cell? ⟨B, 1, none⟩ = some (.int .i64 (n : Int)) := HP2.out.hB.c1
  have x2 : w2.cell? ⟨B, 2, none⟩ = some (.int .i64 last) := HP2.out.hB.c2
  have x3 : w2.cell? ⟨B, 3, none⟩ = some (.slice a2 n2 c2) := HP2.out.hB.c3
  have x4 : w2.cell? ⟨B, 4, none⟩ = some (.bool false) := HP2.out.hB.c4
  have x5 : w2.cell? ⟨B, 5, none⟩ = some (.int .i64 t) := HP2.out.hB.c5
  have x6 : w2.cell? ⟨B, 6, none⟩ = some (.int .i64 (P : Int)) := HP2.out.hB.c6
  have x7 : w2.cell? ⟨B, 7, none⟩ = some (.slice a3 n3 c3) := HP2.out.hB.c7
  have x8 : w2.cell? ⟨B, 8, none⟩ = some (.int .i64 gen) := HP2.out.hB.c8
  have x9 : w2.cell? ⟨B, 9, none⟩ = some (.int .i64 ov) := HP2.out.hB.c9
  have x10 : w2.cell? ⟨B, 10, none⟩ = some (.int .i64 wt) := HP2.out.hB.c10
  have xf : ∀ k, w2.frozen? ⟨B, k, none⟩ = false := HP2.out.hB.fr
  rw [HW.out] at x0 x1 x2 x3 x4 x5 x6 x7 x8 x9 x10 xf
  go_enter Tryz.func14, Tryz.ntmps14
  go_wp2_with fail
  rw [HBs.out]
  try rw [← HW.out]
  clear HW x0 x1 x2 x3 x4 x5 x6 x7 x8 x9 x10 xf
  have C9 := Lib.hid (ropen_any HP2.out.r.rc HLm.out (n : Int) last)
  dsimp only at C9
  with_reducible refine C9.out.mono ?_
  rintro e w9 ⟨rfl, hc9⟩
  have HP9 := Lib.hid (show PZ Y w w9 B D ⟨a1, n1, c1, a2, n2, c2, a3, n3, c3⟩ n ⟨ds, M, last, false, t, P, p, gen, ov, wt⟩ from HP2.out.quiet hc9)
  replace HO := Lib.hid (HO.out.ch hc9 (by simp))
  clear HP2
  clear hc9 C9
  by_cases hq : 0 < zcM (M) ∨ gen < wt
  · have HE := Lib.hid (HE0.out.trans (show begZ ⟨ds, M, last, false, t, P, p, gen, ov, wt⟩ = ⟨ds, ((M).map (giveC (gen + 1))), (gen + 1), true, (runS ds).n, 0, (inP (runS ds)), (gen + 1), ov, wt⟩ from by unfold begZ; rw [if_pos ⟨rfl, hq⟩]))
    have hwg : IntKind.i64.wrap (gen + 1) = gen + 1 := IntWalk.i64_in _ (by have := HGb.out; omega)
    obtain ⟨Zc, hZc⟩ : ∃ k, k = zcM (M) := ⟨_, rfl⟩
    rw [← hZc] at hq ⊢
    clear hZc
    have hgt : 0 < Zc ∨ (Zc = 0 ∧ gen < wt) := by omega
    clear hq
    obtain ⟨Mx, hMx⟩ : ∃ k, k = mxM (M) := ⟨_, rfl⟩
    rw [← hMx]
    clear hMx
    have x0 : w9.cell? ⟨B, 0, none⟩ = some (.slice a1 n1 c1) := HP9.out.hB.c0
    have x1 : w9.cell? ⟨B, 1, none⟩ = some (.int .i64 (n : Int)) := HP9.out.hB.c1
    have x2 : w9.cell? ⟨B, 2, none⟩ = some (.int .i64 last) := HP9.out.hB.c2
    have x3 : w9.cell? ⟨B, 3, none⟩ = some (.slice a2 n2 c2) := HP9.out.hB.c3
    have x4 : w9.cell? ⟨B, 4, none⟩ = some (.bool false) := HP9.out.hB.c4
    have x5 : w9.cell? ⟨B, 5, none⟩ = some (.int .i64 t) := HP9.out.hB.c5
    have x6 : w9.cell? ⟨B, 6, none⟩ = some (.int .i64 (P : Int)) := HP9.out.hB.c6
    have x7 : w9.cell? ⟨B, 7, none⟩ = some (.slice a3 n3 c3) := HP9.out.hB.c7
    have x8 : w9.cell? ⟨B, 8, none⟩ = some (.int .i64 gen) := HP9.out.hB.c8
    have x9 : w9.cell? ⟨B, 9, none⟩ = some (.int .i64 ov) := HP9.out.hB.c9
    have x10 : w9.cell? ⟨B, 10, none⟩ = some (.int .i64 wt) := HP9.out.hB.c10
    have xf : ∀ k, w9.frozen? ⟨B, k, none⟩ = false := HP9.out.hB.fr
    rcases hgt with hgt | ⟨rfl, hgt⟩
    all_goals
      go_wp2_with fail
      obtain ⟨w10, hw10⟩ : ∃ W, W = w9.setCell ⟨B, 8, none⟩ (.int .i64 (gen + 1)) := ⟨_, rfl⟩
      have hc10 : Ch [B] w9 w10 := by rw [hw10]; exact (Ch.refl [B] w9).setCell (p := ⟨B, 8, none⟩) (by simp) (.int .i64 (gen + 1))
      have HP10 := Lib.hid (show PZ Y w w10 B D ⟨a1, n1, c1, a2, n2, c2, a3, n3, c3⟩ n ⟨ds, M, last, false, t, P, p, (gen + 1), ov, wt⟩ from by rw [hw10]; exact HP9.out.next (gen + 1))
      replace HO := Lib.hid (HO.out.ch hc10 (by simp))
      rw [← hw10]
      clear hw10 hc10 HP9
      clear x0 x1 x2 x3 x4 x5 x6 x7 x8 x9 x10 xf
      have C10 := Lib.hid (rclose_ok HP10.out.r.rc HLn.out (n := (n : Int)) (last := last) (gen := gen + 1) HGc.out.1 HGc.out.2)
      dsimp only at C10
      with_reducible refine C10.out.mono ?_
      rintro e w11 ⟨v', rfl, hrc, hfr, hc11⟩
      obtain ⟨av, cv, rfl⟩ := hrc.form
      obtain ⟨nv, hnv⟩ : ∃ k, k = ((M).map (giveC (gen + 1))).length := ⟨_, rfl⟩
      rw [← hnv] at hrc hfr ⊢
      clear hnv
      unfold retC
      have hfz := fun g e => Nat.lt_of_lt_of_le HP10.out.sz (hfr g e)
      have HP11 := Lib.hid (show PZ Y w w11 B D ⟨a1, n1, c1, a2, n2, c2, a3, n3, c3⟩ n ⟨ds, M, last, false, t, P, p, (gen + 1), ov, wt⟩ from HP10.out.quiet hc11)
      replace HO := Lib.hid (HO.out.ch hc11 (by simp))
      clear HP10
      have x0 : w11.cell? ⟨B, 0, none⟩ = some (.slice a1 n1 c1) := HP11.out.hB.c0
      have x1 : w11.cell? ⟨B, 1, none⟩ = some (.int .i64 (n : Int)) := HP11.out.hB.c1
      have x2 : w11.cell? ⟨B, 2, none⟩ = some (.int .i64 last) := HP11.out.hB.c2
      have x3 : w11.cell? ⟨B, 3, none⟩ = some (.slice a2 n2 c2) := HP11.out.hB.c3
      have x4 : w11.cell? ⟨B, 4, none⟩ = some (.bool false) := HP11.out.hB.c4
      have x5 : w11.cell? ⟨B, 5, none⟩ = some (.int .i64 t) := HP11.out.hB.c5
      have x6 : w11.cell? ⟨B, 6, none⟩ = some (.int .i64 (P : Int)) := HP11.out.hB.c6
      have x7 : w11.cell? ⟨B, 7, none⟩ = some (.slice a3 n3 c3) := HP11.out.hB.c7
      have x8 : w11.cell? ⟨B, 8, none⟩ = some (.int .i64 (gen + 1)) := HP11.out.hB.c8
      have x9 : w11.cell? ⟨B, 9, none⟩ = some (.int .i64 ov) := HP11.out.hB.c9
      have x10 : w11.cell? ⟨B, 10, none⟩ = some (.int .i64 wt) := HP11.out.hB.c10
      have xf : ∀ k, w11.frozen? ⟨B, k, none⟩ = false := HP11.out.hB.fr
      obtain ⟨w12, hw12⟩ : ∃ W, W = ((w11.setCell ⟨B, 1, none⟩ (.int .i64 (n : Int))).setCell ⟨B, 2, none⟩ (.int .i64 (gen + 1))).setCell ⟨B, 3, none⟩ (.slice av nv cv) := ⟨_, rfl⟩
      have hc12 : Ch [B] w11 w12 := by rw [hw12]; exact (((Ch.refl [B] w11).setCell (p := ⟨B, 1, none⟩) (by simp) (.int .i64 (n : Int))).setCell (p := ⟨B, 2, none⟩) (by simp) (.int .i64 (gen + 1))).setCell (p := ⟨B, 3, none⟩) (by simp) (.slice av nv cv)
      have HP12 := Lib.hid (show PZ Y w w12 B D ⟨a1, n1, c1, av, nv, cv, a3, n3, c3⟩ n ⟨ds, ((M).map (giveC (gen + 1))), (gen + 1), false, t, P, p, (gen + 1), ov, wt⟩ from by rw [hw12]; exact HP11.out.list hrc hfz (gen + 1))
      replace HO := Lib.hid (HO.out.ch hc12 (by simp))
      have HW12 := Lib.hid hw12
      clear hw12 hc12 hc11 hrc hfr hfz C10 HP11
      go_wp2_with fail
      rw [← HW12.out]
      clear x0 x1 x2 x3 x4 x5 x6 x7 x8 x9 x10 xf
      have C12 := Lib.hid (rnew_any HP12.out.r.rd HLd.out)
      dsimp only at C12
      with_reducible refine C12.out.mono ?_
      rintro e w13 ⟨g, cap, rfl, hrb, hc13⟩
      have hsz := HP12.out.sz
      have HP13 := Lib.hid (show PZ Y w w13 B D ⟨a1, n1, c1, av, nv, cv, a3, n3, c3⟩ n ⟨ds, ((M).map (giveC (gen + 1))), (gen + 1), false, t, P, p, (gen + 1), ov, wt⟩ from HP12.out.quiet hc13)
      replace HO := Lib.hid (HO.out.ch hc13 (by simp))
      clear HP12
      have hgl := hrb.lo
      have hgne : g ≠ B ∧ g ≠ B + 1 ∧ ¬ Y g := ⟨by omega, by omega, fun hy => by have := HP13.out.yb _ hy; omega⟩
      have hrbD := hrb.mono (D' := D) (by have := HDw.out; omega)
      have u0 : w13.cell? ⟨B, 0, none⟩ = some (.slice a1 n1 c1) := HP13.out.hB.c0
      have u1 : w13.cell? ⟨B, 1, none⟩ = some (.int .i64 (n : Int)) := HP13.out.hB.c1
      have u2 : w13.cell? ⟨B, 2, none⟩ = some (.int .i64 (gen + 1)) := HP13.out.hB.c2
      have u3 : w13.cell? ⟨B, 3, none⟩ = some (.slice av nv cv) := HP13.out.hB.c3
      have u4 : w13.cell? ⟨B, 4, none⟩ = some (.bool false) := HP13.out.hB.c4
      have u5 : w13.cell? ⟨B, 5, none⟩ = some (.int .i64 t) := HP13.out.hB.c5
      have u6 : w13.cell? ⟨B, 6, none⟩ = some (.int .i64 (P : Int)) := HP13.out.hB.c6
      have u7 : w13.cell? ⟨B, 7, none⟩ = some (.slice a3 n3 c3) := HP13.out.hB.c7
      have u8 : w13.cell? ⟨B, 8, none⟩ = some (.int .i64 (gen + 1)) := HP13.out.hB.c8
      have u9 : w13.cell? ⟨B, 9, none⟩ = some (.int .i64 ov) := HP13.out.hB.c9
      have u10 : w13.cell? ⟨B, 10, none⟩ = some (.int .i64 wt) := HP13.out.hB.c10
      have uf : ∀ k, w13.frozen? ⟨B, k, none⟩ = false := HP13.out.hB.fr
      obtain ⟨w14, hw14⟩ : ∃ W, W = ((w13.setCell ⟨B, 5, none⟩ (.int .i64 (runS ds).n)).setCell ⟨B, 6, none⟩ (.int .i64 0)).setCell ⟨B, 7, none⟩ (.slice (some ⟨g, 0, none⟩) 64 cap) := ⟨_, rfl⟩
      have hc14 : Ch [B] w13 w14 := by rw [hw14]; exact (((Ch.refl [B] w13).setCell (p := ⟨B, 5, none⟩) (by simp) (.int .i64 (runS ds).n)).setCell (p := ⟨B, 6, none⟩) (by simp) (.int .i64 0)).setCell (p := ⟨B, 7, none⟩) (by simp) (.slice (some ⟨g, 0, none⟩) 64 cap)
      have HP14 := Lib.hid (show PZ Y w w14 B D ⟨a1, n1, c1, av, nv, cv, (some ⟨g, 0, none⟩), 64, cap⟩ n ⟨ds, ((M).map (giveC (gen + 1))), (gen + 1), false, (runS ds).n, 0, (inP (runS ds)), (gen + 1), ov, wt⟩ from by rw [hw14]; exact HP13.out.scan hrbD hgne (runS ds).n 0)
      replace HO := Lib.hid (HO.out.ch hc14 (by simp))
      have hrb4 := hrbD.away hc14 (by simp; exact hgne.1)
      obtain ⟨w15, hw15⟩ : ∃ W, W = w14.setCell ⟨B, 4, none⟩ (.bool true) := ⟨_, rfl⟩
      have hc15 : Ch [B] w14 w15 := by rw [hw15]; exact (Ch.refl [B] w14).setCell (p := ⟨B, 4, none⟩) (by simp) (.bool true)
      have HP15 := Lib.hid (show PZ Y w w15 B D ⟨a1, n1, c1, av, nv, cv, (some ⟨g, 0, none⟩), 64, cap⟩ n ⟨ds, ((M).map (giveC (gen + 1))), (gen + 1), true, (runS ds).n, 0, (inP (runS ds)), (gen + 1), ov, wt⟩ from by rw [hw15]; exact HP14.out.runs ⟨g, cap, rfl, hrb4, hgne⟩)
      replace HO := Lib.hid (HO.out.ch hc15 (by simp))
      have x0 : w15.cell? ⟨B, 0, none⟩ = some (.slice a1 n1 c1) := HP15.out.hB.c0
      have x1 : w15.cell? ⟨B, 1, none⟩ = some (.int .i64 (n : Int)) := HP15.out.hB.c1
      have x2 : w15.cell? ⟨B, 2, none⟩ = some (.int .i64 (gen + 1)) := HP15.out.hB.c2
      have x3 : w15.cell? ⟨B, 3, none⟩ = some (.slice av nv cv) := HP15.out.hB.c3
      have x4 : w15.cell? ⟨B, 4, none⟩ = some (.bool true) := HP15.out.hB.c4
      have x5 : w15.cell? ⟨B, 5, none⟩ = some (.int .i64 (runS ds).n) := HP15.out.hB.c5
      have x6 : w15.cell? ⟨B, 6, none⟩ = some (.int .i64 0) := HP15.out.hB.c6
      have x7 : w15.cell? ⟨B, 7, none⟩ = some (.slice (some ⟨g, 0, none⟩) 64 cap) := HP15.out.hB.c7
      have x8 : w15.cell? ⟨B, 8, none⟩ = some (.int .i64 (gen + 1)) := HP15.out.hB.c8
      have x9 : w15.cell? ⟨B, 9, none⟩ = some (.int .i64 ov) := HP15.out.hB.c9
      have x10 : w15.cell? ⟨B, 10, none⟩ = some (.int .i64 wt) := HP15.out.hB.c10
      have xf : ∀ k, w15.frozen? ⟨B, k, none⟩ = false := HP15.out.hB.fr
      have y0 : w15.cell? ⟨B + 1, 0, none⟩ = some (.slice none 0 0) := HP15.out.hZ.c0
      have y1 : w15.cell? ⟨B + 1, 1, none⟩ = some (.int .i64 0) := HP15.out.hZ.c1
      have y2 : w15.cell? ⟨B + 1, 2, none⟩ = some (.int .i64 0) := HP15.out.hZ.c2
      have y3 : w15.cell? ⟨B + 1, 3, none⟩ = some (.slice none 0 0) := HP15.out.hZ.c3
      have y4 : w15.cell? ⟨B + 1, 4, none⟩ = some (.bool false) := HP15.out.hZ.c4
      have y5 : w15.cell? ⟨B + 1, 5, none⟩ = some (.int .i64 0) := HP15.out.hZ.c5
      have y6 : w15.cell? ⟨B + 1, 6, none⟩ = some (.int .i64 0) := HP15.out.hZ.c6
      have y7 : w15.cell? ⟨B + 1, 7, none⟩ = some (.slice none 0 0) := HP15.out.hZ.c7
      have y8 : w15.cell? ⟨B + 1, 8, none⟩ = some (.int .i64 0) := HP15.out.hZ.c8
      have y9 : w15.cell? ⟨B + 1, 9, none⟩ = some (.int .i64 0) := HP15.out.hZ.c9
      have y10 : w15.cell? ⟨B + 1, 10, none⟩ = some (.int .i64 0) := HP15.out.hZ.c10
      have yf : ∀ k, w15.frozen? ⟨B + 1, k, none⟩ = false := HP15.out.hZ.fr
      rw [hw15, hw14] at x0 x1 x2 x3 x4 x5 x6 x7 x8 x9 x10 xf y0 y1 y2 y3 y4 y5 y6 y7 y8 y9 y10 yf
      have HW14 := Lib.hid hw14
      have HW15 := Lib.hid hw15
      clear hw14 hw15 hc14 hc15 hrb hc13 hgl hgne hrbD hrb4 hsz C12 HP13 HP14
      go_wp2_with fail
      rw [← HW14.out, ← HW15.out]
      clear u0 u1 u2 u3 u4 u5 u6 u7 u8 u9 u10 uf
      clear x0 x1 x2 x3 x4 x5 x6 x7 x8 x9 x10 xf y0 y1 y2 y3 y4 y5 y6 y7 y8 y9 y10 yf
      have HX := Lib.hid (HP15.out.hZ.setAll (.slice a1 n1 c1) (.int .i64 (n : Int)) (.int .i64 (gen + 1)) (.slice av nv cv) (.bool true) (.int .i64 (runS ds).n) (.int .i64 0) (.slice (some ⟨g, 0, none⟩) 64 cap) (.int .i64 (gen + 1)) (.int .i64 ov) (.int .i64 wt))
      have hcF : Ch [B + 1] w15 (st11 w15 (B + 1) (.slice a1 n1 c1) (.int .i64 (n : Int)) (.int .i64 (gen + 1)) (.slice av nv cv) (.bool true) (.int .i64 (runS ds).n) (.int .i64 0) (.slice (some ⟨g, 0, none⟩) 64 cap) (.int .i64 (gen + 1)) (.int .i64 ov) (.int .i64 wt)) := st11_ch _ _ _ _ _ _ _ _ _ _ _ _ _
      have HAF := Lib.hid (HP15.out.hA.fresh hcF (by have := HP15.out.b0; simp; omega))
      have HRF := Lib.hid (HP15.out.r.away hcF (by simp))
      have HOF := Lib.hid (HO.out.ch hcF (by simp))
      clear hcF
      generalize hWF : st11 w15 (B + 1) (.slice a1 n1 c1) (.int .i64 (n : Int)) (.int .i64 (gen + 1)) (.slice av nv cv) (.bool true) (.int .i64 (runS ds).n) (.int .i64 0) (.slice (some ⟨g, 0, none⟩) 64 cap) (.int .i64 (gen + 1)) (.int .i64 ov) (.int .i64 wt) = wF at *
      unfold st11 at hWF
      rw [hWF]
      have y0 := HX.out.c0
      have y1 := HX.out.c1
      have y2 := HX.out.c2
      have y3 := HX.out.c3
      have y4 := HX.out.c4
      have y5 := HX.out.c5
      have y6 := HX.out.c6
      have y7 := HX.out.c7
      have y8 := HX.out.c8
      have y9 := HX.out.c9
      have y10 := HX.out.c10
      refine bodyPost_ret (v := .tuple #[gvz ⟨a1, n1, c1, av, nv, cv, (some ⟨g, 0, none⟩), 64, cap⟩ n ⟨ds, ((M).map (giveC (gen + 1))), (gen + 1), true, (runS ds).n, 0, (inP (runS ds)), (gen + 1), ov, wt⟩, .slice none 0 0]) ?_ rfl ?_
      · simp [results, Tryz.f14, go_sem, y0, y1, y2, y3, y4, y5, y6, y7, y8, y9, y10]
      · rw [HE.out, HOz.out]
        refine ⟨⟨a1, n1, c1, av, nv, cv, (some ⟨g, 0, none⟩), 64, cap⟩, none, 0, by rw [HOl.out], ?_, HOF.out.1, HAF.out, fun y e => by have := HOF.out.2 y e; have := HBs.out; omega⟩
        exact HRF.out.weak (fun k e => .inr (.inr e))
  · have HE := Lib.hid (HE0.out.trans (show begZ ⟨ds, M, last, false, t, P, p, gen, ov, wt⟩ = ⟨ds, M, last, false, t, P, p, gen, ov, wt⟩ from by unfold begZ; rw [if_neg (fun h => hq h.2)]))
    have hz0 : zcM (M) = 0 := by omega
    have hle : decide (wt > gen) = false := decide_eq_false (by omega)
    rw [hz0]
    clear hz0 hq
    obtain ⟨Mx, hMx⟩ : ∃ k, k = mxM (M) := ⟨_, rfl⟩
    rw [← hMx]
    clear hMx
    have x0 : w9.cell? ⟨B, 0, none⟩ = some (.slice a1 n1 c1) := HP9.out.hB.c0
    have x1 : w9.cell? ⟨B, 1, none⟩ = some (.int .i64 (n : Int)) := HP9.out.hB.c1
    have x2 : w9.cell? ⟨B, 2, none⟩ = some (.int .i64 last) := HP9.out.hB.c2
    have x3 : w9.cell? ⟨B, 3, none⟩ = some (.slice a2 n2 c2) := HP9.out.hB.c3
    have x4 : w9.cell? ⟨B, 4, none⟩ = some (.bool false) := HP9.out.hB.c4
    have x5 : w9.cell? ⟨B, 5, none⟩ = some (.int .i64 t) := HP9.out.hB.c5
    have x6 : w9.cell? ⟨B, 6, none⟩ = some (.int .i64 (P : Int)) := HP9.out.hB.c6
    have x7 : w9.cell? ⟨B, 7, none⟩ = some (.slice a3 n3 c3) := HP9.out.hB.c7
    have x8 : w9.cell? ⟨B, 8, none⟩ = some (.int .i64 gen) := HP9.out.hB.c8
    have x9 : w9.cell? ⟨B, 9, none⟩ = some (.int .i64 ov) := HP9.out.hB.c9
    have x10 : w9.cell? ⟨B, 10, none⟩ = some (.int .i64 wt) := HP9.out.hB.c10
    have xf : ∀ k, w9.frozen? ⟨B, k, none⟩ = false := HP9.out.hB.fr
    have y0 : w9.cell? ⟨B + 1, 0, none⟩ = some (.slice none 0 0) := HP9.out.hZ.c0
    have y1 : w9.cell? ⟨B + 1, 1, none⟩ = some (.int .i64 0) := HP9.out.hZ.c1
    have y2 : w9.cell? ⟨B + 1, 2, none⟩ = some (.int .i64 0) := HP9.out.hZ.c2
    have y3 : w9.cell? ⟨B + 1, 3, none⟩ = some (.slice none 0 0) := HP9.out.hZ.c3
    have y4 : w9.cell? ⟨B + 1, 4, none⟩ = some (.bool false) := HP9.out.hZ.c4
    have y5 : w9.cell? ⟨B + 1, 5, none⟩ = some (.int .i64 0) := HP9.out.hZ.c5
    have y6 : w9.cell? ⟨B + 1, 6, none⟩ = some (.int .i64 0) := HP9.out.hZ.c6
    have y7 : w9.cell? ⟨B + 1, 7, none⟩ = some (.slice none 0 0) := HP9.out.hZ.c7
    have y8 : w9.cell? ⟨B + 1, 8, none⟩ = some (.int .i64 0) := HP9.out.hZ.c8
    have y9 : w9.cell? ⟨B + 1, 9, none⟩ = some (.int .i64 0) := HP9.out.hZ.c9
    have y10 : w9.cell? ⟨B + 1, 10, none⟩ = some (.int .i64 0) := HP9.out.hZ.c10
    have yf : ∀ k, w9.frozen? ⟨B + 1, k, none⟩ = false := HP9.out.hZ.fr
    go_wp2_with fail
    clear x0 x1 x2 x3 x4 x5 x6 x7 x8 x9 x10 xf y0 y1 y2 y3 y4 y5 y6 y7 y8 y9 y10 yf
    have HX := Lib.hid (HP9.out.hZ.setAll (.slice a1 n1 c1) (.int .i64 (n : Int)) (.int .i64 last) (.slice a2 n2 c2) (.bool false) (.int .i64 t) (.int .i64 (P : Int)) (.slice a3 n3 c3) (.int .i64 gen) (.int .i64 ov) (.int .i64 wt))
    have hcF : Ch [B + 1] w9 (st11 w9 (B + 1) (.slice a1 n1 c1) (.int .i64 (n : Int)) (.int .i64 last) (.slice a2 n2 c2) (.bool false) (.int .i64 t) (.int .i64 (P : Int)) (.slice a3 n3 c3) (.int .i64 gen) (.int .i64 ov) (.int .i64 wt)) := st11_ch _ _ _ _ _ _ _ _ _ _ _ _ _
    have HAF := Lib.hid (HP9.out.hA.fresh hcF (by have := HP9.out.b0; simp; omega))
    have HRF := Lib.hid (HP9.out.r.away hcF (by simp))
    have HOF := Lib.hid (HO.out.ch hcF (by simp))
    clear hcF
    generalize hWF : st11 w9 (B + 1) (.slice a1 n1 c1) (.int .i64 (n : Int)) (.int .i64 last) (.slice a2 n2 c2) (.bool false) (.int .i64 t) (.int .i64 (P : Int)) (.slice a3 n3 c3) (.int .i64 gen) (.int .i64 ov) (.int .i64 wt) = wF at *
    unfold st11 at hWF
    rw [hWF]
    have y0 := HX.out.c0
    have y1 := HX.out.c1
    have y2 := HX.out.c2
    have y3 := HX.out.c3
    have y4 := HX.out.c4
    have y5 := HX.out.c5
    have y6 := HX.out.c6
    have y7 := HX.out.c7
    have y8 := HX.out.c8
    have y9 := HX.out.c9
    have y10 := HX.out.c10
    refine bodyPost_ret (v := .tuple #[gvz ⟨a1, n1, c1, a2, n2, c2, a3, n3, c3⟩ n ⟨ds, M, last, false, t, P, p, gen, ov, wt⟩, .slice none 0 0]) ?_ rfl ?_
    · simp [results, Tryz.f14, go_sem, y0, y1, y2, y3, y4, y5, y6, y7, y8, y9, y10]
    · rw [HE.out, HOz.out]
      refine ⟨⟨a1, n1, c1, a2, n2, c2, a3, n3, c3⟩, none, 0, by rw [HOl.out], ?_, HOF.out.1, HAF.out, fun y e => by have := HOF.out.2 y e; have := HBs.out; omega⟩
      exact HRF.out.weak (fun k e => .inr (.inr e))
end Go.Proofs.YtjoaigadlpndcaaGreatDoor
