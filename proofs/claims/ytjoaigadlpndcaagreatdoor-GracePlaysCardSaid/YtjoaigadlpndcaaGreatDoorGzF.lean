/-
  The answer's Poll, where a scan runs.
-/
import Derived.Test.YtjoaigadlpndcaaGreatDoorGzE
namespace Go.Proofs.YtjoaigadlpndcaaGreatDoor
open Go.RowKit Go.Shelf

set_option maxRecDepth 100000 in
set_option maxHeartbeats 8000000 in
theorem gz_poll_t {Y : Nat → Prop} {w : World} {D n : Nat} {s : Sl3} {z : Az} (h : RZ w D s z Y) (hY : ∀ k, Y k → k < w.heap.size) (hD : D ≤ w.heap.size) (hl : z.ds.length ≤ 900) (hM : z.M.length ≤ 1000) (hP : z.P < 64) (hn : n ≤ 64) (hg : 0 ≤ z.gen ∧ z.gen ≤ 100000) (hla : z.last ≤ z.gen) (hrn : z.rn = true) :
    Calls Tryz.prog 14 #[gvz s n z] w (PollZ Y w D n (begZ (endZ z)) (outZ n z)) := by
  obtain ⟨a1, n1, c1, a2, n2, c2, a3, n3, c3⟩ := s
  obtain ⟨ds, M, last, rn, t, P, p, gen, ov, wt⟩ := z
  obtain rfl : rn = true := hrn
  obtain ⟨g, cap, eq3, hrb⟩ := h.rb rfl
  obtain ⟨rfl, rfl, ec3⟩ : a3 = some ⟨g, 0, none⟩ ∧ n3 = 64 ∧ c3 = cap := by simpa using eq3
  obtain rfl : cap = c3 := ec3.symm
  obtain ⟨w1, hw1⟩ : ∃ W, W = w.alloc (.cells #[.slice a1 n1 c1, .int .i64 (n : Int), .int .i64 last, .slice a2 n2 c2, .bool true, .int .i64 t, .int .i64 (P : Int), .slice (some ⟨g, 0, none⟩) 64 cap, .int .i64 gen, .int .i64 ov, .int .i64 wt] 36) := ⟨_, rfl⟩
  obtain ⟨w2, hw2⟩ : ∃ W, W = w1.alloc (.cells #[.slice none 0 0, .int .i64 0, .int .i64 0, .slice none 0 0, .bool false, .int .i64 0, .int .i64 0, .slice none 0 0, .int .i64 0, .int .i64 0, .int .i64 0] 36) := ⟨_, rfl⟩
  have s1 : w1.heap.size = w.heap.size + 1 := by rw [hw1]; simp
  have hb1 : Bx w1 w.heap.size (.slice a1 n1 c1) (.int .i64 (n : Int)) (.int .i64 last) (.slice a2 n2 c2) (.bool true) (.int .i64 t) (.int .i64 (P : Int)) (.slice (some ⟨g, 0, none⟩) 64 cap) (.int .i64 gen) (.int .i64 ov) (.int .i64 wt) := by rw [hw1]; exact Bx.new w _ _ _ _ _ _ _ _ _ _ _ _
  have hz2 : Bx w2 (w.heap.size + 1) (.slice none 0 0) (.int .i64 0) (.int .i64 0) (.slice none 0 0) (.bool false) (.int .i64 0) (.int .i64 0) (.slice none 0 0) (.int .i64 0) (.int .i64 0) (.int .i64 0) := by rw [hw2, ← s1]; exact Bx.new w1 _ _ _ _ _ _ _ _ _ _ _ _
  have hal2 : Ch [] w1 w2 := by rw [hw2]; exact (Ch.refl [] w1).alloc _
  have hal : Ch [] w w2 := by rw [hw1] at hal2; exact ((Ch.refl [] w).alloc _).trans hal2
  have hs2 : w2.heap.size = w.heap.size + 1 + 1 := by rw [hw2, World.size_alloc, s1]
  have hrz := (h.own).quiet hal
  obtain ⟨B, hB⟩ : ∃ B, w.heap.size = B := ⟨_, rfl⟩
  rw [hB] at hb1 hz2 hrz
  have HP2 := Lib.hid (show PZ Y w w2 B D ⟨a1, n1, c1, a2, n2, c2, (some ⟨g, 0, none⟩), 64, cap⟩ n ⟨ds, M, last, true, t, P, p, gen, ov, wt⟩ from ⟨hb1.quiet hal2, hz2, hal, hrz, hB, by omega, by rw [← hB]; exact hY⟩)
  have HW := Lib.hid (show w2 = (w.alloc (.cells #[.slice a1 n1 c1, .int .i64 (n : Int), .int .i64 last, .slice a2 n2 c2, .bool true, .int .i64 t, .int .i64 (P : Int), .slice (some ⟨g, 0, none⟩) 64 cap, .int .i64 gen, .int .i64 ov, .int .i64 wt] 36)).alloc (.cells #[.slice none 0 0, .int .i64 0, .int .i64 0, .slice none 0 0, .bool false, .int .i64 0, .int .i64 0, .slice none 0 0, .int .i64 0, .int .i64 0, .int .i64 0] 36) from by rw [hw2, hw1])
  have HBs := Lib.hid hB
  have HDw := Lib.hid (show D ≤ B by rw [← hB]; exact hD)
  have HLd := Lib.hid (show ds.length ≤ 900 from hl)
  have HGb := Lib.hid (show 0 ≤ gen ∧ gen ≤ 100000 from hg)
  have HGc := Lib.hid (show 1 ≤ gen + 1 ∧ last ≤ gen + 1 from ⟨by have := hg.1; dsimp only at this; omega, by dsimp only at hla; omega⟩)
  have hM' : M.length ≤ 1000 := hM
  have hg0 := hrb.lo
  have C2 := Lib.hid (rpoll_any (hrb.quiet hal) HP2.out.r.rd HLd.out (by have := HDw.out; omega) t (P := P) hP 16)
  dsimp only at C2
  have HP64 := Lib.hid (show g < B by omega)
  have HPY := Lib.hid (show ¬ Y g from h.x3 rfl g rfl)
  obtain ⟨P', hP'⟩ : ∃ k, k = pollP P p 16 := ⟨_, rfl⟩
  obtain ⟨p', hp'⟩ : ∃ k, k = pollL (endF t (runS ds)) P p 16 := ⟨_, rfl⟩
  rw [← hP', ← hp'] at C2
  have HEq := Lib.hid (And.intro hP' hp')
  have HN64 := Lib.hid hn
  have HO := Lib.hid (show IO w2 B none [] from ⟨.inl rfl, fun y e => by cases e⟩)
  have HLm := Lib.hid (show M.length ≤ 1000000 by omega)
  have HLn := Lib.hid (show M.length ≤ 100000 by omega)
  have HLf := Lib.hid (show (M.filter (leftM gen)).length ≤ 1000000 ∧ (M.filter (leftM gen)).length ≤ 100000 by have := List.length_filter_le (leftM gen) M; omega)
  have HLo := Lib.hid (show (outM gen M n).length ≤ n * M.length from outM_len gen M n)
  have hszw := hs2
  clear h hY hD hl hM hP hn hg hla s1 hb1 hz2 hal2 hal hrz hB hw1 hw2 hM' hP' hp' hg0 hrb eq3 hs2
  have x0 : w2.cell? ⟨B, 0, none⟩ = some (.slice a1 n1 c1) := HP2.out.hB.c0
  have x1 : w2.cell? ⟨B, 1, none⟩ = some (.int .i64 (n : Int)) := HP2.out.hB.c1
  have x2 : w2.cell? ⟨B, 2, none⟩ = some (.int .i64 last) := HP2.out.hB.c2
  have x3 : w2.cell? ⟨B, 3, none⟩ = some (.slice a2 n2 c2) := HP2.out.hB.c3
  have x4 : w2.cell? ⟨B, 4, none⟩ = some (.bool true) := HP2.out.hB.c4
  have x5 : w2.cell? ⟨B, 5, none⟩ = some (.int .i64 t) := HP2.out.hB.c5
  have x6 : w2.cell? ⟨B, 6, none⟩ = some (.int .i64 (P : Int)) := HP2.out.hB.c6
  have x7 : w2.cell? ⟨B, 7, none⟩ = some (.slice (some ⟨g, 0, none⟩) 64 cap) := HP2.out.hB.c7
  have x8 : w2.cell? ⟨B, 8, none⟩ = some (.int .i64 gen) := HP2.out.hB.c8
  have x9 : w2.cell? ⟨B, 9, none⟩ = some (.int .i64 ov) := HP2.out.hB.c9
  have x10 : w2.cell? ⟨B, 10, none⟩ = some (.int .i64 wt) := HP2.out.hB.c10
  have xf : ∀ k, w2.frozen? ⟨B, k, none⟩ = false := HP2.out.hB.fr
  rw [HW.out] at x0 x1 x2 x3 x4 x5 x6 x7 x8 x9 x10 xf
  go_enter Tryz.func14, Tryz.ntmps14
  go_wp2_with fail
  rw [HBs.out]
  try rw [← HW.out]
  clear HW x0 x1 x2 x3 x4 x5 x6 x7 x8 x9 x10 xf
  with_reducible refine C2.out.mono ?_
  rintro e w3 ⟨g', cap', rfl, hrb, hgg, hc3⟩
  have hgne : g' ≠ B ∧ g' ≠ B + 1 ∧ ¬ Y g' := by
    have h1 := HP64.out
    have h2 := HBs.out
    have h3 := HP2.out.sz
    refine ⟨by omega, by omega, ?_⟩
    rcases hgg with h4 | h4
    · rw [h4]; exact HPY.out
    · exact fun hy => by have := HP2.out.yb _ hy; omega
  have HP3 := Lib.hid (show PZ Y w w3 B D ⟨a1, n1, c1, a2, n2, c2, (some ⟨g, 0, none⟩), 64, cap⟩ n ⟨ds, M, last, true, t, P, p, gen, ov, wt⟩ from HP2.out.quiet hc3)
  replace HO := Lib.hid (HO.out.ch hc3 (by simp))
  clear HP2
  have x0 : w3.cell? ⟨B, 0, none⟩ = some (.slice a1 n1 c1) := HP3.out.hB.c0
  have x1 : w3.cell? ⟨B, 1, none⟩ = some (.int .i64 (n : Int)) := HP3.out.hB.c1
  have x2 : w3.cell? ⟨B, 2, none⟩ = some (.int .i64 last) := HP3.out.hB.c2
  have x3 : w3.cell? ⟨B, 3, none⟩ = some (.slice a2 n2 c2) := HP3.out.hB.c3
  have x4 : w3.cell? ⟨B, 4, none⟩ = some (.bool true) := HP3.out.hB.c4
  have x5 : w3.cell? ⟨B, 5, none⟩ = some (.int .i64 t) := HP3.out.hB.c5
  have x6 : w3.cell? ⟨B, 6, none⟩ = some (.int .i64 (P : Int)) := HP3.out.hB.c6
  have x7 : w3.cell? ⟨B, 7, none⟩ = some (.slice (some ⟨g, 0, none⟩) 64 cap) := HP3.out.hB.c7
  have x8 : w3.cell? ⟨B, 8, none⟩ = some (.int .i64 gen) := HP3.out.hB.c8
  have x9 : w3.cell? ⟨B, 9, none⟩ = some (.int .i64 ov) := HP3.out.hB.c9
  have x10 : w3.cell? ⟨B, 10, none⟩ = some (.int .i64 wt) := HP3.out.hB.c10
  have xf : ∀ k, w3.frozen? ⟨B, k, none⟩ = false := HP3.out.hB.fr
  obtain ⟨w4, hw4⟩ : ∃ W, W = ((w3.setCell ⟨B, 5, none⟩ (.int .i64 t)).setCell ⟨B, 6, none⟩ (.int .i64 (P' : Int))).setCell ⟨B, 7, none⟩ (.slice (some ⟨g', 0, none⟩) 64 cap') := ⟨_, rfl⟩
  have hc4 : Ch [B] w3 w4 := by rw [hw4]; exact (((Ch.refl [B] w3).setCell (p := ⟨B, 5, none⟩) (by simp) (.int .i64 t)).setCell (p := ⟨B, 6, none⟩) (by simp) (.int .i64 (P' : Int))).setCell (p := ⟨B, 7, none⟩) (by simp) (.slice (some ⟨g', 0, none⟩) 64 cap')
  have HP4 := Lib.hid (show PZ Y w w4 B D ⟨a1, n1, c1, a2, n2, c2, (some ⟨g', 0, none⟩), 64, cap'⟩ n ⟨ds, M, last, true, t, P', p', gen, ov, wt⟩ from by rw [hw4]; exact HP3.out.scan hrb hgne t P')
  replace HO := Lib.hid (HO.out.ch hc4 (by simp))
  have HW4 := Lib.hid hw4
  have hrb4 := hrb.away hc4 (by simp; exact hgne.1)
  clear hw4 hc4 hc3 hrb hgne hgg C2 HP3 hszw
  by_cases hcn : cntN p' 64 = 0
  · have C4 := Lib.hid (rcount_any hrb4 t P' hcn)
    clear hrb4
    go_wp2_with fail
    rw [← HW4.out]
    clear x0 x1 x2 x3 x4 x5 x6 x7 x8 x9 x10 xf HW4
    with_reducible refine C4.out.mono ?_
    rintro e w5 ⟨rfl, hc5⟩
    have HP5 := Lib.hid (show PZ Y w w5 B D ⟨a1, n1, c1, a2, n2, c2, (some ⟨g', 0, none⟩), 64, cap'⟩ n ⟨ds, M, last, true, t, P', p', gen, ov, wt⟩ from HP4.out.quiet hc5)
    replace HO := Lib.hid (HO.out.ch hc5 (by simp))
    clear HP4
    clear hc5 C4
    have x0 : w5.cell? ⟨B, 0, none⟩ = some (.slice a1 n1 c1) := HP5.out.hB.c0
    have x1 : w5.cell? ⟨B, 1, none⟩ = some (.int .i64 (n : Int)) := HP5.out.hB.c1
    have x2 : w5.cell? ⟨B, 2, none⟩ = some (.int .i64 last) := HP5.out.hB.c2
    have x3 : w5.cell? ⟨B, 3, none⟩ = some (.slice a2 n2 c2) := HP5.out.hB.c3
    have x4 : w5.cell? ⟨B, 4, none⟩ = some (.bool true) := HP5.out.hB.c4
    have x5 : w5.cell? ⟨B, 5, none⟩ = some (.int .i64 t) := HP5.out.hB.c5
    have x6 : w5.cell? ⟨B, 6, none⟩ = some (.int .i64 (P' : Int)) := HP5.out.hB.c6
    have x7 : w5.cell? ⟨B, 7, none⟩ = some (.slice (some ⟨g', 0, none⟩) 64 cap') := HP5.out.hB.c7
    have x8 : w5.cell? ⟨B, 8, none⟩ = some (.int .i64 gen) := HP5.out.hB.c8
    have x9 : w5.cell? ⟨B, 9, none⟩ = some (.int .i64 ov) := HP5.out.hB.c9
    have x10 : w5.cell? ⟨B, 10, none⟩ = some (.int .i64 wt) := HP5.out.hB.c10
    have xf : ∀ k, w5.frozen? ⟨B, k, none⟩ = false := HP5.out.hB.fr
    go_wp2_with fail
    clear x0 x1 x2 x3 x4 x5 x6 x7 x8 x9 x10 xf
    obtain ⟨w6, hw6⟩ : ∃ W, W = (w5.setCell ⟨B, 4, none⟩ (.bool false)).setCell ⟨B, 9, none⟩ (.int .i64 gen) := ⟨_, rfl⟩
    have hc6 : Ch [B] w5 w6 := by rw [hw6]; exact ((Ch.refl [B] w5).setCell (p := ⟨B, 4, none⟩) (by simp) (.bool false)).setCell (p := ⟨B, 9, none⟩) (by simp) (.int .i64 gen)
    have HP6 := Lib.hid (show PZ Y w w6 B D ⟨a1, n1, c1, a2, n2, c2, (some ⟨g', 0, none⟩), 64, cap'⟩ n ⟨ds, M, last, false, t, P', p', gen, gen, wt⟩ from by rw [hw6]; exact HP5.out.over)
    replace HO := Lib.hid (HO.out.ch hc6 (by simp))
    rw [← hw6]
    clear hw6 hc6 HP5
    have C6 := Lib.hid (rdone_any HP6.out.r.rc HLn.out (n := n) HN64.out last gen)
    dsimp only at C6
    with_reducible refine C6.out.mono ?_
    rintro e w7 ⟨v', o, rfl, hrc, hro, hfr, hc7⟩
    obtain ⟨av0, cv0, rfl⟩ := hrc.form
    obtain ⟨nv0, hnv⟩ : ∃ k, k = (M.filter (leftM gen)).length := ⟨_, rfl⟩
    rw [← hnv] at hrc hfr ⊢
    clear hnv
    obtain ⟨ad, ocap, rfl⟩ := own_form hro
    obtain ⟨ol, hol⟩ : ∃ k, (outM gen M n).length = k := ⟨_, rfl⟩
    have hio : IO w7 B ad (outM gen M n) := ⟨(ints_own hro).1, fun y e => by
      subst e
      have := (hro.lt y.block (by
        rcases hro.2 with ⟨e1, _⟩ | ⟨g2, cp2, cur, e1, _⟩
        · cases e1
        · cases e1; rfl)).1
      have := HP6.out.sz
      omega⟩
    rw [hol] at hro ⊢
    unfold retC
    have hfz := fun g e => Nat.lt_of_lt_of_le HP6.out.sz (hfr g e)
    have HP7 := Lib.hid (show PZ Y w w7 B D ⟨a1, n1, c1, a2, n2, c2, (some ⟨g', 0, none⟩), 64, cap'⟩ n ⟨ds, M, last, false, t, P', p', gen, gen, wt⟩ from HP6.out.quiet hc7)
    replace HO := Lib.hid (HO.out.ch hc7 (by simp))
    clear HP6
    replace HO := Lib.hid hio
    have x0 : w7.cell? ⟨B, 0, none⟩ = some (.slice a1 n1 c1) := HP7.out.hB.c0
    have x1 : w7.cell? ⟨B, 1, none⟩ = some (.int .i64 (n : Int)) := HP7.out.hB.c1
    have x2 : w7.cell? ⟨B, 2, none⟩ = some (.int .i64 last) := HP7.out.hB.c2
    have x3 : w7.cell? ⟨B, 3, none⟩ = some (.slice a2 n2 c2) := HP7.out.hB.c3
    have x4 : w7.cell? ⟨B, 4, none⟩ = some (.bool false) := HP7.out.hB.c4
    have x5 : w7.cell? ⟨B, 5, none⟩ = some (.int .i64 t) := HP7.out.hB.c5
    have x6 : w7.cell? ⟨B, 6, none⟩ = some (.int .i64 (P' : Int)) := HP7.out.hB.c6
    have x7 : w7.cell? ⟨B, 7, none⟩ = some (.slice (some ⟨g', 0, none⟩) 64 cap') := HP7.out.hB.c7
    have x8 : w7.cell? ⟨B, 8, none⟩ = some (.int .i64 gen) := HP7.out.hB.c8
    have x9 : w7.cell? ⟨B, 9, none⟩ = some (.int .i64 gen) := HP7.out.hB.c9
    have x10 : w7.cell? ⟨B, 10, none⟩ = some (.int .i64 wt) := HP7.out.hB.c10
    have xf : ∀ k, w7.frozen? ⟨B, k, none⟩ = false := HP7.out.hB.fr
    obtain ⟨w8, hw8⟩ : ∃ W, W = ((w7.setCell ⟨B, 1, none⟩ (.int .i64 (n : Int))).setCell ⟨B, 2, none⟩ (.int .i64 last)).setCell ⟨B, 3, none⟩ (.slice av0 nv0 cv0) := ⟨_, rfl⟩
    have hc8 : Ch [B] w7 w8 := by rw [hw8]; exact (((Ch.refl [B] w7).setCell (p := ⟨B, 1, none⟩) (by simp) (.int .i64 (n : Int))).setCell (p := ⟨B, 2, none⟩) (by simp) (.int .i64 last)).setCell (p := ⟨B, 3, none⟩) (by simp) (.slice av0 nv0 cv0)
    have HP8 := Lib.hid (show PZ Y w w8 B D ⟨a1, n1, c1, av0, nv0, cv0, (some ⟨g', 0, none⟩), 64, cap'⟩ n ⟨ds, (M.filter (leftM gen)), last, false, t, P', p', gen, gen, wt⟩ from by rw [hw8]; exact HP7.out.list hrc hfz last)
    replace HO := Lib.hid (HO.out.ch hc8 (by simp))
    have HW8 := Lib.hid hw8
    have HOl := Lib.hid hol
    clear hw8 hc8 hc7 hrc hro hfr hfz hio hol C6 HP7
    go_wp2_with fail
    rw [← HW8.out]
    clear x0 x1 x2 x3 x4 x5 x6 x7 x8 x9 x10 xf HW8
    have hcz : cntN (Az.left ⟨ds, M, last, true, t, P, p, gen, ov, wt⟩) 64 = 0 := by show cntN (pollL (endF t (runS ds)) P p 16) 64 = 0; rw [← HEq.out.2]; exact hcn
    have HOz := Lib.hid (show outZ n ⟨ds, M, last, true, t, P, p, gen, ov, wt⟩ = outM gen M n from by unfold outZ; rw [if_pos ⟨rfl, hcz⟩])
    have HE0 := Lib.hid (show begZ (endZ ⟨ds, M, last, true, t, P, p, gen, ov, wt⟩) = begZ ⟨ds, (M.filter (leftM gen)), last, false, t, P', p', gen, gen, wt⟩ from by unfold endZ; rw [if_pos rfl, if_pos hcz, HEq.out.1, HEq.out.2]; rfl)
    replace HLm := Lib.hid HLf.out.1
    replace HLn := Lib.hid HLf.out.2
    clear hcz hcn
    have C9 := Lib.hid (ropen_any HP8.out.r.rc HLm.out (n : Int) last)
    dsimp only at C9
    with_reducible refine C9.out.mono ?_
    rintro e w9 ⟨rfl, hc9⟩
    have HP9 := Lib.hid (show PZ Y w w9 B D ⟨a1, n1, c1, av0, nv0, cv0, (some ⟨g', 0, none⟩), 64, cap'⟩ n ⟨ds, (M.filter (leftM gen)), last, false, t, P', p', gen, gen, wt⟩ from HP8.out.quiet hc9)
    replace HO := Lib.hid (HO.out.ch hc9 (by simp))
    clear HP8
    clear hc9 C9
    by_cases hq : 0 < zcM ((M.filter (leftM gen))) ∨ gen < wt
    · have HE := Lib.hid (HE0.out.trans (show begZ ⟨ds, (M.filter (leftM gen)), last, false, t, P', p', gen, gen, wt⟩ = ⟨ds, (((M.filter (leftM gen))).map (giveC (gen + 1))), (gen + 1), true, (runS ds).n, 0, (inP (runS ds)), (gen + 1), gen, wt⟩ from by unfold begZ; rw [if_pos ⟨rfl, hq⟩]))
      have hwg : IntKind.i64.wrap (gen + 1) = gen + 1 := IntWalk.i64_in _ (by have := HGb.out; omega)
      obtain ⟨Zc, hZc⟩ : ∃ k, k = zcM ((M.filter (leftM gen))) := ⟨_, rfl⟩
      rw [← hZc] at hq ⊢
      clear hZc
      have hgt : 0 < Zc ∨ (Zc = 0 ∧ gen < wt) := by omega
      clear hq
      obtain ⟨Mx, hMx⟩ : ∃ k, k = mxM ((M.filter (leftM gen))) := ⟨_, rfl⟩
      rw [← hMx]
      clear hMx
      have x0 : w9.cell? ⟨B, 0, none⟩ = some (.slice a1 n1 c1) := HP9.out.hB.c0
      have x1 : w9.cell? ⟨B, 1, none⟩ = some (.int .i64 (n : Int)) := HP9.out.hB.c1
      have x2 : w9.cell? ⟨B, 2, none⟩ = some (.int .i64 last) := HP9.out.hB.c2
      have x3 : w9.cell? ⟨B, 3, none⟩ = some (.slice av0 nv0 cv0) := HP9.out.hB.c3
      have x4 : w9.cell? ⟨B, 4, none⟩ = some (.bool false) := HP9.out.hB.c4
      have x5 : w9.cell? ⟨B, 5, none⟩ = some (.int .i64 t) := HP9.out.hB.c5
      have x6 : w9.cell? ⟨B, 6, none⟩ = some (.int .i64 (P' : Int)) := HP9.out.hB.c6
      have x7 : w9.cell? ⟨B, 7, none⟩ = some (.slice (some ⟨g', 0, none⟩) 64 cap') := HP9.out.hB.c7
      have x8 : w9.cell? ⟨B, 8, none⟩ = some (.int .i64 gen) := HP9.out.hB.c8
      have x9 : w9.cell? ⟨B, 9, none⟩ = some (.int .i64 gen) := HP9.out.hB.c9
      have x10 : w9.cell? ⟨B, 10, none⟩ = some (.int .i64 wt) := HP9.out.hB.c10
      have xf : ∀ k, w9.frozen? ⟨B, k, none⟩ = false := HP9.out.hB.fr
      rcases hgt with hgt | ⟨rfl, hgt⟩
      all_goals
        go_wp2_with fail
        obtain ⟨w10, hw10⟩ : ∃ W, W = w9.setCell ⟨B, 8, none⟩ (.int .i64 (gen + 1)) := ⟨_, rfl⟩
        have hc10 : Ch [B] w9 w10 := by rw [hw10]; exact (Ch.refl [B] w9).setCell (p := ⟨B, 8, none⟩) (by simp) (.int .i64 (gen + 1))
        have HP10 := Lib.hid (show PZ Y w w10 B D ⟨a1, n1, c1, av0, nv0, cv0, (some ⟨g', 0, none⟩), 64, cap'⟩ n ⟨ds, (M.filter (leftM gen)), last, false, t, P', p', (gen + 1), gen, wt⟩ from by rw [hw10]; exact HP9.out.next (gen + 1))
        replace HO := Lib.hid (HO.out.ch hc10 (by simp))
        rw [← hw10]
        clear hw10 hc10 HP9
        clear x0 x1 x2 x3 x4 x5 x6 x7 x8 x9 x10 xf
        have C10 := Lib.hid (rclose_ok HP10.out.r.rc HLn.out (n := (n : Int)) (last := last) (gen := gen + 1) HGc.out.1 HGc.out.2)
        dsimp only at C10
        with_reducible refine C10.out.mono ?_
        rintro e w11 ⟨v', rfl, hrc, hfr, hc11⟩
        obtain ⟨av, cv, rfl⟩ := hrc.form
        obtain ⟨nv, hnv⟩ : ∃ k, k = (((M.filter (leftM gen))).map (giveC (gen + 1))).length := ⟨_, rfl⟩
        rw [← hnv] at hrc hfr ⊢
        clear hnv
        unfold retC
        have hfz := fun g e => Nat.lt_of_lt_of_le HP10.out.sz (hfr g e)
        have HP11 := Lib.hid (show PZ Y w w11 B D ⟨a1, n1, c1, av0, nv0, cv0, (some ⟨g', 0, none⟩), 64, cap'⟩ n ⟨ds, (M.filter (leftM gen)), last, false, t, P', p', (gen + 1), gen, wt⟩ from HP10.out.quiet hc11)
        replace HO := Lib.hid (HO.out.ch hc11 (by simp))
        clear HP10
        have x0 : w11.cell? ⟨B, 0, none⟩ = some (.slice a1 n1 c1) := HP11.out.hB.c0
        have x1 : w11.cell? ⟨B, 1, none⟩ = some (.int .i64 (n : Int)) := HP11.out.hB.c1
        have x2 : w11.cell? ⟨B, 2, none⟩ = some (.int .i64 last) := HP11.out.hB.c2
        have x3 : w11.cell? ⟨B, 3, none⟩ = some (.slice av0 nv0 cv0) := HP11.out.hB.c3
        have x4 : w11.cell? ⟨B, 4, none⟩ = some (.bool false) := HP11.out.hB.c4
        have x5 : w11.cell? ⟨B, 5, none⟩ = some (.int .i64 t) := HP11.out.hB.c5
        have x6 : w11.cell? ⟨B, 6, none⟩ = some (.int .i64 (P' : Int)) := HP11.out.hB.c6
        have x7 : w11.cell? ⟨B, 7, none⟩ = some (.slice (some ⟨g', 0, none⟩) 64 cap') := HP11.out.hB.c7
        have x8 : w11.cell? ⟨B, 8, none⟩ = some (.int .i64 (gen + 1)) := HP11.out.hB.c8
        have x9 : w11.cell? ⟨B, 9, none⟩ = some (.int .i64 gen) := HP11.out.hB.c9
        have x10 : w11.cell? ⟨B, 10, none⟩ = some (.int .i64 wt) := HP11.out.hB.c10
        have xf : ∀ k, w11.frozen? ⟨B, k, none⟩ = false := HP11.out.hB.fr
        obtain ⟨w12, hw12⟩ : ∃ W, W = ((w11.setCell ⟨B, 1, none⟩ (.int .i64 (n : Int))).setCell ⟨B, 2, none⟩ (.int .i64 (gen + 1))).setCell ⟨B, 3, none⟩ (.slice av nv cv) := ⟨_, rfl⟩
        have hc12 : Ch [B] w11 w12 := by rw [hw12]; exact (((Ch.refl [B] w11).setCell (p := ⟨B, 1, none⟩) (by simp) (.int .i64 (n : Int))).setCell (p := ⟨B, 2, none⟩) (by simp) (.int .i64 (gen + 1))).setCell (p := ⟨B, 3, none⟩) (by simp) (.slice av nv cv)
        have HP12 := Lib.hid (show PZ Y w w12 B D ⟨a1, n1, c1, av, nv, cv, (some ⟨g', 0, none⟩), 64, cap'⟩ n ⟨ds, (((M.filter (leftM gen))).map (giveC (gen + 1))), (gen + 1), false, t, P', p', (gen + 1), gen, wt⟩ from by rw [hw12]; exact HP11.out.list hrc hfz (gen + 1))
        replace HO := Lib.hid (HO.out.ch hc12 (by simp))
        have HW12 := Lib.hid hw12
        clear hw12 hc12 hc11 hrc hfr hfz C10 HP11
        go_wp2_with fail
        rw [← HW12.out]
        clear x0 x1 x2 x3 x4 x5 x6 x7 x8 x9 x10 xf
        have C12 := Lib.hid (rnew_any HP12.out.r.rd HLd.out)
        dsimp only at C12
        with_reducible refine C12.out.mono ?_
        rintro e w13 ⟨g, cap, rfl, hrb, hc13⟩
        have hsz := HP12.out.sz
        have HP13 := Lib.hid (show PZ Y w w13 B D ⟨a1, n1, c1, av, nv, cv, (some ⟨g', 0, none⟩), 64, cap'⟩ n ⟨ds, (((M.filter (leftM gen))).map (giveC (gen + 1))), (gen + 1), false, t, P', p', (gen + 1), gen, wt⟩ from HP12.out.quiet hc13)
        replace HO := Lib.hid (HO.out.ch hc13 (by simp))
        clear HP12
        have hgl := hrb.lo
        have hgne : g ≠ B ∧ g ≠ B + 1 ∧ ¬ Y g := ⟨by omega, by omega, fun hy => by have := HP13.out.yb _ hy; omega⟩
        have hrbD := hrb.mono (D' := D) (by have := HDw.out; omega)
        have u0 : w13.cell? ⟨B, 0, none⟩ = some (.slice a1 n1 c1) := HP13.out.hB.c0
        have u1 : w13.cell? ⟨B, 1, none⟩ = some (.int .i64 (n : Int)) := HP13.out.hB.c1
        have u2 : w13.cell? ⟨B, 2, none⟩ = some (.int .i64 (gen + 1)) := HP13.out.hB.c2
        have u3 : w13.cell? ⟨B, 3, none⟩ = some (.slice av nv cv) := HP13.out.hB.c3
        have u4 : w13.cell? ⟨B, 4, none⟩ = some (.bool false) := HP13.out.hB.c4
        have u5 : w13.cell? ⟨B, 5, none⟩ = some (.int .i64 t) := HP13.out.hB.c5
        have u6 : w13.cell? ⟨B, 6, none⟩ = some (.int .i64 (P' : Int)) := HP13.out.hB.c6
        have u7 : w13.cell? ⟨B, 7, none⟩ = some (.slice (some ⟨g', 0, none⟩) 64 cap') := HP13.out.hB.c7
        have u8 : w13.cell? ⟨B, 8, none⟩ = some (.int .i64 (gen + 1)) := HP13.out.hB.c8
        have u9 : w13.cell? ⟨B, 9, none⟩ = some (.int .i64 gen) := HP13.out.hB.c9
        have u10 : w13.cell? ⟨B, 10, none⟩ = some (.int .i64 wt) := HP13.out.hB.c10
        have uf : ∀ k, w13.frozen? ⟨B, k, none⟩ = false := HP13.out.hB.fr
        obtain ⟨w14, hw14⟩ : ∃ W, W = ((w13.setCell ⟨B, 5, none⟩ (.int .i64 (runS ds).n)).setCell ⟨B, 6, none⟩ (.int .i64 0)).setCell ⟨B, 7, none⟩ (.slice (some ⟨g, 0, none⟩) 64 cap) := ⟨_, rfl⟩
        have hc14 : Ch [B] w13 w14 := by rw [hw14]; exact (((Ch.refl [B] w13).setCell (p := ⟨B, 5, none⟩) (by simp) (.int .i64 (runS ds).n)).setCell (p := ⟨B, 6, none⟩) (by simp) (.int .i64 0)).setCell (p := ⟨B, 7, none⟩) (by simp) (.slice (some ⟨g, 0, none⟩) 64 cap)
        have HP14 := Lib.hid (show PZ Y w w14 B D ⟨a1, n1, c1, av, nv, cv, (some ⟨g, 0, none⟩), 64, cap⟩ n ⟨ds, (((M.filter (leftM gen))).map (giveC (gen + 1))), (gen + 1), false, (runS ds).n, 0, (inP (runS ds)), (gen + 1), gen, wt⟩ from by rw [hw14]; exact HP13.out.scan hrbD hgne (runS ds).n 0)
        replace HO := Lib.hid (HO.out.ch hc14 (by simp))
        have hrb4 := hrbD.away hc14 (by simp; exact hgne.1)
        obtain ⟨w15, hw15⟩ : ∃ W, W = w14.setCell ⟨B, 4, none⟩ (.bool true) := ⟨_, rfl⟩
        have hc15 : Ch [B] w14 w15 := by rw [hw15]; exact (Ch.refl [B] w14).setCell (p := ⟨B, 4, none⟩) (by simp) (.bool true)
        have HP15 := Lib.hid (show PZ Y w w15 B D ⟨a1, n1, c1, av, nv, cv, (some ⟨g, 0, none⟩), 64, cap⟩ n ⟨ds, (((M.filter (leftM gen))).map (giveC (gen + 1))), (gen + 1), true, (runS ds).n, 0, (inP (runS ds)), (gen + 1), gen, wt⟩ from by rw [hw15]; exact HP14.out.runs ⟨g, cap, rfl, hrb4, hgne⟩)
        replace HO := Lib.hid (HO.out.ch hc15 (by simp))
        have x0 : w15.cell? ⟨B, 0, none⟩ = some (.slice a1 n1 c1) := HP15.out.hB.c0
        have x1 : w15.cell? ⟨B, 1, none⟩ = some (.int .i64 (n : Int)) := HP15.out.hB.c1
        have x2 : w15.cell? ⟨B, 2, none⟩ = some (.int .i64 (gen + 1)) := HP15.out.hB.c2
        have x3 : w15.cell? ⟨B, 3, none⟩ = some (.slice av nv cv) := HP15.out.hB.c3
        have x4 : w15.cell? ⟨B, 4, none⟩ = some (.bool true) := HP15.out.hB.c4
        have x5 : w15.cell? ⟨B, 5, none⟩ = some (.int .i64 (runS ds).n) := HP15.out.hB.c5
        have x6 : w15.cell? ⟨B, 6, none⟩ = some (.int .i64 0) := HP15.out.hB.c6
        have x7 : w15.cell? ⟨B, 7, none⟩ = some (.slice (some ⟨g, 0, none⟩) 64 cap) := HP15.out.hB.c7
        have x8 : w15.cell? ⟨B, 8, none⟩ = some (.int .i64 (gen + 1)) := HP15.out.hB.c8
        have x9 : w15.cell? ⟨B, 9, none⟩ = some (.int .i64 gen) := HP15.out.hB.c9
        have x10 : w15.cell? ⟨B, 10, none⟩ = some (.int .i64 wt) := HP15.out.hB.c10
        have xf : ∀ k, w15.frozen? ⟨B, k, none⟩ = false := HP15.out.hB.fr
        have y0 : w15.cell? ⟨B + 1, 0, none⟩ = some (.slice none 0 0) := HP15.out.hZ.c0
        have y1 : w15.cell? ⟨B + 1, 1, none⟩ = some (.int .i64 0) := HP15.out.hZ.c1
        have y2 : w15.cell? ⟨B + 1, 2, none⟩ = some (.int .i64 0) := HP15.out.hZ.c2
        have y3 : w15.cell? ⟨B + 1, 3, none⟩ = some (.slice none 0 0) := HP15.out.hZ.c3
        have y4 : w15.cell? ⟨B + 1, 4, none⟩ = some (.bool false) := HP15.out.hZ.c4
        have y5 : w15.cell? ⟨B + 1, 5, none⟩ = some (.int .i64 0) := HP15.out.hZ.c5
        have y6 : w15.cell? ⟨B + 1, 6, none⟩ = some (.int .i64 0) := HP15.out.hZ.c6
        have y7 : w15.cell? ⟨B + 1, 7, none⟩ = some (.slice none 0 0) := HP15.out.hZ.c7
        have y8 : w15.cell? ⟨B + 1, 8, none⟩ = some (.int .i64 0) := HP15.out.hZ.c8
        have y9 : w15.cell? ⟨B + 1, 9, none⟩ = some (.int .i64 0) := HP15.out.hZ.c9
        have y10 : w15.cell? ⟨B + 1, 10, none⟩ = some (.int .i64 0) := HP15.out.hZ.c10
        have yf : ∀ k, w15.frozen? ⟨B + 1, k, none⟩ = false := HP15.out.hZ.fr
        rw [hw15, hw14] at x0 x1 x2 x3 x4 x5 x6 x7 x8 x9 x10 xf y0 y1 y2 y3 y4 y5 y6 y7 y8 y9 y10 yf
        have HW14 := Lib.hid hw14
        have HW15 := Lib.hid hw15
        clear hw14 hw15 hc14 hc15 hrb hc13 hgl hgne hrbD hrb4 hsz C12 HP13 HP14
        go_wp2_with fail
        rw [← HW14.out, ← HW15.out]
        clear u0 u1 u2 u3 u4 u5 u6 u7 u8 u9 u10 uf
        clear x0 x1 x2 x3 x4 x5 x6 x7 x8 x9 x10 xf y0 y1 y2 y3 y4 y5 y6 y7 y8 y9 y10 yf
        have HX := Lib.hid (HP15.out.hZ.setAll (.slice a1 n1 c1) (.int .i64 (n : Int)) (.int .i64 (gen + 1)) (.slice av nv cv) (.bool true) (.int .i64 (runS ds).n) (.int .i64 0) (.slice (some ⟨g, 0, none⟩) 64 cap) (.int .i64 (gen + 1)) (.int .i64 gen) (.int .i64 wt))
        have hcF : Ch [B + 1] w15 (st11 w15 (B + 1) (.slice a1 n1 c1) (.int .i64 (n : Int)) (.int .i64 (gen + 1)) (.slice av nv cv) (.bool true) (.int .i64 (runS ds).n) (.int .i64 0) (.slice (some ⟨g, 0, none⟩) 64 cap) (.int .i64 (gen + 1)) (.int .i64 gen) (.int .i64 wt)) := st11_ch _ _ _ _ _ _ _ _ _ _ _ _ _
        have HAF := Lib.hid (HP15.out.hA.fresh hcF (by have := HP15.out.b0; simp; omega))
        have HRF := Lib.hid (HP15.out.r.away hcF (by simp))
        have HOF := Lib.hid (HO.out.ch hcF (by simp))
        clear hcF
        generalize hWF : st11 w15 (B + 1) (.slice a1 n1 c1) (.int .i64 (n : Int)) (.int .i64 (gen + 1)) (.slice av nv cv) (.bool true) (.int .i64 (runS ds).n) (.int .i64 0) (.slice (some ⟨g, 0, none⟩) 64 cap) (.int .i64 (gen + 1)) (.int .i64 gen) (.int .i64 wt) = wF at *
        unfold st11 at hWF
        rw [hWF]
        have y0 := HX.out.c0
        have y1 := HX.out.c1
        have y2 := HX.out.c2
        have y3 := HX.out.c3
        have y4 := HX.out.c4
        have y5 := HX.out.c5
        have y6 := HX.out.c6
        have y7 := HX.out.c7
        have y8 := HX.out.c8
        have y9 := HX.out.c9
        have y10 := HX.out.c10
        refine bodyPost_ret (v := .tuple #[gvz ⟨a1, n1, c1, av, nv, cv, (some ⟨g, 0, none⟩), 64, cap⟩ n ⟨ds, (((M.filter (leftM gen))).map (giveC (gen + 1))), (gen + 1), true, (runS ds).n, 0, (inP (runS ds)), (gen + 1), gen, wt⟩, .slice ad ol ocap]) ?_ rfl ?_
        · simp [results, Tryz.f14, go_sem, y0, y1, y2, y3, y4, y5, y6, y7, y8, y9, y10]
        · rw [HE.out, HOz.out]
          refine ⟨⟨a1, n1, c1, av, nv, cv, (some ⟨g, 0, none⟩), 64, cap⟩, ad, ocap, by rw [HOl.out], ?_, HOF.out.1, HAF.out, fun y e => by have := HOF.out.2 y e; have := HBs.out; omega⟩
          exact HRF.out.weak (fun k e => .inr (.inr e))
    · have HE := Lib.hid (HE0.out.trans (show begZ ⟨ds, (M.filter (leftM gen)), last, false, t, P', p', gen, gen, wt⟩ = ⟨ds, (M.filter (leftM gen)), last, false, t, P', p', gen, gen, wt⟩ from by unfold begZ; rw [if_neg (fun h => hq h.2)]))
      have hz0 : zcM ((M.filter (leftM gen))) = 0 := by omega
      have hle : decide (wt > gen) = false := decide_eq_false (by omega)
      rw [hz0]
      clear hz0 hq
      obtain ⟨Mx, hMx⟩ : ∃ k, k = mxM ((M.filter (leftM gen))) := ⟨_, rfl⟩
      rw [← hMx]
      clear hMx
      have x0 : w9.cell? ⟨B, 0, none⟩ = some (.slice a1 n1 c1) := HP9.out.hB.c0
      have x1 : w9.cell? ⟨B, 1, none⟩ = some (.int .i64 (n : Int)) := HP9.out.hB.c1
      have x2 : w9.cell? ⟨B, 2, none⟩ = some (.int .i64 last) := HP9.out.hB.c2
      have x3 : w9.cell? ⟨B, 3, none⟩ = some (.slice av0 nv0 cv0) := HP9.out.hB.c3
      have x4 : w9.cell? ⟨B, 4, none⟩ = some (.bool false) := HP9.out.hB.c4
      have x5 : w9.cell? ⟨B, 5, none⟩ = some (.int .i64 t) := HP9.out.hB.c5
      have x6 : w9.cell? ⟨B, 6, none⟩ = some (.int .i64 (P' : Int)) := HP9.out.hB.c6
      have x7 : w9.cell? ⟨B, 7, none⟩ = some (.slice (some ⟨g', 0, none⟩) 64 cap') := HP9.out.hB.c7
      have x8 : w9.cell? ⟨B, 8, none⟩ = some (.int .i64 gen) := HP9.out.hB.c8
      have x9 : w9.cell? ⟨B, 9, none⟩ = some (.int .i64 gen) := HP9.out.hB.c9
      have x10 : w9.cell? ⟨B, 10, none⟩ = some (.int .i64 wt) := HP9.out.hB.c10
      have xf : ∀ k, w9.frozen? ⟨B, k, none⟩ = false := HP9.out.hB.fr
      have y0 : w9.cell? ⟨B + 1, 0, none⟩ = some (.slice none 0 0) := HP9.out.hZ.c0
      have y1 : w9.cell? ⟨B + 1, 1, none⟩ = some (.int .i64 0) := HP9.out.hZ.c1
      have y2 : w9.cell? ⟨B + 1, 2, none⟩ = some (.int .i64 0) := HP9.out.hZ.c2
      have y3 : w9.cell? ⟨B + 1, 3, none⟩ = some (.slice none 0 0) := HP9.out.hZ.c3
      have y4 : w9.cell? ⟨B + 1, 4, none⟩ = some (.bool false) := HP9.out.hZ.c4
      have y5 : w9.cell? ⟨B + 1, 5, none⟩ = some (.int .i64 0) := HP9.out.hZ.c5
      have y6 : w9.cell? ⟨B + 1, 6, none⟩ = some (.int .i64 0) := HP9.out.hZ.c6
      have y7 : w9.cell? ⟨B + 1, 7, none⟩ = some (.slice none 0 0) := HP9.out.hZ.c7
      have y8 : w9.cell? ⟨B + 1, 8, none⟩ = some (.int .i64 0) := HP9.out.hZ.c8
      have y9 : w9.cell? ⟨B + 1, 9, none⟩ = some (.int .i64 0) := HP9.out.hZ.c9
      have y10 : w9.cell? ⟨B + 1, 10, none⟩ = some (.int .i64 0) := HP9.out.hZ.c10
      have yf : ∀ k, w9.frozen? ⟨B + 1, k, none⟩ = false := HP9.out.hZ.fr
      go_wp2_with fail
      clear x0 x1 x2 x3 x4 x5 x6 x7 x8 x9 x10 xf y0 y1 y2 y3 y4 y5 y6 y7 y8 y9 y10 yf
      have HX := Lib.hid (HP9.out.hZ.setAll (.slice a1 n1 c1) (.int .i64 (n : Int)) (.int .i64 last) (.slice av0 nv0 cv0) (.bool false) (.int .i64 t) (.int .i64 (P' : Int)) (.slice (some ⟨g', 0, none⟩) 64 cap') (.int .i64 gen) (.int .i64 gen) (.int .i64 wt))
      have hcF : Ch [B + 1] w9 (st11 w9 (B + 1) (.slice a1 n1 c1) (.int .i64 (n : Int)) (.int .i64 last) (.slice av0 nv0 cv0) (.bool false) (.int .i64 t) (.int .i64 (P' : Int)) (.slice (some ⟨g', 0, none⟩) 64 cap') (.int .i64 gen) (.int .i64 gen) (.int .i64 wt)) := st11_ch _ _ _ _ _ _ _ _ _ _ _ _ _
      have HAF := Lib.hid (HP9.out.hA.fresh hcF (by have := HP9.out.b0; simp; omega))
      have HRF := Lib.hid (HP9.out.r.away hcF (by simp))
      have HOF := Lib.hid (HO.out.ch hcF (by simp))
      clear hcF
      generalize hWF : st11 w9 (B + 1) (.slice a1 n1 c1) (.int .i64 (n : Int)) (.int .i64 last) (.slice av0 nv0 cv0) (.bool false) (.int .i64 t) (.int .i64 (P' : Int)) (.slice (some ⟨g', 0, none⟩) 64 cap') (.int .i64 gen) (.int .i64 gen) (.int .i64 wt) = wF at *
      unfold st11 at hWF
      rw [hWF]
      have y0 := HX.out.c0
      have y1 := HX.out.c1
      have y2 := HX.out.c2
      have y3 := HX.out.c3
      have y4 := HX.out.c4
      have y5 := HX.out.c5
      have y6 := HX.out.c6
      have y7 := HX.out.c7
      have y8 := HX.out.c8
      have y9 := HX.out.c9
      have y10 := HX.out.c10
      refine bodyPost_ret (v := .tuple #[gvz ⟨a1, n1, c1, av0, nv0, cv0, (some ⟨g', 0, none⟩), 64, cap'⟩ n ⟨ds, (M.filter (leftM gen)), last, false, t, P', p', gen, gen, wt⟩, .slice ad ol ocap]) ?_ rfl ?_
      · simp [results, Tryz.f14, go_sem, y0, y1, y2, y3, y4, y5, y6, y7, y8, y9, y10]
      · rw [HE.out, HOz.out]
        refine ⟨⟨a1, n1, c1, av0, nv0, cv0, (some ⟨g', 0, none⟩), 64, cap'⟩, ad, ocap, by rw [HOl.out], ?_, HOF.out.1, HAF.out, fun y e => by have := HOF.out.2 y e; have := HBs.out; omega⟩
        exact HRF.out.weak (fun k e => .inr (.inr e))
  · obtain ⟨v, hv⟩ : ∃ k, cntN p' 64 = k := ⟨_, rfl⟩
    have C4 := Lib.hid (rcount_any hrb4 t P' hv)
    have hne : ((v : Int) == 0) = false := by rw [hv] at hcn; simp; omega
    clear hrb4
    go_wp2_with fail
    rw [← HW4.out]
    clear x0 x1 x2 x3 x4 x5 x6 x7 x8 x9 x10 xf HW4
    with_reducible refine C4.out.mono ?_
    rintro e w5 ⟨rfl, hc5⟩
    have HP5 := Lib.hid (show PZ Y w w5 B D ⟨a1, n1, c1, a2, n2, c2, (some ⟨g', 0, none⟩), 64, cap'⟩ n ⟨ds, M, last, true, t, P', p', gen, ov, wt⟩ from HP4.out.quiet hc5)
    replace HO := Lib.hid (HO.out.ch hc5 (by simp))
    clear HP4
    clear hc5 C4
    have x0 : w5.cell? ⟨B, 0, none⟩ = some (.slice a1 n1 c1) := HP5.out.hB.c0
    have x1 : w5.cell? ⟨B, 1, none⟩ = some (.int .i64 (n : Int)) := HP5.out.hB.c1
    have x2 : w5.cell? ⟨B, 2, none⟩ = some (.int .i64 last) := HP5.out.hB.c2
    have x3 : w5.cell? ⟨B, 3, none⟩ = some (.slice a2 n2 c2) := HP5.out.hB.c3
    have x4 : w5.cell? ⟨B, 4, none⟩ = some (.bool true) := HP5.out.hB.c4
    have x5 : w5.cell? ⟨B, 5, none⟩ = some (.int .i64 t) := HP5.out.hB.c5
    have x6 : w5.cell? ⟨B, 6, none⟩ = some (.int .i64 (P' : Int)) := HP5.out.hB.c6
    have x7 : w5.cell? ⟨B, 7, none⟩ = some (.slice (some ⟨g', 0, none⟩) 64 cap') := HP5.out.hB.c7
    have x8 : w5.cell? ⟨B, 8, none⟩ = some (.int .i64 gen) := HP5.out.hB.c8
    have x9 : w5.cell? ⟨B, 9, none⟩ = some (.int .i64 ov) := HP5.out.hB.c9
    have x10 : w5.cell? ⟨B, 10, none⟩ = some (.int .i64 wt) := HP5.out.hB.c10
    have xf : ∀ k, w5.frozen? ⟨B, k, none⟩ = false := HP5.out.hB.fr
    go_wp2_with fail
    clear x0 x1 x2 x3 x4 x5 x6 x7 x8 x9 x10 xf hne
    have hcz : cntN (Az.left ⟨ds, M, last, true, t, P, p, gen, ov, wt⟩) 64 ≠ 0 := by show cntN (pollL (endF t (runS ds)) P p 16) 64 ≠ 0; rw [← HEq.out.2]; exact hcn
    have HOz := Lib.hid (show outZ n ⟨ds, M, last, true, t, P, p, gen, ov, wt⟩ = [] from by unfold outZ; rw [if_neg (fun h => hcz h.2)])
    have HOl := Lib.hid (show ([] : List Int).length = 0 from rfl)
    have HE0 := Lib.hid (show begZ (endZ ⟨ds, M, last, true, t, P, p, gen, ov, wt⟩) = begZ ⟨ds, M, last, true, t, P', p', gen, ov, wt⟩ from by unfold endZ; rw [if_pos rfl, if_neg hcz, HEq.out.1, HEq.out.2]; rfl)
    clear hcz hcn hv
    have C9 := Lib.hid (ropen_any HP5.out.r.rc HLm.out (n : Int) last)
    dsimp only at C9
    with_reducible refine C9.out.mono ?_
    rintro e w9 ⟨rfl, hc9⟩
    have HP9 := Lib.hid (show PZ Y w w9 B D ⟨a1, n1, c1, a2, n2, c2, (some ⟨g', 0, none⟩), 64, cap'⟩ n ⟨ds, M, last, true, t, P', p', gen, ov, wt⟩ from HP5.out.quiet hc9)
    replace HO := Lib.hid (HO.out.ch hc9 (by simp))
    clear HP5
    clear hc9 C9
    have HE := Lib.hid (HE0.out.trans (show begZ ⟨ds, M, last, true, t, P', p', gen, ov, wt⟩ = ⟨ds, M, last, true, t, P', p', gen, ov, wt⟩ from by unfold begZ; rw [if_neg (fun h => by cases h.1)]))
    obtain ⟨Zc, hZc⟩ : ∃ k, k = zcM (M) := ⟨_, rfl⟩
    rw [← hZc]
    clear hZc
    obtain ⟨Mx, hMx⟩ : ∃ k, k = mxM (M) := ⟨_, rfl⟩
    rw [← hMx]
    clear hMx
    have x0 : w9.cell? ⟨B, 0, none⟩ = some (.slice a1 n1 c1) := HP9.out.hB.c0
    have x1 : w9.cell? ⟨B, 1, none⟩ = some (.int .i64 (n : Int)) := HP9.out.hB.c1
    have x2 : w9.cell? ⟨B, 2, none⟩ = some (.int .i64 last) := HP9.out.hB.c2
    have x3 : w9.cell? ⟨B, 3, none⟩ = some (.slice a2 n2 c2) := HP9.out.hB.c3
    have x4 : w9.cell? ⟨B, 4, none⟩ = some (.bool true) := HP9.out.hB.c4
    have x5 : w9.cell? ⟨B, 5, none⟩ = some (.int .i64 t) := HP9.out.hB.c5
    have x6 : w9.cell? ⟨B, 6, none⟩ = some (.int .i64 (P' : Int)) := HP9.out.hB.c6
    have x7 : w9.cell? ⟨B, 7, none⟩ = some (.slice (some ⟨g', 0, none⟩) 64 cap') := HP9.out.hB.c7
    have x8 : w9.cell? ⟨B, 8, none⟩ = some (.int .i64 gen) := HP9.out.hB.c8
    have x9 : w9.cell? ⟨B, 9, none⟩ = some (.int .i64 ov) := HP9.out.hB.c9
    have x10 : w9.cell? ⟨B, 10, none⟩ = some (.int .i64 wt) := HP9.out.hB.c10
    have xf : ∀ k, w9.frozen? ⟨B, k, none⟩ = false := HP9.out.hB.fr
    have y0 : w9.cell? ⟨B + 1, 0, none⟩ = some (.slice none 0 0) := HP9.out.hZ.c0
    have y1 : w9.cell? ⟨B + 1, 1, none⟩ = some (.int .i64 0) := HP9.out.hZ.c1
    have y2 : w9.cell? ⟨B + 1, 2, none⟩ = some (.int .i64 0) := HP9.out.hZ.c2
    have y3 : w9.cell? ⟨B + 1, 3, none⟩ = some (.slice none 0 0) := HP9.out.hZ.c3
    have y4 : w9.cell? ⟨B + 1, 4, none⟩ = some (.bool false) := HP9.out.hZ.c4
    have y5 : w9.cell? ⟨B + 1, 5, none⟩ = some (.int .i64 0) := HP9.out.hZ.c5
    have y6 : w9.cell? ⟨B + 1, 6, none⟩ = some (.int .i64 0) := HP9.out.hZ.c6
    have y7 : w9.cell? ⟨B + 1, 7, none⟩ = some (.slice none 0 0) := HP9.out.hZ.c7
    have y8 : w9.cell? ⟨B + 1, 8, none⟩ = some (.int .i64 0) := HP9.out.hZ.c8
    have y9 : w9.cell? ⟨B + 1, 9, none⟩ = some (.int .i64 0) := HP9.out.hZ.c9
    have y10 : w9.cell? ⟨B + 1, 10, none⟩ = some (.int .i64 0) := HP9.out.hZ.c10
    have yf : ∀ k, w9.frozen? ⟨B + 1, k, none⟩ = false := HP9.out.hZ.fr
    go_wp2_with fail
    clear x0 x1 x2 x3 x4 x5 x6 x7 x8 x9 x10 xf y0 y1 y2 y3 y4 y5 y6 y7 y8 y9 y10 yf
    have HX := Lib.hid (HP9.out.hZ.setAll (.slice a1 n1 c1) (.int .i64 (n : Int)) (.int .i64 last) (.slice a2 n2 c2) (.bool true) (.int .i64 t) (.int .i64 (P' : Int)) (.slice (some ⟨g', 0, none⟩) 64 cap') (.int .i64 gen) (.int .i64 ov) (.int .i64 wt))
    have hcF : Ch [B + 1] w9 (st11 w9 (B + 1) (.slice a1 n1 c1) (.int .i64 (n : Int)) (.int .i64 last) (.slice a2 n2 c2) (.bool true) (.int .i64 t) (.int .i64 (P' : Int)) (.slice (some ⟨g', 0, none⟩) 64 cap') (.int .i64 gen) (.int .i64 ov) (.int .i64 wt)) := st11_ch _ _ _ _ _ _ _ _ _ _ _ _ _
    have HAF := Lib.hid (HP9.out.hA.fresh hcF (by have := HP9.out.b0; simp; omega))
    have HRF := Lib.hid (HP9.out.r.away hcF (by simp))
    have HOF := Lib.hid (HO.out.ch hcF (by simp))
    clear hcF
    generalize hWF : st11 w9 (B + 1) (.slice a1 n1 c1) (.int .i64 (n : Int)) (.int .i64 last) (.slice a2 n2 c2) (.bool true) (.int .i64 t) (.int .i64 (P' : Int)) (.slice (some ⟨g', 0, none⟩) 64 cap') (.int .i64 gen) (.int .i64 ov) (.int .i64 wt) = wF at *
    unfold st11 at hWF
    rw [hWF]
    have y0 := HX.out.c0
    have y1 := HX.out.c1
    have y2 := HX.out.c2
    have y3 := HX.out.c3
    have y4 := HX.out.c4
    have y5 := HX.out.c5
    have y6 := HX.out.c6
    have y7 := HX.out.c7
    have y8 := HX.out.c8
    have y9 := HX.out.c9
    have y10 := HX.out.c10
    refine bodyPost_ret (v := .tuple #[gvz ⟨a1, n1, c1, a2, n2, c2, (some ⟨g', 0, none⟩), 64, cap'⟩ n ⟨ds, M, last, true, t, P', p', gen, ov, wt⟩, .slice none 0 0]) ?_ rfl ?_
    · simp [results, Tryz.f14, go_sem, y0, y1, y2, y3, y4, y5, y6, y7, y8, y9, y10]
    · rw [HE.out, HOz.out]
      refine ⟨⟨a1, n1, c1, a2, n2, c2, (some ⟨g', 0, none⟩), 64, cap'⟩, none, 0, by rw [HOl.out], ?_, HOF.out.1, HAF.out, fun y e => by have := HOF.out.2 y e; have := HBs.out; omega⟩
      exact HRF.out.weak (fun k e => .inr (.inr e))
theorem gz_poll {Y : Nat → Prop} {w : World} {D n : Nat} {s : Sl3} {z : Az} (h : RZ w D s z Y) (hY : ∀ k, Y k → k < w.heap.size) (hD : D ≤ w.heap.size) (hl : z.ds.length ≤ 900) (hM : z.M.length ≤ 1000) (hP : z.P < 64) (hn : n ≤ 64) (hg : 0 ≤ z.gen ∧ z.gen ≤ 100000) (hla : z.last ≤ z.gen) : Calls Tryz.prog 14 #[gvz s n z] w (PollZ Y w D n (begZ (endZ z)) (outZ n z)) := by
  cases hrn : z.rn with
  | false => exact gz_poll_f h hY hD hl hM hP hn hg hla hrn
  | true => exact gz_poll_t h hY hD hl hM hP hn hg hla hrn
end Go.Proofs.YtjoaigadlpndcaaGreatDoor
