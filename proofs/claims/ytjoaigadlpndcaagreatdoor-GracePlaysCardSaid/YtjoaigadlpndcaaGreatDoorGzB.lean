/-
  The answer's domain: Enter, Exit.
-/
import Derived.Test.YtjoaigadlpndcaaGreatDoorGzA
namespace Go.Proofs.YtjoaigadlpndcaaGreatDoor
open Go.RowKit Go.Shelf

section
variable {a1 : Option Addr} {n1 c1 : Nat} {a2 : Option Addr} {n2 c2 : Nat} {a3 : Option Addr} {n3 c3 : Nat} {n last : Int} {rn : Bool} {t P gen ov wt : Int}
set_option maxRecDepth 100000 in
set_option maxHeartbeats 2000000 in
theorem gz_enter {w : World} {D : Nat} {ds : List (Nat × Bool)} (h : RD w D (.slice a1 n1 c1) ds) (hl : ds.length ≤ 900) (hD : D ≤ w.heap.size) (r : Int) :
    Calls Tryz.prog 6 #[gv (.slice a1 n1 c1) n last (.slice a2 n2 c2) rn t P (.slice a3 n3 c3) gen ov wt, .int .i64 r] w fun e w' => ∃ a1' n1' c1', e = .returned (.tuple #[gv (.slice a1' n1' c1') n last (.slice a2 n2 c2) rn t P (.slice a3 n3 c3) gen ov wt, .int .i64 (enterE (runS ds) r)]) ∧ RD w' D (.slice a1' n1' c1') (deedsIn ds r) ∧ Ch [] w w' ∧ (∀ k, (Value.slice a1' n1' c1').ownBlock = some k → (Value.slice a1 n1 c1).ownBlock = some k ∨ w.heap.size ≤ k) := by
  obtain ⟨w1, hw1⟩ : ∃ W, W = w.alloc (.cells #[.slice a1 n1 c1, .int .i64 n, .int .i64 last, .slice a2 n2 c2, .bool rn, .int .i64 t, .int .i64 P, .slice a3 n3 c3, .int .i64 gen, .int .i64 ov, .int .i64 wt] 36) := ⟨_, rfl⟩
  obtain ⟨w2, hw2⟩ : ∃ W, W = w1.alloc (.cells #[.slice none 0 0, .int .i64 0, .int .i64 0, .slice none 0 0, .bool false, .int .i64 0, .int .i64 0, .slice none 0 0, .int .i64 0, .int .i64 0, .int .i64 0] 36) := ⟨_, rfl⟩
  have s1 : w1.heap.size = w.heap.size + 1 := by rw [hw1]; simp
  have s2 : w2.heap.size = w.heap.size + 1 + 1 := by rw [hw2, World.size_alloc, s1]
  have hb1 : BG w1 w.heap.size (.slice a1 n1 c1) n last (.slice a2 n2 c2) rn t P (.slice a3 n3 c3) gen ov wt := by rw [hw1]; exact Bx.new w _ _ _ _ _ _ _ _ _ _ _ _
  have hz2 : Bx w2 (w.heap.size + 1) (.slice none 0 0) (.int .i64 0) (.int .i64 0) (.slice none 0 0) (.bool false) (.int .i64 0) (.int .i64 0) (.slice none 0 0) (.int .i64 0) (.int .i64 0) (.int .i64 0) := by rw [hw2, ← s1]; exact Bx.new w1 _ _ _ _ _ _ _ _ _ _ _ _
  have hal2 : Ch [] w1 w2 := by rw [hw2]; exact (Ch.refl [] w1).alloc _
  have hal : Ch [] w w2 := by rw [hw1] at hal2; exact ((Ch.refl [] w).alloc _).trans hal2
  have HB := Lib.hid (hb1.quiet hal2)
  have HZ := Lib.hid hz2
  have HA := Lib.hid hal
  have HS := Lib.hid s2
  have HW := Lib.hid (show w2 = (w.alloc (.cells #[.slice a1 n1 c1, .int .i64 n, .int .i64 last, .slice a2 n2 c2, .bool rn, .int .i64 t, .int .i64 P, .slice a3 n3 c3, .int .i64 gen, .int .i64 ov, .int .i64 wt] 36)).alloc (.cells #[.slice none 0 0, .int .i64 0, .int .i64 0, .slice none 0 0, .bool false, .int .i64 0, .int .i64 0, .slice none 0 0, .int .i64 0, .int .i64 0, .int .i64 0] 36) from by rw [hw2, hw1])
  clear s1 s2 hb1 hz2 hal2 hal hw1 hw2
  have HD := Lib.hid (show D ≤ w2.heap.size by have := HS.out; omega)
  have hlt : ∀ g, (Value.slice a1 n1 c1).ownBlock = some g → g < w.heap.size := fun g e => (h.row.lt g e).2
  have HLt := Lib.hid hlt
  have C1 := Lib.hid (renter_any (h.quiet HA.out) hl HD.out r)
  clear h hl hD hlt
  obtain ⟨E, hE⟩ : ∃ E, E = enterE (runS ds) r := ⟨_, rfl⟩
  rw [← hE] at C1
  have HE := Lib.hid hE
  clear hE
  have b0 := HB.out.c0
  have b1 := HB.out.c1
  have b2 := HB.out.c2
  have b3 := HB.out.c3
  have b4 := HB.out.c4
  have b5 := HB.out.c5
  have b6 := HB.out.c6
  have b7 := HB.out.c7
  have b8 := HB.out.c8
  have b9 := HB.out.c9
  have b10 := HB.out.c10
  go_enter Tryz.func6, Tryz.ntmps6
  go_wp2_with fail
  rw [← HW.out]
  clear HW b0 b1 b2 b3 b4 b5 b6 b7 b8 b9 b10
  with_reducible refine C1.out.mono ?_
  rintro e w3 ⟨m', rfl, hr, hm, hc3⟩
  obtain ⟨a', cp', rfl⟩ := hr.form
  obtain ⟨q, hq⟩ : ∃ q, q = (deedsIn ds r).length := ⟨_, rfl⟩
  rw [← hq] at hr hm ⊢
  clear hq C1
  have HM := Lib.hid hm
  have hB3 := HB.out.quiet hc3
  have hZ3 := HZ.out.quiet hc3
  have hB4 := hB3.set0 (.slice a' q cp')
  have hZ4 : Bx (w3.setCell ⟨w.heap.size, 0, none⟩ (.slice a' q cp')) (w.heap.size + 1) _ _ _ _ _ _ _ _ _ _ _ := hZ3.ch ((Ch.refl [w.heap.size] w3).setCell (p := ⟨w.heap.size, 0, none⟩) (by simp) (.slice a' q cp')) (by simp)
  have f0 := hB3.fr 0
  have g0 := hB3.c0
  have hx := hZ4.setAll (.slice a' q cp') (.int .i64 n) (.int .i64 last) (.slice a2 n2 c2) (.bool rn) (.int .i64 t) (.int .i64 P) (.slice a3 n3 c3) (.int .i64 gen) (.int .i64 ov) (.int .i64 wt)
  have HX := Lib.hid hx
  have hcc : Ch [w.heap.size, w.heap.size + 1] w3 (st11 (w3.setCell ⟨w.heap.size, 0, none⟩ (.slice a' q cp')) (w.heap.size + 1) (.slice a' q cp') (.int .i64 n) (.int .i64 last) (.slice a2 n2 c2) (.bool rn) (.int .i64 t) (.int .i64 P) (.slice a3 n3 c3) (.int .i64 gen) (.int .i64 ov) (.int .i64 wt)) :=
    ((Ch.refl [w.heap.size, w.heap.size + 1] w3).setCell (p := ⟨w.heap.size, 0, none⟩) (by simp) (.slice a' q cp')).trans ((st11_ch _ _ _ _ _ _ _ _ _ _ _ _ _).mono (by simp))
  have HC := Lib.hid ((HA.out.trans hc3).fresh hcc (by simp))
  have HR := Lib.hid (hr.away hcc (fun k hk e => by
    rcases hm with hm | hm
    · rw [hm] at e
      have := HLt.out k e
      simp at hk
      omega
    · have := hm k e
      have := HS.out
      simp at hk
      omega))
  clear hr hm hc3 hcc hx
  have x0 := hB4.c0
  have x1 := hB4.c1
  have x2 := hB4.c2
  have x3 := hB4.c3
  have x4 := hB4.c4
  have x5 := hB4.c5
  have x6 := hB4.c6
  have x7 := hB4.c7
  have x8 := hB4.c8
  have x9 := hB4.c9
  have x10 := hB4.c10
  have z0 := hZ4.c0
  have z1 := hZ4.c1
  have z2 := hZ4.c2
  have z3 := hZ4.c3
  have z4 := hZ4.c4
  have z5 := hZ4.c5
  have z6 := hZ4.c6
  have z7 := hZ4.c7
  have z8 := hZ4.c8
  have z9 := hZ4.c9
  have z10 := hZ4.c10
  have zf := hZ4.fr
  clear hB3 hZ3 hB4 hZ4
  go_wp2_with fail
  clear x0 x1 x2 x3 x4 x5 x6 x7 x8 x9 x10 z0 z1 z2 z3 z4 z5 z6 z7 z8 z9 z10 zf f0 g0
  generalize hW3 : st11 (w3.setCell ⟨w.heap.size, 0, none⟩ (.slice a' q cp')) (w.heap.size + 1) (.slice a' q cp') (.int .i64 n) (.int .i64 last) (.slice a2 n2 c2) (.bool rn) (.int .i64 t) (.int .i64 P) (.slice a3 n3 c3) (.int .i64 gen) (.int .i64 ov) (.int .i64 wt) = w5 at *
  unfold st11 at hW3
  rw [hW3]
  have y0 := HX.out.c0
  have y1 := HX.out.c1
  have y2 := HX.out.c2
  have y3 := HX.out.c3
  have y4 := HX.out.c4
  have y5 := HX.out.c5
  have y6 := HX.out.c6
  have y7 := HX.out.c7
  have y8 := HX.out.c8
  have y9 := HX.out.c9
  have y10 := HX.out.c10
  refine bodyPost_ret (v := .tuple #[gv (.slice a' q cp') n last (.slice a2 n2 c2) rn t P (.slice a3 n3 c3) gen ov wt, .int .i64 E]) ?_ rfl ?_
  · simp [results, Tryz.f6, go_sem, y0, y1, y2, y3, y4, y5, y6, y7, y8, y9, y10]
  · exact ⟨a', q, cp', by rw [HE.out], HR.out, HC.out, fun k e => by
      rcases HM.out with hm | hm
      · rw [hm] at e; exact .inl e
      · have := hm k e; have := HS.out; right; omega⟩
end
section
variable {a1 : Option Addr} {n1 c1 : Nat} {a2 : Option Addr} {n2 c2 : Nat} {a3 : Option Addr} {n3 c3 : Nat} {n last : Int} {rn : Bool} {t P gen ov wt : Int}
set_option maxRecDepth 100000 in
set_option maxHeartbeats 2000000 in
theorem gz_exit {w : World} {D : Nat} {ds : List (Nat × Bool)} (h : RD w D (.slice a1 n1 c1) ds) (hl : ds.length ≤ 900) (hD : D ≤ w.heap.size) (r : Int) :
    Calls Tryz.prog 8 #[gv (.slice a1 n1 c1) n last (.slice a2 n2 c2) rn t P (.slice a3 n3 c3) gen ov wt, .int .i64 r] w fun e w' => ∃ a1' n1' c1', e = .returned (.tuple #[gv (.slice a1' n1' c1') n last (.slice a2 n2 c2) rn t P (.slice a3 n3 c3) gen ov wt, .bool (exitB (runS ds) r), .int .i64 (exitE (runS ds) r)]) ∧ RD w' D (.slice a1' n1' c1') (deedsOut ds r) ∧ Ch [] w w' ∧ (∀ k, (Value.slice a1' n1' c1').ownBlock = some k → (Value.slice a1 n1 c1).ownBlock = some k ∨ w.heap.size ≤ k) := by
  obtain ⟨w1, hw1⟩ : ∃ W, W = w.alloc (.cells #[.slice a1 n1 c1, .int .i64 n, .int .i64 last, .slice a2 n2 c2, .bool rn, .int .i64 t, .int .i64 P, .slice a3 n3 c3, .int .i64 gen, .int .i64 ov, .int .i64 wt] 36) := ⟨_, rfl⟩
  obtain ⟨w2, hw2⟩ : ∃ W, W = w1.alloc (.cells #[.slice none 0 0, .int .i64 0, .int .i64 0, .slice none 0 0, .bool false, .int .i64 0, .int .i64 0, .slice none 0 0, .int .i64 0, .int .i64 0, .int .i64 0] 36) := ⟨_, rfl⟩
  have s1 : w1.heap.size = w.heap.size + 1 := by rw [hw1]; simp
  have s2 : w2.heap.size = w.heap.size + 1 + 1 := by rw [hw2, World.size_alloc, s1]
  have hb1 : BG w1 w.heap.size (.slice a1 n1 c1) n last (.slice a2 n2 c2) rn t P (.slice a3 n3 c3) gen ov wt := by rw [hw1]; exact Bx.new w _ _ _ _ _ _ _ _ _ _ _ _
  have hz2 : Bx w2 (w.heap.size + 1) (.slice none 0 0) (.int .i64 0) (.int .i64 0) (.slice none 0 0) (.bool false) (.int .i64 0) (.int .i64 0) (.slice none 0 0) (.int .i64 0) (.int .i64 0) (.int .i64 0) := by rw [hw2, ← s1]; exact Bx.new w1 _ _ _ _ _ _ _ _ _ _ _ _
  have hal2 : Ch [] w1 w2 := by rw [hw2]; exact (Ch.refl [] w1).alloc _
  have hal : Ch [] w w2 := by rw [hw1] at hal2; exact ((Ch.refl [] w).alloc _).trans hal2
  have HB := Lib.hid (hb1.quiet hal2)
  have HZ := Lib.hid hz2
  have HA := Lib.hid hal
  have HS := Lib.hid s2
  have HW := Lib.hid (show w2 = (w.alloc (.cells #[.slice a1 n1 c1, .int .i64 n, .int .i64 last, .slice a2 n2 c2, .bool rn, .int .i64 t, .int .i64 P, .slice a3 n3 c3, .int .i64 gen, .int .i64 ov, .int .i64 wt] 36)).alloc (.cells #[.slice none 0 0, .int .i64 0, .int .i64 0, .slice none 0 0, .bool false, .int .i64 0, .int .i64 0, .slice none 0 0, .int .i64 0, .int .i64 0, .int .i64 0] 36) from by rw [hw2, hw1])
  clear s1 s2 hb1 hz2 hal2 hal hw1 hw2
  have HD := Lib.hid (show D ≤ w2.heap.size by have := HS.out; omega)
  have hlt : ∀ g, (Value.slice a1 n1 c1).ownBlock = some g → g < w.heap.size := fun g e => (h.row.lt g e).2
  have HLt := Lib.hid hlt
  have C1 := Lib.hid (rexit_any (h.quiet HA.out) hl HD.out r)
  clear h hl hD hlt
  obtain ⟨E, hE⟩ : ∃ E, E = exitE (runS ds) r := ⟨_, rfl⟩
  obtain ⟨U, hU⟩ : ∃ U, U = exitB (runS ds) r := ⟨_, rfl⟩
  rw [← hE, ← hU] at C1
  have HE := Lib.hid hE
  have HU := Lib.hid hU
  clear hE hU
  have b0 := HB.out.c0
  have b1 := HB.out.c1
  have b2 := HB.out.c2
  have b3 := HB.out.c3
  have b4 := HB.out.c4
  have b5 := HB.out.c5
  have b6 := HB.out.c6
  have b7 := HB.out.c7
  have b8 := HB.out.c8
  have b9 := HB.out.c9
  have b10 := HB.out.c10
  go_enter Tryz.func8, Tryz.ntmps8
  go_wp2_with fail
  rw [← HW.out]
  clear HW b0 b1 b2 b3 b4 b5 b6 b7 b8 b9 b10
  with_reducible refine C1.out.mono ?_
  rintro e w3 ⟨m', rfl, hr, hm, hc3⟩
  obtain ⟨a', cp', rfl⟩ := hr.form
  obtain ⟨q, hq⟩ : ∃ q, q = (deedsOut ds r).length := ⟨_, rfl⟩
  rw [← hq] at hr hm ⊢
  clear hq C1
  have HM := Lib.hid hm
  have hB3 := HB.out.quiet hc3
  have hZ3 := HZ.out.quiet hc3
  have hB4 := hB3.set0 (.slice a' q cp')
  have hZ4 : Bx (w3.setCell ⟨w.heap.size, 0, none⟩ (.slice a' q cp')) (w.heap.size + 1) _ _ _ _ _ _ _ _ _ _ _ := hZ3.ch ((Ch.refl [w.heap.size] w3).setCell (p := ⟨w.heap.size, 0, none⟩) (by simp) (.slice a' q cp')) (by simp)
  have f0 := hB3.fr 0
  have g0 := hB3.c0
  have hx := hZ4.setAll (.slice a' q cp') (.int .i64 n) (.int .i64 last) (.slice a2 n2 c2) (.bool rn) (.int .i64 t) (.int .i64 P) (.slice a3 n3 c3) (.int .i64 gen) (.int .i64 ov) (.int .i64 wt)
  have HX := Lib.hid hx
  have hcc : Ch [w.heap.size, w.heap.size + 1] w3 (st11 (w3.setCell ⟨w.heap.size, 0, none⟩ (.slice a' q cp')) (w.heap.size + 1) (.slice a' q cp') (.int .i64 n) (.int .i64 last) (.slice a2 n2 c2) (.bool rn) (.int .i64 t) (.int .i64 P) (.slice a3 n3 c3) (.int .i64 gen) (.int .i64 ov) (.int .i64 wt)) :=
    ((Ch.refl [w.heap.size, w.heap.size + 1] w3).setCell (p := ⟨w.heap.size, 0, none⟩) (by simp) (.slice a' q cp')).trans ((st11_ch _ _ _ _ _ _ _ _ _ _ _ _ _).mono (by simp))
  have HC := Lib.hid ((HA.out.trans hc3).fresh hcc (by simp))
  have HR := Lib.hid (hr.away hcc (fun k hk e => by
    rcases hm with hm | hm
    · rw [hm] at e
      have := HLt.out k e
      simp at hk
      omega
    · have := hm k e
      have := HS.out
      simp at hk
      omega))
  clear hr hm hc3 hcc hx
  have x0 := hB4.c0
  have x1 := hB4.c1
  have x2 := hB4.c2
  have x3 := hB4.c3
  have x4 := hB4.c4
  have x5 := hB4.c5
  have x6 := hB4.c6
  have x7 := hB4.c7
  have x8 := hB4.c8
  have x9 := hB4.c9
  have x10 := hB4.c10
  have z0 := hZ4.c0
  have z1 := hZ4.c1
  have z2 := hZ4.c2
  have z3 := hZ4.c3
  have z4 := hZ4.c4
  have z5 := hZ4.c5
  have z6 := hZ4.c6
  have z7 := hZ4.c7
  have z8 := hZ4.c8
  have z9 := hZ4.c9
  have z10 := hZ4.c10
  have zf := hZ4.fr
  clear hB3 hZ3 hB4 hZ4
  go_wp2_with fail
  clear x0 x1 x2 x3 x4 x5 x6 x7 x8 x9 x10 z0 z1 z2 z3 z4 z5 z6 z7 z8 z9 z10 zf f0 g0
  generalize hW3 : st11 (w3.setCell ⟨w.heap.size, 0, none⟩ (.slice a' q cp')) (w.heap.size + 1) (.slice a' q cp') (.int .i64 n) (.int .i64 last) (.slice a2 n2 c2) (.bool rn) (.int .i64 t) (.int .i64 P) (.slice a3 n3 c3) (.int .i64 gen) (.int .i64 ov) (.int .i64 wt) = w5 at *
  unfold st11 at hW3
  rw [hW3]
  have y0 := HX.out.c0
  have y1 := HX.out.c1
  have y2 := HX.out.c2
  have y3 := HX.out.c3
  have y4 := HX.out.c4
  have y5 := HX.out.c5
  have y6 := HX.out.c6
  have y7 := HX.out.c7
  have y8 := HX.out.c8
  have y9 := HX.out.c9
  have y10 := HX.out.c10
  refine bodyPost_ret (v := .tuple #[gv (.slice a' q cp') n last (.slice a2 n2 c2) rn t P (.slice a3 n3 c3) gen ov wt, .bool U, .int .i64 E]) ?_ rfl ?_
  · simp [results, Tryz.f8, go_sem, y0, y1, y2, y3, y4, y5, y6, y7, y8, y9, y10]
  · exact ⟨a', q, cp', by rw [HE.out, HU.out], HR.out, HC.out, fun k e => by
      rcases HM.out with hm | hm
      · rw [hm] at e; exact .inl e
      · have := hm k e; have := HS.out; right; omega⟩
end
end Go.Proofs.YtjoaigadlpndcaaGreatDoor
