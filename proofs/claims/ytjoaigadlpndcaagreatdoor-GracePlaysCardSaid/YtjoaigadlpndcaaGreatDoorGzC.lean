/-
  The answer's domain: Call, Holdouts, Barrier, New.
-/
import Derived.Test.YtjoaigadlpndcaaGreatDoorGzB
namespace Go.Proofs.YtjoaigadlpndcaaGreatDoor
open Go.RowKit Go.Shelf

section
variable {a1 : Option Addr} {n1 c1 : Nat} {a2 : Option Addr} {n2 c2 : Nat} {a3 : Option Addr} {n3 c3 : Nat} {n last : Int} {rn : Bool} {t P gen ov wt : Int}
/-- What the lists' Add comes to, wherever new blocks were laid. -/
def AddOk (w : World) (n last c : Int) (v vz : Value) (M' : List Cb) (E : Int) : Prop :=
  ∀ w2, Ch [] w w2 → w.heap.size + 1 < w2.heap.size → Calls Tryz.prog 37 #[.agg #[.int .i64 n, .int .i64 last, v], .int .i64 c, vz] w2 fun e w3 =>
    ∃ v', e = .returned (retC n last v' (.int .i64 E)) ∧ RowC w3 v' M' ∧ (∀ g, v'.ownBlock = some g → (v.ownBlock = some g ∧ g < w.heap.size) ∨ w2.heap.size ≤ g) ∧ Ch [] w2 w3
set_option maxRecDepth 100000 in
set_option maxHeartbeats 2000000 in
theorem gz_call {w : World} {a4 : Option Addr} {n4 c4 : Nat} {c : Int} {M' : List Cb} {E : Int} (h : AddOk w n last c (.slice a2 n2 c2) (.slice a4 n4 c4) M' E) :
    Calls Tryz.prog 10 #[gv (.slice a1 n1 c1) n last (.slice a2 n2 c2) rn t P (.slice a3 n3 c3) gen ov wt, .int .i64 c, .slice a4 n4 c4] w fun e w' => ∃ a2' n2' c2', e = .returned (.tuple #[gv (.slice a1 n1 c1) n last (.slice a2' n2' c2') rn t P (.slice a3 n3 c3) gen ov wt, .int .i64 E]) ∧ RowC w' (.slice a2' n2' c2') M' ∧ Ch [] w w' ∧ (∀ k, (Value.slice a2' n2' c2').ownBlock = some k → (Value.slice a2 n2 c2).ownBlock = some k ∨ w.heap.size ≤ k) := by
  obtain ⟨w1, hw1⟩ : ∃ W, W = w.alloc (.cells #[.slice a1 n1 c1, .int .i64 n, .int .i64 last, .slice a2 n2 c2, .bool rn, .int .i64 t, .int .i64 P, .slice a3 n3 c3, .int .i64 gen, .int .i64 ov, .int .i64 wt] 36) := ⟨_, rfl⟩
  obtain ⟨w2, hw2⟩ : ∃ W, W = w1.alloc (.cells #[.slice none 0 0, .int .i64 0, .int .i64 0, .slice none 0 0, .bool false, .int .i64 0, .int .i64 0, .slice none 0 0, .int .i64 0, .int .i64 0, .int .i64 0] 36) := ⟨_, rfl⟩
  have s1 : w1.heap.size = w.heap.size + 1 := by rw [hw1]; simp
  have s2 : w2.heap.size = w.heap.size + 1 + 1 := by rw [hw2, World.size_alloc, s1]
  have hb1 : BG w1 w.heap.size (.slice a1 n1 c1) n last (.slice a2 n2 c2) rn t P (.slice a3 n3 c3) gen ov wt := by rw [hw1]; exact Bx.new w _ _ _ _ _ _ _ _ _ _ _ _
  have hz2 : Bx w2 (w.heap.size + 1) (.slice none 0 0) (.int .i64 0) (.int .i64 0) (.slice none 0 0) (.bool false) (.int .i64 0) (.int .i64 0) (.slice none 0 0) (.int .i64 0) (.int .i64 0) (.int .i64 0) := by rw [hw2, ← s1]; exact Bx.new w1 _ _ _ _ _ _ _ _ _ _ _ _
  have hal2 : Ch [] w1 w2 := by rw [hw2]; exact (Ch.refl [] w1).alloc _
  have hal : Ch [] w w2 := by rw [hw1] at hal2; exact ((Ch.refl [] w).alloc _).trans hal2
  have HB := Lib.hid (hb1.quiet hal2)
  have HZ := Lib.hid hz2
  have HA := Lib.hid hal
  have HS := Lib.hid s2
  have HW := Lib.hid (show w2 = (w.alloc (.cells #[.slice a1 n1 c1, .int .i64 n, .int .i64 last, .slice a2 n2 c2, .bool rn, .int .i64 t, .int .i64 P, .slice a3 n3 c3, .int .i64 gen, .int .i64 ov, .int .i64 wt] 36)).alloc (.cells #[.slice none 0 0, .int .i64 0, .int .i64 0, .slice none 0 0, .bool false, .int .i64 0, .int .i64 0, .slice none 0 0, .int .i64 0, .int .i64 0, .int .i64 0] 36) from by rw [hw2, hw1])
  clear s1 s2 hb1 hz2 hal2 hal hw1 hw2
  have C1 := Lib.hid (h w2 HA.out (by have := HS.out; omega))
  clear h
  have b0 := HB.out.c0
  have b1 := HB.out.c1
  have b2 := HB.out.c2
  have b3 := HB.out.c3
  have b4 := HB.out.c4
  have b5 := HB.out.c5
  have b6 := HB.out.c6
  have b7 := HB.out.c7
  have b8 := HB.out.c8
  have b9 := HB.out.c9
  have b10 := HB.out.c10
  go_enter Tryz.func10, Tryz.ntmps10
  go_wp2_with fail
  rw [← HW.out]
  clear HW b0 b1 b2 b3 b4 b5 b6 b7 b8 b9 b10
  with_reducible refine C1.out.mono ?_
  rintro e w3 ⟨v', rfl, hr, hm, hc3⟩
  obtain ⟨a', cp', rfl⟩ := hr.form
  obtain ⟨q, hq⟩ : ∃ q, q = M'.length := ⟨_, rfl⟩
  rw [← hq] at hr hm ⊢
  clear hq C1
  have HM := Lib.hid hm
  unfold retC
  obtain ⟨w4, hw4⟩ : ∃ W, W = w3.alloc (.cells #[.int .i64 n, .int .i64 last, .slice a' q cp'] 31) := ⟨_, rfl⟩
  have hc4 : Ch [] w3 w4 := by rw [hw4]; exact (Ch.refl [] w3).alloc _
  have h3 := Three.new w3 (.int .i64 n) (.int .i64 last) (.slice a' q cp') 31
  rw [← hw4] at h3
  have hB4 := HB.out.quiet (hc3.trans hc4)
  have hZ4 := HZ.out.quiet (hc3.trans hc4)
  have hB7 := ((hB4.set1 (.int .i64 n)).set2 (.int .i64 last)).set3 (.slice a' q cp')
  obtain ⟨w7, hw7⟩ : ∃ W, W = ((w4.setCell ⟨w.heap.size, 1, none⟩ (.int .i64 n)).setCell ⟨w.heap.size, 2, none⟩ (.int .i64 last)).setCell ⟨w.heap.size, 3, none⟩ (.slice a' q cp') := ⟨_, rfl⟩
  have hc7 : Ch [w.heap.size] w4 w7 := by rw [hw7]; exact (((Ch.refl [w.heap.size] w4).setCell (p := ⟨w.heap.size, 1, none⟩) (by simp) _).setCell (p := ⟨w.heap.size, 2, none⟩) (by simp) _).setCell (p := ⟨w.heap.size, 3, none⟩) (by simp) _
  have hZ7 := hZ4.ch hc7 (by simp)
  rw [← hw7] at hB7
  have HX := Lib.hid (hZ7.setAll (.slice a1 n1 c1) (.int .i64 n) (.int .i64 last) (.slice a' q cp') (.bool rn) (.int .i64 t) (.int .i64 P) (.slice a3 n3 c3) (.int .i64 gen) (.int .i64 ov) (.int .i64 wt))
  have hcc : Ch [w.heap.size, w.heap.size + 1] w4 (st11 w7 (w.heap.size + 1) (.slice a1 n1 c1) (.int .i64 n) (.int .i64 last) (.slice a' q cp') (.bool rn) (.int .i64 t) (.int .i64 P) (.slice a3 n3 c3) (.int .i64 gen) (.int .i64 ov) (.int .i64 wt)) := (hc7.mono (by simp)).trans ((st11_ch _ _ _ _ _ _ _ _ _ _ _ _ _).mono (by simp))
  have HC := Lib.hid (((HA.out.trans hc3).trans hc4).fresh hcc (by simp))
  have HR := Lib.hid ((hr.quiet hc4).ch hcc (fun g e => by
    have h1 := hm g e
    have := HS.out
    simp
    omega))
  have HW4 := Lib.hid hw4
  rw [hw7] at hB7 hZ7
  have HW7 := Lib.hid hw7
  have b0 := h3.c0
  have b1 := h3.c1
  have b2 := h3.c2
  have o1 := hB4.c1
  have o2 := hB4.c2
  have o3 := hB4.c3
  have of := hB4.fr
  have hB5 := hB4.set1 (.int .i64 n)
  have p2 := hB5.c2
  have hB6 := hB5.set2 (.int .i64 last)
  have p3 := hB6.c3
  have x0 := hB7.c0
  have x1 := hB7.c1
  have x2 := hB7.c2
  have x3 := hB7.c3
  have x4 := hB7.c4
  have x5 := hB7.c5
  have x6 := hB7.c6
  have x7 := hB7.c7
  have x8 := hB7.c8
  have x9 := hB7.c9
  have x10 := hB7.c10
  have z0 := hZ7.c0
  have z1 := hZ7.c1
  have z2 := hZ7.c2
  have z3 := hZ7.c3
  have z4 := hZ7.c4
  have z5 := hZ7.c5
  have z6 := hZ7.c6
  have z7 := hZ7.c7
  have z8 := hZ7.c8
  have z9 := hZ7.c9
  have z10 := hZ7.c10
  have zf := hZ7.fr
  rw [hw4] at b0 b1 b2 o1 o2 o3 of p2 p3 zf x0 z0 x1 z1 x2 z2 x3 z3 x4 z4 x5 z5 x6 z6 x7 z7 x8 z8 x9 z9 x10 z10
  clear hr hm hc3 hc4 h3 hB4 hZ4 hB5 hB6 hB7 hZ7 hc7 hcc hw4 hw7
  go_wp2_with fail
  rw [← HW4.out, ← HW7.out]
  clear x0 x1 x2 x3 x4 x5 x6 x7 x8 x9 x10 z0 z1 z2 z3 z4 z5 z6 z7 z8 z9 z10 zf b0 b1 b2 o1 o2 o3 of p2 p3
  generalize hW3 : st11 w7 (w.heap.size + 1) (.slice a1 n1 c1) (.int .i64 n) (.int .i64 last) (.slice a' q cp') (.bool rn) (.int .i64 t) (.int .i64 P) (.slice a3 n3 c3) (.int .i64 gen) (.int .i64 ov) (.int .i64 wt) = w8 at *
  unfold st11 at hW3
  rw [hW3]
  have y0 := HX.out.c0
  have y1 := HX.out.c1
  have y2 := HX.out.c2
  have y3 := HX.out.c3
  have y4 := HX.out.c4
  have y5 := HX.out.c5
  have y6 := HX.out.c6
  have y7 := HX.out.c7
  have y8 := HX.out.c8
  have y9 := HX.out.c9
  have y10 := HX.out.c10
  refine bodyPost_ret (v := .tuple #[gv (.slice a1 n1 c1) n last (.slice a' q cp') rn t P (.slice a3 n3 c3) gen ov wt, .int .i64 E]) ?_ rfl ?_
  · simp [results, Tryz.f10, go_sem, y0, y1, y2, y3, y4, y5, y6, y7, y8, y9, y10]
  · exact ⟨a', q, cp', rfl, HR.out, HC.out, fun k e => by
      rcases HM.out k e with hm | hm
      · exact .inl hm.1
      · have := HS.out; right; omega⟩
set_option maxHeartbeats 1000000 in
theorem gz_hold0 (w : World) :
    Calls Tryz.prog 25 #[gv (.slice a1 n1 c1) n last (.slice a2 n2 c2) false t P (.slice a3 n3 c3) gen ov wt] w fun e w' => e = .returned (.int .u64 0) ∧ Ch [] w w' := by
  obtain ⟨w1, hw1⟩ : ∃ W, W = w.alloc (.cells #[.slice a1 n1 c1, .int .i64 n, .int .i64 last, .slice a2 n2 c2, .bool false, .int .i64 t, .int .i64 P, .slice a3 n3 c3, .int .i64 gen, .int .i64 ov, .int .i64 wt] 36) := ⟨_, rfl⟩
  have hb1 : BG w1 w.heap.size (.slice a1 n1 c1) n last (.slice a2 n2 c2) false t P (.slice a3 n3 c3) gen ov wt := by rw [hw1]; exact Bx.new w _ _ _ _ _ _ _ _ _ _ _ _
  have hal : Ch [] w w1 := by rw [hw1]; exact (Ch.refl [] w).alloc _
  have HB := Lib.hid hb1
  have HA := Lib.hid hal
  have HW := Lib.hid hw1
  clear hb1 hal hw1
  have b0 := HB.out.c0
  have b1 := HB.out.c1
  have b2 := HB.out.c2
  have b3 := HB.out.c3
  have b4 := HB.out.c4
  have b5 := HB.out.c5
  have b6 := HB.out.c6
  have b7 := HB.out.c7
  have b8 := HB.out.c8
  have b9 := HB.out.c9
  have b10 := HB.out.c10
  rw [HW.out] at b0 b1 b2 b3 b4 b5 b6 b7 b8 b9 b10
  go_enter Tryz.func25, Tryz.ntmps25
  go_wp2_with fail
  go_ret
  rw [← HW.out]
  exact ⟨rfl, HA.out⟩
set_option maxHeartbeats 1000000 in
theorem gz_hold1 {w : World} {D g cap : Nat} {p : Nat → Bool} (h : RB w D g cap p) {P : Nat} {k : Nat} (hk : mskN p = k) :
    Calls Tryz.prog 25 #[gv (.slice a1 n1 c1) n last (.slice a2 n2 c2) true t (P : Int) (.slice (some ⟨g, 0, none⟩) 64 cap) gen ov wt] w fun e w' => e = .returned (.int .u64 (k : Int)) ∧ Ch [] w w' := by
  obtain ⟨w1, hw1⟩ : ∃ W, W = w.alloc (.cells #[.slice a1 n1 c1, .int .i64 n, .int .i64 last, .slice a2 n2 c2, .bool true, .int .i64 t, .int .i64 (P : Int), (.slice (some ⟨g, 0, none⟩) 64 cap), .int .i64 gen, .int .i64 ov, .int .i64 wt] 36) := ⟨_, rfl⟩
  have hb1 : BG w1 w.heap.size (.slice a1 n1 c1) n last (.slice a2 n2 c2) true t (P : Int) (.slice (some ⟨g, 0, none⟩) 64 cap) gen ov wt := by rw [hw1]; exact Bx.new w _ _ _ _ _ _ _ _ _ _ _ _
  have hal : Ch [] w w1 := by rw [hw1]; exact (Ch.refl [] w).alloc _
  have HB := Lib.hid hb1
  have HA := Lib.hid hal
  have HW := Lib.hid hw1
  clear hb1 hal hw1
  have C1 := Lib.hid (rword_any (h.quiet HA.out) t P hk)
  clear h
  have b0 := HB.out.c0
  have b1 := HB.out.c1
  have b2 := HB.out.c2
  have b3 := HB.out.c3
  have b4 := HB.out.c4
  have b5 := HB.out.c5
  have b6 := HB.out.c6
  have b7 := HB.out.c7
  have b8 := HB.out.c8
  have b9 := HB.out.c9
  have b10 := HB.out.c10
  rw [HW.out] at b0 b1 b2 b3 b4 b5 b6 b7 b8 b9 b10
  go_enter Tryz.func25, Tryz.ntmps25
  go_wp2_with fail
  rw [← HW.out]
  with_reducible refine C1.out.mono ?_
  rintro e w2 ⟨rfl, hc⟩
  have HC := Lib.hid (HA.out.trans hc)
  clear hc b0 b1 b2 b3 b4 b5 b6 b7 b8 b9 b10
  go_wp2_with fail
  go_ret
  exact ⟨rfl, HC.out⟩
set_option maxHeartbeats 1000000 in
theorem gz_barrier {w : World} {M : List Cb} (h : RowC w (.slice a2 n2 c2) M) (hl : M.length ≤ 1000000) (hg : -1000000 ≤ gen ∧ gen ≤ 1000000) {v : Int} (hv : (if 0 < zcM M then gen + 1 else mxM M) = v) :
    Calls Tryz.prog 28 #[gv (.slice a1 n1 c1) n last (.slice a2 n2 c2) rn t P (.slice a3 n3 c3) gen ov wt] w fun e w' => e = .returned (.int .i64 v) ∧ Ch [] w w' := by
  obtain ⟨w1, hw1⟩ : ∃ W, W = w.alloc (.cells #[.slice a1 n1 c1, .int .i64 n, .int .i64 last, .slice a2 n2 c2, .bool rn, .int .i64 t, .int .i64 P, .slice a3 n3 c3, .int .i64 gen, .int .i64 ov, .int .i64 wt] 36) := ⟨_, rfl⟩
  have hb1 : BG w1 w.heap.size (.slice a1 n1 c1) n last (.slice a2 n2 c2) rn t P (.slice a3 n3 c3) gen ov wt := by rw [hw1]; exact Bx.new w _ _ _ _ _ _ _ _ _ _ _ _
  have hal : Ch [] w w1 := by rw [hw1]; exact (Ch.refl [] w).alloc _
  have HB := Lib.hid hb1
  have HA := Lib.hid hal
  have HW := Lib.hid hw1
  clear hb1 hal hw1
  have C1 := Lib.hid (ropen_any (h.quiet HA.out) hl n last)
  by_cases hz : 0 < zcM M
  · rw [if_pos hz] at hv
    have hw : IntKind.i64.wrap (gen + 1) = v := by rw [IntWalk.i64_in _ (by omega)]; exact hv
    obtain ⟨z, hzz⟩ : ∃ z, z = zcM M := ⟨_, rfl⟩
    rw [← hzz] at C1 hz
    clear h hl hg hv hzz
    have b0 := HB.out.c0
    have b1 := HB.out.c1
    have b2 := HB.out.c2
    have b3 := HB.out.c3
    have b4 := HB.out.c4
    have b5 := HB.out.c5
    have b6 := HB.out.c6
    have b7 := HB.out.c7
    have b8 := HB.out.c8
    have b9 := HB.out.c9
    have b10 := HB.out.c10
    rw [HW.out] at b0 b1 b2 b3 b4 b5 b6 b7 b8 b9 b10
    go_enter Tryz.func28, Tryz.ntmps28
    go_wp2_with fail
    rw [← HW.out]
    with_reducible refine C1.out.mono ?_
    rintro e w2 ⟨rfl, hc⟩
    have k8 := (HB.out.quiet hc).c8
    have HC := Lib.hid (HA.out.trans hc)
    clear hc b0 b1 b2 b3 b4 b5 b6 b7 b8 b9 b10
    go_wp2_with fail
    go_ret
    exact ⟨rfl, HC.out⟩
  · rw [if_neg hz] at hv
    have hz0 : zcM M = 0 := by omega
    rw [hz0, hv] at C1
    clear h hl hg hv hz hz0
    have b0 := HB.out.c0
    have b1 := HB.out.c1
    have b2 := HB.out.c2
    have b3 := HB.out.c3
    have b4 := HB.out.c4
    have b5 := HB.out.c5
    have b6 := HB.out.c6
    have b7 := HB.out.c7
    have b8 := HB.out.c8
    have b9 := HB.out.c9
    have b10 := HB.out.c10
    rw [HW.out] at b0 b1 b2 b3 b4 b5 b6 b7 b8 b9 b10
    go_enter Tryz.func28, Tryz.ntmps28
    go_wp2_with fail
    rw [← HW.out]
    with_reducible refine C1.out.mono ?_
    rintro e w2 ⟨rfl, hc⟩
    have HC := Lib.hid (HA.out.trans hc)
    clear hc b0 b1 b2 b3 b4 b5 b6 b7 b8 b9 b10
    go_wp2_with fail
    go_ret
    exact ⟨rfl, HC.out⟩
end
set_option maxHeartbeats 1000000 in
theorem gz_new (n : Int) (w : World) :
    Calls Tryz.prog 5 #[.int .i64 n] w fun e w' => e = .returned (gv (.slice none 0 0) n 0 (.slice none 0 0) false 0 0 (.slice none 0 0) 0 0 0) ∧ Ch [] w w' := by
  have hx := Bx.new w (.slice none 0 0) (.int .i64 n) (.int .i64 0) (.slice none 0 0) (.bool false) (.int .i64 0) (.int .i64 0) (.slice none 0 0) (.int .i64 0) (.int .i64 0) (.int .i64 0) 36
  have y0 := hx.c0
  have y1 := hx.c1
  have y2 := hx.c2
  have y3 := hx.c3
  have y4 := hx.c4
  have y5 := hx.c5
  have y6 := hx.c6
  have y7 := hx.c7
  have y8 := hx.c8
  have y9 := hx.c9
  have y10 := hx.c10
  have HA := Lib.hid ((Ch.refl [] w).alloc (.cells #[.slice none 0 0, .int .i64 n, .int .i64 0, .slice none 0 0, .bool false, .int .i64 0, .int .i64 0, .slice none 0 0, .int .i64 0, .int .i64 0, .int .i64 0] 36))
  clear hx
  go_enter Tryz.func5, Tryz.ntmps5
  go_wp2_with fail
  refine bodyPost_ret (v := gv (.slice none 0 0) n 0 (.slice none 0 0) false 0 0 (.slice none 0 0) 0 0 0) ?_ rfl ?_
  · simp [results, Tryz.f5, go_sem]
  · exact ⟨rfl, HA.out⟩
end Go.Proofs.YtjoaigadlpndcaaGreatDoor
