/-
  The answer's copy: a value of eight cells; Try at each of its ends. (Written by gen/rtry14.py.)
-/
import Derived.Test.YtcdolkbljheniaaCpH
namespace Go.Proofs.Ytcdolkbljheniaa
open Go.RowKit

/-- A block of eight cells that may be written. -/
structure Bx (w : World) (b : Nat) (x0 x1 x2 x3 x4 x5 x6 x7 : Value) : Prop where
  c0 : w.cell? ⟨b, 0, none⟩ = some x0
  c1 : w.cell? ⟨b, 1, none⟩ = some x1
  c2 : w.cell? ⟨b, 2, none⟩ = some x2
  c3 : w.cell? ⟨b, 3, none⟩ = some x3
  c4 : w.cell? ⟨b, 4, none⟩ = some x4
  c5 : w.cell? ⟨b, 5, none⟩ = some x5
  c6 : w.cell? ⟨b, 6, none⟩ = some x6
  c7 : w.cell? ⟨b, 7, none⟩ = some x7
  fr : ∀ k, w.frozen? ⟨b, k, none⟩ = false
/-- All of them written. -/
def st8 (w : World) (b : Nat) (x0 x1 x2 x3 x4 x5 x6 x7 : Value) : World := ((((((((w.setCell ⟨b, 0, none⟩ x0).setCell ⟨b, 1, none⟩ x1).setCell ⟨b, 2, none⟩ x2).setCell ⟨b, 3, none⟩ x3).setCell ⟨b, 4, none⟩ x4).setCell ⟨b, 5, none⟩ x5).setCell ⟨b, 6, none⟩ x6).setCell ⟨b, 7, none⟩ x7)
section
variable {w w' : World} {b : Nat} {x0 x1 x2 x3 x4 x5 x6 x7 : Value}
theorem Bx.lt (h : Bx w b x0 x1 x2 x3 x4 x5 x6 x7) : b < w.heap.size := cell_lt h.c0
theorem Bx.ch {S : List Nat} (h : Bx w b x0 x1 x2 x3 x4 x5 x6 x7) (hc : Ch S w w') (hb : b ∉ S) : Bx w' b x0 x1 x2 x3 x4 x5 x6 x7 :=
  have c : ∀ o, w'.cell? ⟨b, o, none⟩ = w.cell? ⟨b, o, none⟩ := fun o => World.cell?_of_block (a := ⟨b, o, none⟩) (hc.block b h.lt hb)
  ⟨(c _).trans h.c0, (c _).trans h.c1, (c _).trans h.c2, (c _).trans h.c3, (c _).trans h.c4, (c _).trans h.c5, (c _).trans h.c6, (c _).trans h.c7, fun k => (World.frozen?_of_block (a := ⟨b, k, none⟩) (hc.block b h.lt hb)).trans (h.fr k)⟩
theorem Bx.quiet (h : Bx w b x0 x1 x2 x3 x4 x5 x6 x7) (hc : Ch [] w w') : Bx w' b x0 x1 x2 x3 x4 x5 x6 x7 := h.ch hc (by simp)
theorem Bx.new (w : World) (x0 x1 x2 x3 x4 x5 x6 x7 : Value) (t : TypeId) : Bx (w.alloc (.cells #[x0, x1, x2, x3, x4, x5, x6, x7] t)) w.heap.size x0 x1 x2 x3 x4 x5 x6 x7 :=
  ⟨by rw [World.cell?_alloc_at _ _ _ _ rfl]; rfl, by rw [World.cell?_alloc_at _ _ _ _ rfl]; rfl, by rw [World.cell?_alloc_at _ _ _ _ rfl]; rfl, by rw [World.cell?_alloc_at _ _ _ _ rfl]; rfl, by rw [World.cell?_alloc_at _ _ _ _ rfl]; rfl, by rw [World.cell?_alloc_at _ _ _ _ rfl]; rfl, by rw [World.cell?_alloc_at _ _ _ _ rfl]; rfl, by rw [World.cell?_alloc_at _ _ _ _ rfl]; rfl, fun k => World.frozen?_alloc_new w _ _ _⟩
theorem Bx.set0 (h : Bx w b x0 x1 x2 x3 x4 x5 x6 x7) (y : Value) : Bx (w.setCell ⟨b, 0, none⟩ y) b y x1 x2 x3 x4 x5 x6 x7 :=
  ⟨setCell_same h.c0, setCell_other h.c1 (addr_ne_off (by decide)), setCell_other h.c2 (addr_ne_off (by decide)), setCell_other h.c3 (addr_ne_off (by decide)), setCell_other h.c4 (addr_ne_off (by decide)), setCell_other h.c5 (addr_ne_off (by decide)), setCell_other h.c6 (addr_ne_off (by decide)), setCell_other h.c7 (addr_ne_off (by decide)), fun k => by simpa using h.fr k⟩
theorem Bx.set1 (h : Bx w b x0 x1 x2 x3 x4 x5 x6 x7) (y : Value) : Bx (w.setCell ⟨b, 1, none⟩ y) b x0 y x2 x3 x4 x5 x6 x7 :=
  ⟨setCell_other h.c0 (addr_ne_off (by decide)), setCell_same h.c1, setCell_other h.c2 (addr_ne_off (by decide)), setCell_other h.c3 (addr_ne_off (by decide)), setCell_other h.c4 (addr_ne_off (by decide)), setCell_other h.c5 (addr_ne_off (by decide)), setCell_other h.c6 (addr_ne_off (by decide)), setCell_other h.c7 (addr_ne_off (by decide)), fun k => by simpa using h.fr k⟩
theorem Bx.set2 (h : Bx w b x0 x1 x2 x3 x4 x5 x6 x7) (y : Value) : Bx (w.setCell ⟨b, 2, none⟩ y) b x0 x1 y x3 x4 x5 x6 x7 :=
  ⟨setCell_other h.c0 (addr_ne_off (by decide)), setCell_other h.c1 (addr_ne_off (by decide)), setCell_same h.c2, setCell_other h.c3 (addr_ne_off (by decide)), setCell_other h.c4 (addr_ne_off (by decide)), setCell_other h.c5 (addr_ne_off (by decide)), setCell_other h.c6 (addr_ne_off (by decide)), setCell_other h.c7 (addr_ne_off (by decide)), fun k => by simpa using h.fr k⟩
theorem Bx.set3 (h : Bx w b x0 x1 x2 x3 x4 x5 x6 x7) (y : Value) : Bx (w.setCell ⟨b, 3, none⟩ y) b x0 x1 x2 y x4 x5 x6 x7 :=
  ⟨setCell_other h.c0 (addr_ne_off (by decide)), setCell_other h.c1 (addr_ne_off (by decide)), setCell_other h.c2 (addr_ne_off (by decide)), setCell_same h.c3, setCell_other h.c4 (addr_ne_off (by decide)), setCell_other h.c5 (addr_ne_off (by decide)), setCell_other h.c6 (addr_ne_off (by decide)), setCell_other h.c7 (addr_ne_off (by decide)), fun k => by simpa using h.fr k⟩
theorem Bx.set4 (h : Bx w b x0 x1 x2 x3 x4 x5 x6 x7) (y : Value) : Bx (w.setCell ⟨b, 4, none⟩ y) b x0 x1 x2 x3 y x5 x6 x7 :=
  ⟨setCell_other h.c0 (addr_ne_off (by decide)), setCell_other h.c1 (addr_ne_off (by decide)), setCell_other h.c2 (addr_ne_off (by decide)), setCell_other h.c3 (addr_ne_off (by decide)), setCell_same h.c4, setCell_other h.c5 (addr_ne_off (by decide)), setCell_other h.c6 (addr_ne_off (by decide)), setCell_other h.c7 (addr_ne_off (by decide)), fun k => by simpa using h.fr k⟩
theorem Bx.set5 (h : Bx w b x0 x1 x2 x3 x4 x5 x6 x7) (y : Value) : Bx (w.setCell ⟨b, 5, none⟩ y) b x0 x1 x2 x3 x4 y x6 x7 :=
  ⟨setCell_other h.c0 (addr_ne_off (by decide)), setCell_other h.c1 (addr_ne_off (by decide)), setCell_other h.c2 (addr_ne_off (by decide)), setCell_other h.c3 (addr_ne_off (by decide)), setCell_other h.c4 (addr_ne_off (by decide)), setCell_same h.c5, setCell_other h.c6 (addr_ne_off (by decide)), setCell_other h.c7 (addr_ne_off (by decide)), fun k => by simpa using h.fr k⟩
theorem Bx.set6 (h : Bx w b x0 x1 x2 x3 x4 x5 x6 x7) (y : Value) : Bx (w.setCell ⟨b, 6, none⟩ y) b x0 x1 x2 x3 x4 x5 y x7 :=
  ⟨setCell_other h.c0 (addr_ne_off (by decide)), setCell_other h.c1 (addr_ne_off (by decide)), setCell_other h.c2 (addr_ne_off (by decide)), setCell_other h.c3 (addr_ne_off (by decide)), setCell_other h.c4 (addr_ne_off (by decide)), setCell_other h.c5 (addr_ne_off (by decide)), setCell_same h.c6, setCell_other h.c7 (addr_ne_off (by decide)), fun k => by simpa using h.fr k⟩
theorem Bx.set7 (h : Bx w b x0 x1 x2 x3 x4 x5 x6 x7) (y : Value) : Bx (w.setCell ⟨b, 7, none⟩ y) b x0 x1 x2 x3 x4 x5 x6 y :=
  ⟨setCell_other h.c0 (addr_ne_off (by decide)), setCell_other h.c1 (addr_ne_off (by decide)), setCell_other h.c2 (addr_ne_off (by decide)), setCell_other h.c3 (addr_ne_off (by decide)), setCell_other h.c4 (addr_ne_off (by decide)), setCell_other h.c5 (addr_ne_off (by decide)), setCell_other h.c6 (addr_ne_off (by decide)), setCell_same h.c7, fun k => by simpa using h.fr k⟩
theorem Bx.setAll (h : Bx w b x0 x1 x2 x3 x4 x5 x6 x7) (y0 y1 y2 y3 y4 y5 y6 y7 : Value) : Bx (st8 w b y0 y1 y2 y3 y4 y5 y6 y7) b y0 y1 y2 y3 y4 y5 y6 y7 := ((((((((h.set0 y0).set1 y1).set2 y2).set3 y3).set4 y4).set5 y5).set6 y6).set7 y7)
end
theorem st8_ch (w : World) (b : Nat) (x0 x1 x2 x3 x4 x5 x6 x7 : Value) : Ch [b] w (st8 w b x0 x1 x2 x3 x4 x5 x6 x7) := (((((((((Ch.refl [b] w).setCell (p := ⟨b, 0, none⟩) (by simp) x0).setCell (p := ⟨b, 1, none⟩) (by simp) x1).setCell (p := ⟨b, 2, none⟩) (by simp) x2).setCell (p := ⟨b, 3, none⟩) (by simp) x3).setCell (p := ⟨b, 4, none⟩) (by simp) x4).setCell (p := ⟨b, 5, none⟩) (by simp) x5).setCell (p := ⟨b, 6, none⟩) (by simp) x6).setCell (p := ⟨b, 7, none⟩) (by simp) x7)
section
variable {w : World} {g N cp : Nat} {f h : Nat → Int}
set_option maxHeartbeats 1000000 in
theorem rtry_over (w : World) (o wt : Bool) (a : Int) (n : Nat) (pg : Int) (t : Nat) (s0 : Option Addr) (n0 cap0 : Nat) (wait : Bool) :
    Calls Try.prog 14 #[.slice (some ⟨g, 0, none⟩) N cp, .agg #[.bool o, .bool true, .bool wt, .int .i64 a, .int .i64 (n : Int), .int .i64 pg, .int .i64 (t : Int), .slice s0 n0 cap0], .bool wait] w fun e w' => e = .returned (.tuple #[.slice (some ⟨g, 0, none⟩) N cp, .agg #[.bool o, .bool true, .bool wt, .int .i64 a, .int .i64 (n : Int), .int .i64 pg, .int .i64 (t : Int), .slice s0 n0 cap0], .int .i64 6]) ∧ Ch [] w w' := by
  obtain ⟨w1, hw1⟩ : ∃ W, W = w.alloc (.cells #[.bool o, .bool true, .bool wt, .int .i64 a, .int .i64 (n : Int), .int .i64 pg, .int .i64 (t : Int), .slice s0 n0 cap0] 40) := ⟨_, rfl⟩
  obtain ⟨w2, hw2⟩ : ∃ W, W = w1.alloc (.cells #[.bool false, .bool false, .bool false, .int .i64 0, .int .i64 0, .int .i64 0, .int .i64 0, .slice none 0 0] 40) := ⟨_, rfl⟩
  have s1 : w1.heap.size = w.heap.size + 1 := by rw [hw1]; simp
  have s2 : w2.heap.size = w.heap.size + 1 + 1 := by rw [hw2, World.size_alloc, s1]
  have hb1 : Bx w1 w.heap.size (.bool o) (.bool true) (.bool wt) (.int .i64 a) (.int .i64 (n : Int)) (.int .i64 pg) (.int .i64 (t : Int)) (.slice s0 n0 cap0) := by rw [hw1]; exact Bx.new w _ _ _ _ _ _ _ _ _
  have hz2 : Bx w2 (w.heap.size + 1) (.bool false) (.bool false) (.bool false) (.int .i64 0) (.int .i64 0) (.int .i64 0) (.int .i64 0) (.slice none 0 0) := by rw [hw2, ← s1]; exact Bx.new w1 _ _ _ _ _ _ _ _ _
  have hal2 : Ch [] w1 w2 := by rw [hw2]; exact (Ch.refl [] w1).alloc _
  have hal : Ch [] w w2 := by rw [hw1] at hal2; exact ((Ch.refl [] w).alloc _).trans hal2
  have HB := Lib.hid (hb1.quiet hal2)
  have HZ := Lib.hid hz2
  have HA := Lib.hid hal
  have HS := Lib.hid s2
  have HW := Lib.hid (show w2 = (w.alloc (.cells #[.bool o, .bool true, .bool wt, .int .i64 a, .int .i64 (n : Int), .int .i64 pg, .int .i64 (t : Int), .slice s0 n0 cap0] 40)).alloc (.cells #[.bool false, .bool false, .bool false, .int .i64 0, .int .i64 0, .int .i64 0, .int .i64 0, .slice none 0 0] 40) from by rw [hw2, hw1])
  have HK := HA
  clear s1 s2 hb1 hz2 hal2 hal hw1 hw2
  go_enter Try.func14, Try.ntmps14
  go_wp2_with fail
  rw [← HW.out]
  clear HW
  have x0 := HB.out.c0
  have x1 := HB.out.c1
  have x2 := HB.out.c2
  have x3 := HB.out.c3
  have x4 := HB.out.c4
  have x5 := HB.out.c5
  have x6 := HB.out.c6
  have x7 := HB.out.c7
  have z0 := HZ.out.c0
  have z1 := HZ.out.c1
  have z2 := HZ.out.c2
  have z3 := HZ.out.c3
  have z4 := HZ.out.c4
  have z5 := HZ.out.c5
  have z6 := HZ.out.c6
  have z7 := HZ.out.c7
  have zf := HZ.out.fr
  go_region
  have hx := HZ.out.setAll (.bool o) (.bool true) (.bool wt) (.int .i64 a) (.int .i64 (n : Int)) (.int .i64 pg) (.int .i64 (t : Int)) (.slice s0 n0 cap0)
  have HC := Lib.hid (HK.out.fresh (st8_ch w2 (w.heap.size + 1) (.bool o) (.bool true) (.bool wt) (.int .i64 a) (.int .i64 (n : Int)) (.int .i64 pg) (.int .i64 (t : Int)) (.slice s0 n0 cap0)) (by simp))
  clear x0 x1 x2 x3 x4 x5 x6 x7 z0 z1 z2 z3 z4 z5 z6 z7 zf
  generalize hW3 : st8 w2 (w.heap.size + 1) (.bool o) (.bool true) (.bool wt) (.int .i64 a) (.int .i64 (n : Int)) (.int .i64 pg) (.int .i64 (t : Int)) (.slice s0 n0 cap0) = w9 at *
  unfold st8 at hW3
  rw [hW3]
  clear hW3
  go_wp2_with fail
  have y0 := hx.c0
  have y1 := hx.c1
  have y2 := hx.c2
  have y3 := hx.c3
  have y4 := hx.c4
  have y5 := hx.c5
  have y6 := hx.c6
  have y7 := hx.c7
  refine bodyPost_ret (v := .tuple #[.slice (some ⟨g, 0, none⟩) N cp, .agg #[.bool o, .bool true, .bool wt, .int .i64 a, .int .i64 (n : Int), .int .i64 pg, .int .i64 (t : Int), .slice s0 n0 cap0], .int .i64 6]) ?_ rfl ?_
  · simp [results, Try.f14, go_sem, y0, y1, y2, y3, y4, y5, y6, y7]
  · exact ⟨rfl, HC.out.drew⟩
set_option maxHeartbeats 2000000 in
theorem rtry_wait {w : World} (r : RM w g N f h) (hN : N ≤ 256) (o : Bool) (wt : Bool) (a : Int) (n : Nat) (pg : Int) {t T : Nat} (hT : t + 1 = T) (ht : t < 1000000) (s0 : Option Addr) (n0 cap0 : Nat) {p q : Int} (hpq : touchR N h a n = (p, q)) (hq : q = 15) :
    Calls Try.prog 14 #[.slice (some ⟨g, 0, none⟩) N cp, .agg #[.bool o, .bool false, .bool wt, .int .i64 a, .int .i64 (n : Int), .int .i64 pg, .int .i64 (t : Int), .slice s0 n0 cap0], .bool true] w fun e w' => e = .returned (.tuple #[.slice (some ⟨g, 0, none⟩) N cp, .agg #[.bool o, .bool false, .bool true, .int .i64 a, .int .i64 (n : Int), .int .i64 p, .int .i64 (T : Int), .slice s0 n0 cap0], .int .i64 15]) ∧ Ch [] w w' := by
  subst hq
  have hw : IntKind.i64.wrap ((t : Int) + 1) = (T : Int) := by rw [IntWalk.i64_in _ (by omega)]; omega
  obtain ⟨w1, hw1⟩ : ∃ W, W = w.alloc (.cells #[.bool o, .bool false, .bool wt, .int .i64 a, .int .i64 (n : Int), .int .i64 pg, .int .i64 (T : Int), .slice s0 n0 cap0] 40) := ⟨_, rfl⟩
  obtain ⟨w2, hw2⟩ : ∃ W, W = w1.alloc (.cells #[.bool false, .bool false, .bool false, .int .i64 0, .int .i64 0, .int .i64 0, .int .i64 0, .slice none 0 0] 40) := ⟨_, rfl⟩
  have s1 : w1.heap.size = w.heap.size + 1 := by rw [hw1]; simp
  have s2 : w2.heap.size = w.heap.size + 1 + 1 := by rw [hw2, World.size_alloc, s1]
  have hb1 : Bx w1 w.heap.size (.bool o) (.bool false) (.bool wt) (.int .i64 a) (.int .i64 (n : Int)) (.int .i64 pg) (.int .i64 (T : Int)) (.slice s0 n0 cap0) := by rw [hw1]; exact Bx.new w _ _ _ _ _ _ _ _ _
  have hz2 : Bx w2 (w.heap.size + 1) (.bool false) (.bool false) (.bool false) (.int .i64 0) (.int .i64 0) (.int .i64 0) (.int .i64 0) (.slice none 0 0) := by rw [hw2, ← s1]; exact Bx.new w1 _ _ _ _ _ _ _ _ _
  have hal2 : Ch [] w1 w2 := by rw [hw2]; exact (Ch.refl [] w1).alloc _
  have hal : Ch [] w w2 := by rw [hw1] at hal2; exact ((Ch.refl [] w).alloc _).trans hal2
  have HB := Lib.hid (hb1.quiet hal2)
  have HZ := Lib.hid hz2
  have HA := Lib.hid hal
  have HS := Lib.hid s2
  have HW := Lib.hid (show w2 = (w.alloc (.cells #[.bool o, .bool false, .bool wt, .int .i64 a, .int .i64 (n : Int), .int .i64 pg, .int .i64 (T : Int), .slice s0 n0 cap0] 40)).alloc (.cells #[.bool false, .bool false, .bool false, .int .i64 0, .int .i64 0, .int .i64 0, .int .i64 0, .slice none 0 0] 40) from by rw [hw2, hw1])
  have C1 := Lib.hid (rtouch_any (cap := cp) (r.ch hal (by simp)) hN a n hpq)
  obtain ⟨w4, hw4⟩ : ∃ W, W = (w2.setCell ⟨w.heap.size, 2, none⟩ (.bool true)).setCell ⟨w.heap.size, 5, none⟩ (.int .i64 p) := ⟨_, rfl⟩
  have hck : Ch [w.heap.size] w2 w4 := by rw [hw4]; exact ((Ch.refl _ _).setCell (p := ⟨w.heap.size, 2, none⟩) (by simp) _).setCell (p := ⟨w.heap.size, 5, none⟩) (by simp) _
  have HB4 := Lib.hid (show Bx w4 w.heap.size (.bool o) (.bool false) (.bool true) (.int .i64 a) (.int .i64 (n : Int)) (.int .i64 p) (.int .i64 (T : Int)) (.slice s0 n0 cap0) from by rw [hw4]; exact (HB.out.set2 _).set5 _)
  have HZ4 := Lib.hid (HZ.out.ch hck (by simp))
  have HK := Lib.hid (HA.out.fresh hck (by simp))
  have HW4 := Lib.hid hw4
  clear r hpq hN hT ht hck hw4 s1 s2 hb1 hz2 hal2 hal hw1 hw2
  have b0 := HB.out.c0
  have b1 := HB.out.c1
  have b2 := HB.out.c2
  have b3 := HB.out.c3
  have b4 := HB.out.c4
  have b5 := HB.out.c5
  have b6 := HB.out.c6
  have b7 := HB.out.c7
  have bf := HB.out.fr
  go_enter Try.func14, Try.ntmps14
  go_wp2_with fail
  rw [← HW.out]
  clear HW hw
  with_reducible refine C1.out.mono ?_
  rintro e w' ⟨rfl, rfl⟩
  clear C1
  go_wp2_with fail
  rw [← HW4.out]
  clear HW4 b0 b1 b2 b3 b4 b5 b6 b7 bf
  have x0 := HB4.out.c0
  have x1 := HB4.out.c1
  have x2 := HB4.out.c2
  have x3 := HB4.out.c3
  have x4 := HB4.out.c4
  have x5 := HB4.out.c5
  have x6 := HB4.out.c6
  have x7 := HB4.out.c7
  have z0 := HZ4.out.c0
  have z1 := HZ4.out.c1
  have z2 := HZ4.out.c2
  have z3 := HZ4.out.c3
  have z4 := HZ4.out.c4
  have z5 := HZ4.out.c5
  have z6 := HZ4.out.c6
  have z7 := HZ4.out.c7
  have zf := HZ4.out.fr
  go_region
  have hx := HZ4.out.setAll (.bool o) (.bool false) (.bool true) (.int .i64 a) (.int .i64 (n : Int)) (.int .i64 p) (.int .i64 (T : Int)) (.slice s0 n0 cap0)
  have HC := Lib.hid (HK.out.fresh (st8_ch w4 (w.heap.size + 1) (.bool o) (.bool false) (.bool true) (.int .i64 a) (.int .i64 (n : Int)) (.int .i64 p) (.int .i64 (T : Int)) (.slice s0 n0 cap0)) (by simp))
  clear x0 x1 x2 x3 x4 x5 x6 x7 z0 z1 z2 z3 z4 z5 z6 z7 zf
  generalize hW3 : st8 w4 (w.heap.size + 1) (.bool o) (.bool false) (.bool true) (.int .i64 a) (.int .i64 (n : Int)) (.int .i64 p) (.int .i64 (T : Int)) (.slice s0 n0 cap0) = w9 at *
  unfold st8 at hW3
  rw [hW3]
  clear hW3
  go_wp2_with fail
  have y0 := hx.c0
  have y1 := hx.c1
  have y2 := hx.c2
  have y3 := hx.c3
  have y4 := hx.c4
  have y5 := hx.c5
  have y6 := hx.c6
  have y7 := hx.c7
  refine bodyPost_ret (v := .tuple #[.slice (some ⟨g, 0, none⟩) N cp, .agg #[.bool o, .bool false, .bool true, .int .i64 a, .int .i64 (n : Int), .int .i64 p, .int .i64 (T : Int), .slice s0 n0 cap0], .int .i64 15]) ?_ rfl ?_
  · simp [results, Try.f14, go_sem, y0, y1, y2, y3, y4, y5, y6, y7]
  · exact ⟨rfl, HC.out.drew⟩
set_option maxHeartbeats 2000000 in
theorem rtry_fail_out {w : World} (r : RM w g N f h) (hN : N ≤ 256) (wait : Bool) (wt : Bool) (a : Int) (n : Nat) (pg : Int) {t T : Nat} (hT : t + 1 = T) (ht : t < 1000000) (s0 : Option Addr) (n0 cap0 : Nat) {p q : Int} (hpq : touchR N h a n = (p, q)) (hq : ((q == 0) = false ∧ (q == 15) = false) ∨ (q = 15 ∧ wait = false)) :
    Calls Try.prog 14 #[.slice (some ⟨g, 0, none⟩) N cp, .agg #[.bool true, .bool false, .bool wt, .int .i64 a, .int .i64 (n : Int), .int .i64 pg, .int .i64 (t : Int), .slice s0 n0 cap0], .bool wait] w fun e w' => e = .returned (.tuple #[.slice (some ⟨g, 0, none⟩) N cp, .agg #[.bool true, .bool true, .bool false, .int .i64 a, .int .i64 (n : Int), .int .i64 0, .int .i64 (T : Int), .slice s0 n0 cap0], .int .i64 14]) ∧ Ch [] w w' := by
  have hw : IntKind.i64.wrap ((t : Int) + 1) = (T : Int) := by rw [IntWalk.i64_in _ (by omega)]; omega
  obtain ⟨w1, hw1⟩ : ∃ W, W = w.alloc (.cells #[.bool true, .bool false, .bool wt, .int .i64 a, .int .i64 (n : Int), .int .i64 pg, .int .i64 (T : Int), .slice s0 n0 cap0] 40) := ⟨_, rfl⟩
  obtain ⟨w2, hw2⟩ : ∃ W, W = w1.alloc (.cells #[.bool false, .bool false, .bool false, .int .i64 0, .int .i64 0, .int .i64 0, .int .i64 0, .slice none 0 0] 40) := ⟨_, rfl⟩
  have s1 : w1.heap.size = w.heap.size + 1 := by rw [hw1]; simp
  have s2 : w2.heap.size = w.heap.size + 1 + 1 := by rw [hw2, World.size_alloc, s1]
  have hb1 : Bx w1 w.heap.size (.bool true) (.bool false) (.bool wt) (.int .i64 a) (.int .i64 (n : Int)) (.int .i64 pg) (.int .i64 (T : Int)) (.slice s0 n0 cap0) := by rw [hw1]; exact Bx.new w _ _ _ _ _ _ _ _ _
  have hz2 : Bx w2 (w.heap.size + 1) (.bool false) (.bool false) (.bool false) (.int .i64 0) (.int .i64 0) (.int .i64 0) (.int .i64 0) (.slice none 0 0) := by rw [hw2, ← s1]; exact Bx.new w1 _ _ _ _ _ _ _ _ _
  have hal2 : Ch [] w1 w2 := by rw [hw2]; exact (Ch.refl [] w1).alloc _
  have hal : Ch [] w w2 := by rw [hw1] at hal2; exact ((Ch.refl [] w).alloc _).trans hal2
  have HB := Lib.hid (hb1.quiet hal2)
  have HZ := Lib.hid hz2
  have HA := Lib.hid hal
  have HS := Lib.hid s2
  have HW := Lib.hid (show w2 = (w.alloc (.cells #[.bool true, .bool false, .bool wt, .int .i64 a, .int .i64 (n : Int), .int .i64 pg, .int .i64 (T : Int), .slice s0 n0 cap0] 40)).alloc (.cells #[.bool false, .bool false, .bool false, .int .i64 0, .int .i64 0, .int .i64 0, .int .i64 0, .slice none 0 0] 40) from by rw [hw2, hw1])
  have C1 := Lib.hid (rtouch_any (cap := cp) (r.ch hal (by simp)) hN a n hpq)
  obtain ⟨w4, hw4⟩ : ∃ W, W = ((w2.setCell ⟨w.heap.size, 1, none⟩ (.bool true)).setCell ⟨w.heap.size, 2, none⟩ (.bool false)).setCell ⟨w.heap.size, 5, none⟩ (.int .i64 0) := ⟨_, rfl⟩
  have hck : Ch [w.heap.size] w2 w4 := by rw [hw4]; exact (((Ch.refl _ _).setCell (p := ⟨w.heap.size, 1, none⟩) (by simp) _).setCell (p := ⟨w.heap.size, 2, none⟩) (by simp) _).setCell (p := ⟨w.heap.size, 5, none⟩) (by simp) _
  have hb4 : Bx w4 w.heap.size (.bool true) (.bool true) (.bool false) (.int .i64 a) (.int .i64 (n : Int)) (.int .i64 0) (.int .i64 (T : Int)) (.slice s0 n0 cap0) := by rw [hw4]; exact ((HB.out.set1 _).set2 _).set5 _
  have hz4 := HZ.out.ch hck (by simp)
  have hk4 := HA.out.fresh hck (by simp)
  have HW4 := Lib.hid hw4
  have HB4 := Lib.hid hb4
  have HZ4 := Lib.hid hz4
  have HK := Lib.hid hk4
  clear r hpq hN hT ht hck hw4 hb4 hz4 hk4 s1 s2 hb1 hz2 hal2 hal hw1 hw2
  have b0 := HB.out.c0
  have b1 := HB.out.c1
  have b2 := HB.out.c2
  have b3 := HB.out.c3
  have b4 := HB.out.c4
  have b5 := HB.out.c5
  have b6 := HB.out.c6
  have b7 := HB.out.c7
  have bf := HB.out.fr
  rcases hq with ⟨q0, q15⟩ | ⟨rfl, rfl⟩
  all_goals
    go_enter Try.func14, Try.ntmps14
    go_wp2_with fail
    rw [← HW.out]
    clear HW hw
    with_reducible refine C1.out.mono ?_
    rintro e w' ⟨rfl, rfl⟩
    clear C1
    go_wp2_with fail
    rw [← HW4.out]
    clear HW4 b0 b1 b2 b3 b4 b5 b6 b7 bf
    have x0 := HB4.out.c0
    have x1 := HB4.out.c1
    have x2 := HB4.out.c2
    have x3 := HB4.out.c3
    have x4 := HB4.out.c4
    have x5 := HB4.out.c5
    have x6 := HB4.out.c6
    have x7 := HB4.out.c7
    have z0 := HZ4.out.c0
    have z1 := HZ4.out.c1
    have z2 := HZ4.out.c2
    have z3 := HZ4.out.c3
    have z4 := HZ4.out.c4
    have z5 := HZ4.out.c5
    have z6 := HZ4.out.c6
    have z7 := HZ4.out.c7
    have zf := HZ4.out.fr
    go_region
    have hx := HZ4.out.setAll (.bool true) (.bool true) (.bool false) (.int .i64 a) (.int .i64 (n : Int)) (.int .i64 0) (.int .i64 (T : Int)) (.slice s0 n0 cap0)
    have HC := Lib.hid (HK.out.fresh (st8_ch w4 (w.heap.size + 1) (.bool true) (.bool true) (.bool false) (.int .i64 a) (.int .i64 (n : Int)) (.int .i64 0) (.int .i64 (T : Int)) (.slice s0 n0 cap0)) (by simp))
    clear x0 x1 x2 x3 x4 x5 x6 x7 z0 z1 z2 z3 z4 z5 z6 z7 zf
    generalize hW3 : st8 w4 (w.heap.size + 1) (.bool true) (.bool true) (.bool false) (.int .i64 a) (.int .i64 (n : Int)) (.int .i64 0) (.int .i64 (T : Int)) (.slice s0 n0 cap0) = w9 at *
    unfold st8 at hW3
    rw [hW3]
    clear hW3
    go_wp2_with fail
    have y0 := hx.c0
    have y1 := hx.c1
    have y2 := hx.c2
    have y3 := hx.c3
    have y4 := hx.c4
    have y5 := hx.c5
    have y6 := hx.c6
    have y7 := hx.c7
    refine bodyPost_ret (v := .tuple #[.slice (some ⟨g, 0, none⟩) N cp, .agg #[.bool true, .bool true, .bool false, .int .i64 a, .int .i64 (n : Int), .int .i64 0, .int .i64 (T : Int), .slice s0 n0 cap0], .int .i64 14]) ?_ rfl ?_
    · simp [results, Try.f14, go_sem, y0, y1, y2, y3, y4, y5, y6, y7]
    · exact ⟨rfl, HC.out.drew⟩
set_option maxHeartbeats 2000000 in
theorem rtry_fail_in {w : World} (r : RM w g N f h) (hN : N ≤ 256) (wait : Bool) (wt : Bool) (a : Int) (n : Nat) (pg : Int) {t T : Nat} (hT : t + 1 = T) (ht : t < 1000000) (s0 : Option Addr) (n0 cap0 : Nat) {p q : Int} (hpq : touchR N h a n = (p, q)) (hq : ((q == 0) = false ∧ (q == 15) = false) ∨ (q = 15 ∧ wait = false)) (hn : n ≤ 64) :
    Calls Try.prog 14 #[.slice (some ⟨g, 0, none⟩) N cp, .agg #[.bool false, .bool false, .bool wt, .int .i64 a, .int .i64 (n : Int), .int .i64 pg, .int .i64 (t : Int), .slice s0 n0 cap0], .bool wait] w fun e w' => ∃ v', e = .returned (.tuple #[.slice (some ⟨g, 0, none⟩) N cp, .agg #[.bool false, .bool true, .bool false, .int .i64 a, .int .i64 (n : Int), .int .i64 0, .int .i64 (T : Int), .slice v' n n], .int .i64 14]) ∧ BytesAt w' v' (List.replicate n 0) ∧ Ch [] w w' ∧ ∀ y, v' = some y → w.heap.size ≤ y.block := by
  have hw : IntKind.i64.wrap ((t : Int) + 1) = (T : Int) := by rw [IntWalk.i64_in _ (by omega)]; omega
  obtain ⟨w1, hw1⟩ : ∃ W, W = w.alloc (.cells #[.bool false, .bool false, .bool wt, .int .i64 a, .int .i64 (n : Int), .int .i64 pg, .int .i64 (T : Int), .slice s0 n0 cap0] 40) := ⟨_, rfl⟩
  obtain ⟨w2, hw2⟩ : ∃ W, W = w1.alloc (.cells #[.bool false, .bool false, .bool false, .int .i64 0, .int .i64 0, .int .i64 0, .int .i64 0, .slice none 0 0] 40) := ⟨_, rfl⟩
  have s1 : w1.heap.size = w.heap.size + 1 := by rw [hw1]; simp
  have s2 : w2.heap.size = w.heap.size + 1 + 1 := by rw [hw2, World.size_alloc, s1]
  have hb1 : Bx w1 w.heap.size (.bool false) (.bool false) (.bool wt) (.int .i64 a) (.int .i64 (n : Int)) (.int .i64 pg) (.int .i64 (T : Int)) (.slice s0 n0 cap0) := by rw [hw1]; exact Bx.new w _ _ _ _ _ _ _ _ _
  have hz2 : Bx w2 (w.heap.size + 1) (.bool false) (.bool false) (.bool false) (.int .i64 0) (.int .i64 0) (.int .i64 0) (.int .i64 0) (.slice none 0 0) := by rw [hw2, ← s1]; exact Bx.new w1 _ _ _ _ _ _ _ _ _
  have hal2 : Ch [] w1 w2 := by rw [hw2]; exact (Ch.refl [] w1).alloc _
  have hal : Ch [] w w2 := by rw [hw1] at hal2; exact ((Ch.refl [] w).alloc _).trans hal2
  have HB := Lib.hid (hb1.quiet hal2)
  have HZ := Lib.hid hz2
  have HA := Lib.hid hal
  have HS := Lib.hid s2
  have HW := Lib.hid (show w2 = (w.alloc (.cells #[.bool false, .bool false, .bool wt, .int .i64 a, .int .i64 (n : Int), .int .i64 pg, .int .i64 (T : Int), .slice s0 n0 cap0] 40)).alloc (.cells #[.bool false, .bool false, .bool false, .int .i64 0, .int .i64 0, .int .i64 0, .int .i64 0, .slice none 0 0] 40) from by rw [hw2, hw1])
  have C1 := Lib.hid (rtouch_any (cap := cp) (r.ch hal (by simp)) hN a n hpq)
  obtain ⟨w4, hw4⟩ : ∃ W, W = ((w2.setCell ⟨w.heap.size, 1, none⟩ (.bool true)).setCell ⟨w.heap.size, 2, none⟩ (.bool false)).setCell ⟨w.heap.size, 5, none⟩ (.int .i64 0) := ⟨_, rfl⟩
  have hck : Ch [w.heap.size] w2 w4 := by rw [hw4]; exact (((Ch.refl _ _).setCell (p := ⟨w.heap.size, 1, none⟩) (by simp) _).setCell (p := ⟨w.heap.size, 2, none⟩) (by simp) _).setCell (p := ⟨w.heap.size, 5, none⟩) (by simp) _
  have hb4 : Bx w4 w.heap.size (.bool false) (.bool true) (.bool false) (.int .i64 a) (.int .i64 (n : Int)) (.int .i64 0) (.int .i64 (T : Int)) (.slice s0 n0 cap0) := by rw [hw4]; exact ((HB.out.set1 _).set2 _).set5 _
  have hz4 := HZ.out.ch hck (by simp)
  have hk4 := HA.out.fresh hck (by simp)
  have HW4 := Lib.hid hw4
  have hsz : w4.heap.size = w2.heap.size := by rw [hw4]; simp [World.setCell]
  obtain ⟨w5, hw5⟩ : ∃ W, W = w4.alloc (.cells (madeCells #[.int .u8 0] n) 5) := ⟨_, rfl⟩
  have hc5 : Ch [] w4 w5 := by rw [hw5]; exact (Ch.refl _ _).alloc _
  have hz5 : BytesAt w5 (some ⟨w2.heap.size, 0, none⟩) (List.replicate n 0) := by rw [hw5, ← hsz]; exact zeros_at w4 n _
  have hb5 := hb4.quiet hc5
  have e7 := hb5.c7
  have ef := hb5.fr 7
  obtain ⟨w6, hw6⟩ : ∃ W, W = w5.setCell ⟨w.heap.size, 7, none⟩ (.slice (some ⟨w2.heap.size, 0, none⟩) n n) := ⟨_, rfl⟩
  have hck6 : Ch [w.heap.size] w5 w6 := by rw [hw6]; exact (Ch.refl _ _).setCell (p := ⟨w.heap.size, 7, none⟩) (by simp) _
  have HB6 := Lib.hid (show Bx w6 w.heap.size (.bool false) (.bool true) (.bool false) (.int .i64 a) (.int .i64 (n : Int)) (.int .i64 0) (.int .i64 (T : Int)) (.slice (some ⟨w2.heap.size, 0, none⟩) n n) from by rw [hw6]; exact hb5.set7 _)
  have HZ6 := Lib.hid ((hz4.quiet hc5).ch hck6 (by simp))
  have HK := Lib.hid ((hk4.trans hc5).fresh hck6 (by simp))
  have HY := Lib.hid (hz5.ch hck6 (fun y e => by cases e; have := HS.out; simp; omega))
  have hmk : (Instr.makeSlice 23 (.int .i64 (n : Int)) (.int .i64 (n : Int))).run Try.prog w4 = .ok (.slice (some ⟨w2.heap.size, 0, none⟩) n n) w5 := by rw [hw5, ← hsz]; exact zmake hn w4
  have HW6 := Lib.hid hw6
  have m0 := hb4.c0
  have m4 := hb4.c4
  rw [hw4] at hmk m0 m4
  clear r hpq hN hT ht hn hck hw4 hb4 hz4 hk4 hsz hw5 hc5 hz5 hb5 hw6 hck6 s1 s2 hb1 hz2 hal2 hal hw1 hw2
  have b0 := HB.out.c0
  have b1 := HB.out.c1
  have b2 := HB.out.c2
  have b3 := HB.out.c3
  have b4 := HB.out.c4
  have b5 := HB.out.c5
  have b6 := HB.out.c6
  have b7 := HB.out.c7
  have bf := HB.out.fr
  rcases hq with ⟨q0, q15⟩ | ⟨rfl, rfl⟩
  all_goals
    go_enter Try.func14, Try.ntmps14
    go_wp2_with fail
    rw [← HW.out]
    clear HW hw
    with_reducible refine C1.out.mono ?_
    rintro e w' ⟨rfl, rfl⟩
    clear C1
    go_wp2_with fail
    rw [← HW6.out]
    clear HW6 HW4 m0 m4 hmk e7 ef b0 b1 b2 b3 b4 b5 b6 b7 bf
    have x0 := HB6.out.c0
    have x1 := HB6.out.c1
    have x2 := HB6.out.c2
    have x3 := HB6.out.c3
    have x4 := HB6.out.c4
    have x5 := HB6.out.c5
    have x6 := HB6.out.c6
    have x7 := HB6.out.c7
    have z0 := HZ6.out.c0
    have z1 := HZ6.out.c1
    have z2 := HZ6.out.c2
    have z3 := HZ6.out.c3
    have z4 := HZ6.out.c4
    have z5 := HZ6.out.c5
    have z6 := HZ6.out.c6
    have z7 := HZ6.out.c7
    have zf := HZ6.out.fr
    go_region
    have hx := HZ6.out.setAll (.bool false) (.bool true) (.bool false) (.int .i64 a) (.int .i64 (n : Int)) (.int .i64 0) (.int .i64 (T : Int)) (.slice (some ⟨w2.heap.size, 0, none⟩) n n)
    have HC := Lib.hid (HK.out.fresh (st8_ch w6 (w.heap.size + 1) (.bool false) (.bool true) (.bool false) (.int .i64 a) (.int .i64 (n : Int)) (.int .i64 0) (.int .i64 (T : Int)) (.slice (some ⟨w2.heap.size, 0, none⟩) n n)) (by simp))
    have HYC := Lib.hid (HY.out.ch (st8_ch w6 (w.heap.size + 1) (.bool false) (.bool true) (.bool false) (.int .i64 a) (.int .i64 (n : Int)) (.int .i64 0) (.int .i64 (T : Int)) (.slice (some ⟨w2.heap.size, 0, none⟩) n n)) (by have := HS.out; simp; omega))
    clear x0 x1 x2 x3 x4 x5 x6 x7 z0 z1 z2 z3 z4 z5 z6 z7 zf
    generalize hW3 : st8 w6 (w.heap.size + 1) (.bool false) (.bool true) (.bool false) (.int .i64 a) (.int .i64 (n : Int)) (.int .i64 0) (.int .i64 (T : Int)) (.slice (some ⟨w2.heap.size, 0, none⟩) n n) = w9 at *
    unfold st8 at hW3
    rw [hW3]
    clear hW3
    go_wp2_with fail
    have y0 := hx.c0
    have y1 := hx.c1
    have y2 := hx.c2
    have y3 := hx.c3
    have y4 := hx.c4
    have y5 := hx.c5
    have y6 := hx.c6
    have y7 := hx.c7
    refine bodyPost_ret (v := .tuple #[.slice (some ⟨g, 0, none⟩) N cp, .agg #[.bool false, .bool true, .bool false, .int .i64 a, .int .i64 (n : Int), .int .i64 0, .int .i64 (T : Int), .slice (some ⟨w2.heap.size, 0, none⟩) n n], .int .i64 14]) ?_ rfl ?_
    · simp [results, Try.f14, go_sem, y0, y1, y2, y3, y4, y5, y6, y7]
    · exact ⟨_, rfl, HYC.out.ch (Ch.refl [] _).drew (by simp), HC.out.drew, (fun y e => by cases e; have := HS.out; simp; omega)⟩
set_option maxHeartbeats 2000000 in
theorem rtry_done_out {w : World} (r : RM w g N f h) (hN : N ≤ 256) (wait : Bool) (hN0 : 0 < N) (wt : Bool) (a : Int) (n : Nat) (pg : Int) {t T : Nat} (hT : t + 1 = T) (ht : t < 1000000) (s0 : Option Addr) (n0 cap0 : Nat) {l : List Int} (hl : l.length = n0) (hl2 : n0 ≤ 1000) (hb : BytesAt w s0 l) {f2 : Nat → Int} (hf : f2 = if wIn N a n0 then pokeF f a.toNat l else f) {p q : Int} (hpq : touchR N h a n = (p, q)) (hq : q = 0) :
    Calls Try.prog 14 #[.slice (some ⟨g, 0, none⟩) N cp, .agg #[.bool true, .bool false, .bool wt, .int .i64 a, .int .i64 (n : Int), .int .i64 pg, .int .i64 (t : Int), .slice s0 n0 cap0], .bool wait] w fun e w' => ∃ g' cp', e = .returned (.tuple #[.slice (some ⟨g', 0, none⟩) N cp', .agg #[.bool true, .bool true, .bool false, .int .i64 a, .int .i64 (n : Int), .int .i64 0, .int .i64 (T : Int), .slice s0 n0 cap0], .int .i64 0]) ∧ RM w' g' N f2 h ∧ Ch [] w w' ∧ (g' = g ∨ w.heap.size ≤ g') := by
  subst hq
  have hw : IntKind.i64.wrap ((t : Int) + 1) = (T : Int) := by rw [IntWalk.i64_in _ (by omega)]; omega
  obtain ⟨w1, hw1⟩ : ∃ W, W = w.alloc (.cells #[.bool true, .bool false, .bool wt, .int .i64 a, .int .i64 (n : Int), .int .i64 pg, .int .i64 (T : Int), .slice s0 n0 cap0] 40) := ⟨_, rfl⟩
  obtain ⟨w2, hw2⟩ : ∃ W, W = w1.alloc (.cells #[.bool false, .bool false, .bool false, .int .i64 0, .int .i64 0, .int .i64 0, .int .i64 0, .slice none 0 0] 40) := ⟨_, rfl⟩
  have s1 : w1.heap.size = w.heap.size + 1 := by rw [hw1]; simp
  have s2 : w2.heap.size = w.heap.size + 1 + 1 := by rw [hw2, World.size_alloc, s1]
  have hb1 : Bx w1 w.heap.size (.bool true) (.bool false) (.bool wt) (.int .i64 a) (.int .i64 (n : Int)) (.int .i64 pg) (.int .i64 (T : Int)) (.slice s0 n0 cap0) := by rw [hw1]; exact Bx.new w _ _ _ _ _ _ _ _ _
  have hz2 : Bx w2 (w.heap.size + 1) (.bool false) (.bool false) (.bool false) (.int .i64 0) (.int .i64 0) (.int .i64 0) (.int .i64 0) (.slice none 0 0) := by rw [hw2, ← s1]; exact Bx.new w1 _ _ _ _ _ _ _ _ _
  have hal2 : Ch [] w1 w2 := by rw [hw2]; exact (Ch.refl [] w1).alloc _
  have hal : Ch [] w w2 := by rw [hw1] at hal2; exact ((Ch.refl [] w).alloc _).trans hal2
  have HB := Lib.hid (hb1.quiet hal2)
  have HZ := Lib.hid hz2
  have HA := Lib.hid hal
  have HS := Lib.hid s2
  have HW := Lib.hid (show w2 = (w.alloc (.cells #[.bool true, .bool false, .bool wt, .int .i64 a, .int .i64 (n : Int), .int .i64 pg, .int .i64 (T : Int), .slice s0 n0 cap0] 40)).alloc (.cells #[.bool false, .bool false, .bool false, .int .i64 0, .int .i64 0, .int .i64 0, .int .i64 0, .slice none 0 0] 40) from by rw [hw2, hw1])
  have C1 := Lib.hid (rtouch_any (cap := cp) (r.ch hal (by simp)) hN a n hpq)
  obtain ⟨w4, hw4⟩ : ∃ W, W = ((w2.setCell ⟨w.heap.size, 1, none⟩ (.bool true)).setCell ⟨w.heap.size, 2, none⟩ (.bool false)).setCell ⟨w.heap.size, 5, none⟩ (.int .i64 0) := ⟨_, rfl⟩
  have hck : Ch [w.heap.size] w2 w4 := by rw [hw4]; exact (((Ch.refl _ _).setCell (p := ⟨w.heap.size, 1, none⟩) (by simp) _).setCell (p := ⟨w.heap.size, 2, none⟩) (by simp) _).setCell (p := ⟨w.heap.size, 5, none⟩) (by simp) _
  have hb4 : Bx w4 w.heap.size (.bool true) (.bool true) (.bool false) (.int .i64 a) (.int .i64 (n : Int)) (.int .i64 0) (.int .i64 (T : Int)) (.slice s0 n0 cap0) := by rw [hw4]; exact ((HB.out.set1 _).set2 _).set5 _
  have hz4 := HZ.out.ch hck (by simp)
  have hk4 := HA.out.fresh hck (by simp)
  have HW4 := Lib.hid hw4
  have hsz : w4.heap.size = w2.heap.size := by rw [hw4]; simp [World.setCell]
  have C2 := Lib.hid (rpoke_any (cap := cp) (r.ch hk4 (by simp)) hN hN0 a s0 cap0 hl hl2 (hb.ch hk4 (by simp)))
  rw [← hf] at C2
  have HB4 := Lib.hid hb4
  have HZ4 := Lib.hid hz4
  have HK4 := Lib.hid hk4
  have HSZ := Lib.hid hsz
  have HG := Lib.hid r.lt
  clear r hpq hN hN0 hT ht hl hl2 hb hf hck hw4 hb4 hz4 hk4 hsz s1 s2 hb1 hz2 hal2 hal hw1 hw2
  have b0 := HB.out.c0
  have b1 := HB.out.c1
  have b2 := HB.out.c2
  have b3 := HB.out.c3
  have b4 := HB.out.c4
  have b5 := HB.out.c5
  have b6 := HB.out.c6
  have b7 := HB.out.c7
  have bf := HB.out.fr
  go_enter Try.func14, Try.ntmps14
  go_wp2_with fail
  rw [← HW.out]
  clear HW hw
  with_reducible refine C1.out.mono ?_
  rintro e w' ⟨rfl, rfl⟩
  clear C1
  go_wp2_with fail
  rw [← HW4.out]
  clear HW4 b0 b1 b2 b3 b4 b5 b6 b7 bf
  with_reducible refine C2.out.mono ?_
  rintro e w5 ⟨g', cp', rfl, hr5, hc5, hg5⟩
  have HB5 := Lib.hid (HB4.out.quiet hc5)
  have HZ5 := Lib.hid (HZ4.out.quiet hc5)
  have HK := Lib.hid (HK4.out.trans hc5)
  have HR5 := Lib.hid hr5
  have HG5 := Lib.hid hg5
  clear C2 hr5 hc5 hg5
  generalize pieceE N a (n0 : Int) = PE
  go_wp2_with fail
  have x0 := HB5.out.c0
  have x1 := HB5.out.c1
  have x2 := HB5.out.c2
  have x3 := HB5.out.c3
  have x4 := HB5.out.c4
  have x5 := HB5.out.c5
  have x6 := HB5.out.c6
  have x7 := HB5.out.c7
  have z0 := HZ5.out.c0
  have z1 := HZ5.out.c1
  have z2 := HZ5.out.c2
  have z3 := HZ5.out.c3
  have z4 := HZ5.out.c4
  have z5 := HZ5.out.c5
  have z6 := HZ5.out.c6
  have z7 := HZ5.out.c7
  have zf := HZ5.out.fr
  go_region
  have hx := HZ5.out.setAll (.bool true) (.bool true) (.bool false) (.int .i64 a) (.int .i64 (n : Int)) (.int .i64 0) (.int .i64 (T : Int)) (.slice s0 n0 cap0)
  have HC := Lib.hid (HK.out.fresh (st8_ch w5 (w.heap.size + 1) (.bool true) (.bool true) (.bool false) (.int .i64 a) (.int .i64 (n : Int)) (.int .i64 0) (.int .i64 (T : Int)) (.slice s0 n0 cap0)) (by simp))
  have HRC := Lib.hid (HR5.out.ch (st8_ch w5 (w.heap.size + 1) (.bool true) (.bool true) (.bool false) (.int .i64 a) (.int .i64 (n : Int)) (.int .i64 0) (.int .i64 (T : Int)) (.slice s0 n0 cap0)) (by have := HG5.out; have := HG.out; have := HSZ.out; have := HS.out; simp; omega))
  clear x0 x1 x2 x3 x4 x5 x6 x7 z0 z1 z2 z3 z4 z5 z6 z7 zf
  generalize hW3 : st8 w5 (w.heap.size + 1) (.bool true) (.bool true) (.bool false) (.int .i64 a) (.int .i64 (n : Int)) (.int .i64 0) (.int .i64 (T : Int)) (.slice s0 n0 cap0) = w9 at *
  unfold st8 at hW3
  rw [hW3]
  clear hW3
  go_wp2_with fail
  have y0 := hx.c0
  have y1 := hx.c1
  have y2 := hx.c2
  have y3 := hx.c3
  have y4 := hx.c4
  have y5 := hx.c5
  have y6 := hx.c6
  have y7 := hx.c7
  refine bodyPost_ret (v := .tuple #[.slice (some ⟨g', 0, none⟩) N cp', .agg #[.bool true, .bool true, .bool false, .int .i64 a, .int .i64 (n : Int), .int .i64 0, .int .i64 (T : Int), .slice s0 n0 cap0], .int .i64 0]) ?_ rfl ?_
  · simp [results, Try.f14, go_sem, y0, y1, y2, y3, y4, y5, y6, y7]
  · exact ⟨g', cp', rfl, HRC.out.ch (Ch.refl [] _).drew (by simp), HC.out.drew, HG5.out.imp id (fun h => by have := HSZ.out; have := HS.out; omega)⟩
set_option maxHeartbeats 2000000 in
theorem rtry_done_in {w : World} (r : RM w g N f h) (hN : N ≤ 256) (wait : Bool) (wt : Bool) (a : Int) (n : Nat) (pg : Int) {t T : Nat} (hT : t + 1 = T) (ht : t < 1000000) (s0 : Option Addr) (n0 cap0 : Nat) {l : List Int} (hl : l = if wIn N a n then peekL f a.toNat n else []) {p q : Int} (hpq : touchR N h a n = (p, q)) (hq : q = 0) :
    Calls Try.prog 14 #[.slice (some ⟨g, 0, none⟩) N cp, .agg #[.bool false, .bool false, .bool wt, .int .i64 a, .int .i64 (n : Int), .int .i64 pg, .int .i64 (t : Int), .slice s0 n0 cap0], .bool wait] w fun e w' => ∃ v' n' c', e = .returned (.tuple #[.slice (some ⟨g, 0, none⟩) N cp, .agg #[.bool false, .bool true, .bool false, .int .i64 a, .int .i64 (n : Int), .int .i64 0, .int .i64 (T : Int), .slice v' n' c'], .int .i64 0]) ∧ n' = l.length ∧ BytesAt w' v' l ∧ Ch [] w w' ∧ ∀ y, v' = some y → w.heap.size ≤ y.block := by
  subst hq
  have hw : IntKind.i64.wrap ((t : Int) + 1) = (T : Int) := by rw [IntWalk.i64_in _ (by omega)]; omega
  obtain ⟨w1, hw1⟩ : ∃ W, W = w.alloc (.cells #[.bool false, .bool false, .bool wt, .int .i64 a, .int .i64 (n : Int), .int .i64 pg, .int .i64 (T : Int), .slice s0 n0 cap0] 40) := ⟨_, rfl⟩
  obtain ⟨w2, hw2⟩ : ∃ W, W = w1.alloc (.cells #[.bool false, .bool false, .bool false, .int .i64 0, .int .i64 0, .int .i64 0, .int .i64 0, .slice none 0 0] 40) := ⟨_, rfl⟩
  have s1 : w1.heap.size = w.heap.size + 1 := by rw [hw1]; simp
  have s2 : w2.heap.size = w.heap.size + 1 + 1 := by rw [hw2, World.size_alloc, s1]
  have hb1 : Bx w1 w.heap.size (.bool false) (.bool false) (.bool wt) (.int .i64 a) (.int .i64 (n : Int)) (.int .i64 pg) (.int .i64 (T : Int)) (.slice s0 n0 cap0) := by rw [hw1]; exact Bx.new w _ _ _ _ _ _ _ _ _
  have hz2 : Bx w2 (w.heap.size + 1) (.bool false) (.bool false) (.bool false) (.int .i64 0) (.int .i64 0) (.int .i64 0) (.int .i64 0) (.slice none 0 0) := by rw [hw2, ← s1]; exact Bx.new w1 _ _ _ _ _ _ _ _ _
  have hal2 : Ch [] w1 w2 := by rw [hw2]; exact (Ch.refl [] w1).alloc _
  have hal : Ch [] w w2 := by rw [hw1] at hal2; exact ((Ch.refl [] w).alloc _).trans hal2
  have HB := Lib.hid (hb1.quiet hal2)
  have HZ := Lib.hid hz2
  have HA := Lib.hid hal
  have HS := Lib.hid s2
  have HW := Lib.hid (show w2 = (w.alloc (.cells #[.bool false, .bool false, .bool wt, .int .i64 a, .int .i64 (n : Int), .int .i64 pg, .int .i64 (T : Int), .slice s0 n0 cap0] 40)).alloc (.cells #[.bool false, .bool false, .bool false, .int .i64 0, .int .i64 0, .int .i64 0, .int .i64 0, .slice none 0 0] 40) from by rw [hw2, hw1])
  have C1 := Lib.hid (rtouch_any (cap := cp) (r.ch hal (by simp)) hN a n hpq)
  obtain ⟨w4, hw4⟩ : ∃ W, W = ((w2.setCell ⟨w.heap.size, 1, none⟩ (.bool true)).setCell ⟨w.heap.size, 2, none⟩ (.bool false)).setCell ⟨w.heap.size, 5, none⟩ (.int .i64 0) := ⟨_, rfl⟩
  have hck : Ch [w.heap.size] w2 w4 := by rw [hw4]; exact (((Ch.refl _ _).setCell (p := ⟨w.heap.size, 1, none⟩) (by simp) _).setCell (p := ⟨w.heap.size, 2, none⟩) (by simp) _).setCell (p := ⟨w.heap.size, 5, none⟩) (by simp) _
  have hb4 : Bx w4 w.heap.size (.bool false) (.bool true) (.bool false) (.int .i64 a) (.int .i64 (n : Int)) (.int .i64 0) (.int .i64 (T : Int)) (.slice s0 n0 cap0) := by rw [hw4]; exact ((HB.out.set1 _).set2 _).set5 _
  have hz4 := HZ.out.ch hck (by simp)
  have hk4 := HA.out.fresh hck (by simp)
  have HW4 := Lib.hid hw4
  have hsz : w4.heap.size = w2.heap.size := by rw [hw4]; simp [World.setCell]
  have C2 := Lib.hid (rpeek_any (cap := cp) (r.ch hk4 (by simp)) hN a n hl)
  have HB4 := Lib.hid hb4
  have HZ4 := Lib.hid hz4
  have HK4 := Lib.hid hk4
  have HSZ := Lib.hid hsz
  clear r hpq hN hT ht hl hck hw4 hb4 hz4 hk4 hsz s1 s2 hb1 hz2 hal2 hal hw1 hw2
  have b0 := HB.out.c0
  have b1 := HB.out.c1
  have b2 := HB.out.c2
  have b3 := HB.out.c3
  have b4 := HB.out.c4
  have b5 := HB.out.c5
  have b6 := HB.out.c6
  have b7 := HB.out.c7
  have bf := HB.out.fr
  go_enter Try.func14, Try.ntmps14
  go_wp2_with fail
  rw [← HW.out]
  clear HW hw
  with_reducible refine C1.out.mono ?_
  rintro e w' ⟨rfl, rfl⟩
  clear C1
  go_wp2_with fail
  rw [← HW4.out]
  clear HW4 b0 b1 b2 b3 b4 b5 b6 b7 bf
  with_reducible refine C2.out.mono ?_
  rintro e w5 ⟨vv, rfl, hnb, hc5⟩
  obtain ⟨v', c', rfl, hby, hyy⟩ := hnb.form
  obtain ⟨n', hn'⟩ : ∃ k, k = l.length := ⟨_, rfl⟩
  rw [← hn']
  have hb5 := HB4.out.quiet hc5
  have e7 := hb5.c7
  have ef := hb5.fr 7
  obtain ⟨w6, hw6⟩ : ∃ W, W = w5.setCell ⟨w.heap.size, 7, none⟩ (.slice v' n' c') := ⟨_, rfl⟩
  have hck6 : Ch [w.heap.size] w5 w6 := by rw [hw6]; exact (Ch.refl _ _).setCell (p := ⟨w.heap.size, 7, none⟩) (by simp) _
  have HB6 := Lib.hid (show Bx w6 w.heap.size (.bool false) (.bool true) (.bool false) (.int .i64 a) (.int .i64 (n : Int)) (.int .i64 0) (.int .i64 (T : Int)) (.slice v' n' c') from by rw [hw6]; exact hb5.set7 _)
  have HZ6 := Lib.hid ((HZ4.out.quiet hc5).ch hck6 (by simp))
  have HK := Lib.hid ((HK4.out.trans hc5).fresh hck6 (by simp))
  have HY := Lib.hid (hby.ch hck6 (fun y e => by have := hyy y e; have := HSZ.out; have := HS.out; simp; omega))
  have HYY := Lib.hid hyy
  have HN' := Lib.hid hn'
  have HW6 := Lib.hid hw6
  clear C2 hnb hby hyy hc5 hb5 hck6 hw6 hn'
  go_wp2_with fail
  rw [← HW6.out]
  clear e7 ef HW6
  have x0 := HB6.out.c0
  have x1 := HB6.out.c1
  have x2 := HB6.out.c2
  have x3 := HB6.out.c3
  have x4 := HB6.out.c4
  have x5 := HB6.out.c5
  have x6 := HB6.out.c6
  have x7 := HB6.out.c7
  have z0 := HZ6.out.c0
  have z1 := HZ6.out.c1
  have z2 := HZ6.out.c2
  have z3 := HZ6.out.c3
  have z4 := HZ6.out.c4
  have z5 := HZ6.out.c5
  have z6 := HZ6.out.c6
  have z7 := HZ6.out.c7
  have zf := HZ6.out.fr
  go_region
  have hx := HZ6.out.setAll (.bool false) (.bool true) (.bool false) (.int .i64 a) (.int .i64 (n : Int)) (.int .i64 0) (.int .i64 (T : Int)) (.slice v' n' c')
  have HC := Lib.hid (HK.out.fresh (st8_ch w6 (w.heap.size + 1) (.bool false) (.bool true) (.bool false) (.int .i64 a) (.int .i64 (n : Int)) (.int .i64 0) (.int .i64 (T : Int)) (.slice v' n' c')) (by simp))
  have HYC := Lib.hid (HY.out.ch (st8_ch w6 (w.heap.size + 1) (.bool false) (.bool true) (.bool false) (.int .i64 a) (.int .i64 (n : Int)) (.int .i64 0) (.int .i64 (T : Int)) (.slice v' n' c')) (fun y e => by have := HYY.out y e; have := HSZ.out; have := HS.out; simp; omega))
  clear x0 x1 x2 x3 x4 x5 x6 x7 z0 z1 z2 z3 z4 z5 z6 z7 zf
  generalize hW3 : st8 w6 (w.heap.size + 1) (.bool false) (.bool true) (.bool false) (.int .i64 a) (.int .i64 (n : Int)) (.int .i64 0) (.int .i64 (T : Int)) (.slice v' n' c') = w9 at *
  unfold st8 at hW3
  rw [hW3]
  clear hW3
  go_wp2_with fail
  have y0 := hx.c0
  have y1 := hx.c1
  have y2 := hx.c2
  have y3 := hx.c3
  have y4 := hx.c4
  have y5 := hx.c5
  have y6 := hx.c6
  have y7 := hx.c7
  refine bodyPost_ret (v := .tuple #[.slice (some ⟨g, 0, none⟩) N cp, .agg #[.bool false, .bool true, .bool false, .int .i64 a, .int .i64 (n : Int), .int .i64 0, .int .i64 (T : Int), .slice v' n' c'], .int .i64 0]) ?_ rfl ?_
  · simp [results, Try.f14, go_sem, y0, y1, y2, y3, y4, y5, y6, y7]
  · exact ⟨v', n', c', rfl, HN'.out, HYC.out.ch (Ch.refl [] _).drew (by simp), HC.out.drew, (fun y e => by have := HYY.out y e; have := HSZ.out; have := HS.out; omega)⟩
end
end Go.Proofs.Ytcdolkbljheniaa
