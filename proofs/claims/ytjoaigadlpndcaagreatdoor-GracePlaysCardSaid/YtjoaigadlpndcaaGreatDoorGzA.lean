/-
  The answer's domain as a value, and in a block of eleven cells.
-/
import Derived.Test.YtjoaigadlpndcaaGreatDoorMgL
import Derived.Test.YtjoaigadlpndcaaGreatDoorMgN
import Derived.Test.YtjoaigadlpndcaaGreatDoorGrK
namespace Go.Proofs.YtjoaigadlpndcaaGreatDoor
open Go.RowKit Go.Shelf
open rC (Th)

/-- A block of eleven cells that may be written. -/
structure Bx (w : World) (b : Nat) (x0 x1 x2 x3 x4 x5 x6 x7 x8 x9 x10 : Value) : Prop where
  c0 : w.cell? ⟨b, 0, none⟩ = some x0
  c1 : w.cell? ⟨b, 1, none⟩ = some x1
  c2 : w.cell? ⟨b, 2, none⟩ = some x2
  c3 : w.cell? ⟨b, 3, none⟩ = some x3
  c4 : w.cell? ⟨b, 4, none⟩ = some x4
  c5 : w.cell? ⟨b, 5, none⟩ = some x5
  c6 : w.cell? ⟨b, 6, none⟩ = some x6
  c7 : w.cell? ⟨b, 7, none⟩ = some x7
  c8 : w.cell? ⟨b, 8, none⟩ = some x8
  c9 : w.cell? ⟨b, 9, none⟩ = some x9
  c10 : w.cell? ⟨b, 10, none⟩ = some x10
  fr : ∀ k, w.frozen? ⟨b, k, none⟩ = false
/-- All of them written. -/
def st11 (w : World) (b : Nat) (x0 x1 x2 x3 x4 x5 x6 x7 x8 x9 x10 : Value) : World := ((((((((((w.setCell ⟨b, 0, none⟩ x0).setCell ⟨b, 1, none⟩ x1).setCell ⟨b, 2, none⟩ x2).setCell ⟨b, 3, none⟩ x3).setCell ⟨b, 4, none⟩ x4).setCell ⟨b, 5, none⟩ x5).setCell ⟨b, 6, none⟩ x6).setCell ⟨b, 7, none⟩ x7).setCell ⟨b, 8, none⟩ x8).setCell ⟨b, 9, none⟩ x9).setCell ⟨b, 10, none⟩ x10
section
variable {w w' : World} {b : Nat} {x0 x1 x2 x3 x4 x5 x6 x7 x8 x9 x10 : Value}
theorem Bx.lt (h : Bx w b x0 x1 x2 x3 x4 x5 x6 x7 x8 x9 x10) : b < w.heap.size := cell_lt h.c0
theorem Bx.same (h : Bx w b x0 x1 x2 x3 x4 x5 x6 x7 x8 x9 x10) (hs : w'.heap[b]? = w.heap[b]?) : Bx w' b x0 x1 x2 x3 x4 x5 x6 x7 x8 x9 x10 :=
  have c : ∀ o, w'.cell? ⟨b, o, none⟩ = w.cell? ⟨b, o, none⟩ := fun o => World.cell?_of_block (a := ⟨b, o, none⟩) hs
  ⟨(c _).trans h.c0, (c _).trans h.c1, (c _).trans h.c2, (c _).trans h.c3, (c _).trans h.c4, (c _).trans h.c5, (c _).trans h.c6, (c _).trans h.c7, (c _).trans h.c8, (c _).trans h.c9, (c _).trans h.c10, fun k => (World.frozen?_of_block (a := ⟨b, k, none⟩) hs).trans (h.fr k)⟩
theorem Bx.ch {S : List Nat} (h : Bx w b x0 x1 x2 x3 x4 x5 x6 x7 x8 x9 x10) (hc : Ch S w w') (hb : b ∉ S) : Bx w' b x0 x1 x2 x3 x4 x5 x6 x7 x8 x9 x10 := h.same (hc.block b h.lt hb)
theorem Bx.chP {T : Nat → Prop} (h : Bx w b x0 x1 x2 x3 x4 x5 x6 x7 x8 x9 x10) (hc : ChP T w w') (hb : ¬ T b) : Bx w' b x0 x1 x2 x3 x4 x5 x6 x7 x8 x9 x10 := h.same (hc.block b h.lt hb)
theorem Bx.quiet (h : Bx w b x0 x1 x2 x3 x4 x5 x6 x7 x8 x9 x10) (hc : Ch [] w w') : Bx w' b x0 x1 x2 x3 x4 x5 x6 x7 x8 x9 x10 := h.ch hc (by simp)
theorem Bx.new (w : World) (x0 x1 x2 x3 x4 x5 x6 x7 x8 x9 x10 : Value) (t : TypeId) : Bx (w.alloc (.cells #[x0, x1, x2, x3, x4, x5, x6, x7, x8, x9, x10] t)) w.heap.size x0 x1 x2 x3 x4 x5 x6 x7 x8 x9 x10 :=
  ⟨by rw [World.cell?_alloc_at _ _ _ _ rfl]; rfl, by rw [World.cell?_alloc_at _ _ _ _ rfl]; rfl, by rw [World.cell?_alloc_at _ _ _ _ rfl]; rfl, by rw [World.cell?_alloc_at _ _ _ _ rfl]; rfl, by rw [World.cell?_alloc_at _ _ _ _ rfl]; rfl, by rw [World.cell?_alloc_at _ _ _ _ rfl]; rfl, by rw [World.cell?_alloc_at _ _ _ _ rfl]; rfl, by rw [World.cell?_alloc_at _ _ _ _ rfl]; rfl, by rw [World.cell?_alloc_at _ _ _ _ rfl]; rfl, by rw [World.cell?_alloc_at _ _ _ _ rfl]; rfl, by rw [World.cell?_alloc_at _ _ _ _ rfl]; rfl, fun k => World.frozen?_alloc_new w _ _ _⟩
theorem Bx.set0 (h : Bx w b x0 x1 x2 x3 x4 x5 x6 x7 x8 x9 x10) (y : Value) : Bx (w.setCell ⟨b, 0, none⟩ y) b y x1 x2 x3 x4 x5 x6 x7 x8 x9 x10 :=
  ⟨setCell_same h.c0, setCell_other h.c1 (addr_ne_off (by decide)), setCell_other h.c2 (addr_ne_off (by decide)), setCell_other h.c3 (addr_ne_off (by decide)), setCell_other h.c4 (addr_ne_off (by decide)), setCell_other h.c5 (addr_ne_off (by decide)), setCell_other h.c6 (addr_ne_off (by decide)), setCell_other h.c7 (addr_ne_off (by decide)), setCell_other h.c8 (addr_ne_off (by decide)), setCell_other h.c9 (addr_ne_off (by decide)), setCell_other h.c10 (addr_ne_off (by decide)), fun k => by simpa using h.fr k⟩
theorem Bx.set1 (h : Bx w b x0 x1 x2 x3 x4 x5 x6 x7 x8 x9 x10) (y : Value) : Bx (w.setCell ⟨b, 1, none⟩ y) b x0 y x2 x3 x4 x5 x6 x7 x8 x9 x10 :=
  ⟨setCell_other h.c0 (addr_ne_off (by decide)), setCell_same h.c1, setCell_other h.c2 (addr_ne_off (by decide)), setCell_other h.c3 (addr_ne_off (by decide)), setCell_other h.c4 (addr_ne_off (by decide)), setCell_other h.c5 (addr_ne_off (by decide)), setCell_other h.c6 (addr_ne_off (by decide)), setCell_other h.c7 (addr_ne_off (by decide)), setCell_other h.c8 (addr_ne_off (by decide)), setCell_other h.c9 (addr_ne_off (by decide)), setCell_other h.c10 (addr_ne_off (by decide)), fun k => by simpa using h.fr k⟩
theorem Bx.set2 (h : Bx w b x0 x1 x2 x3 x4 x5 x6 x7 x8 x9 x10) (y : Value) : Bx (w.setCell ⟨b, 2, none⟩ y) b x0 x1 y x3 x4 x5 x6 x7 x8 x9 x10 :=
  ⟨setCell_other h.c0 (addr_ne_off (by decide)), setCell_other h.c1 (addr_ne_off (by decide)), setCell_same h.c2, setCell_other h.c3 (addr_ne_off (by decide)), setCell_other h.c4 (addr_ne_off (by decide)), setCell_other h.c5 (addr_ne_off (by decide)), setCell_other h.c6 (addr_ne_off (by decide)), setCell_other h.c7 (addr_ne_off (by decide)), setCell_other h.c8 (addr_ne_off (by decide)), setCell_other h.c9 (addr_ne_off (by decide)), setCell_other h.c10 (addr_ne_off (by decide)), fun k => by simpa using h.fr k⟩
theorem Bx.set3 (h : Bx w b x0 x1 x2 x3 x4 x5 x6 x7 x8 x9 x10) (y : Value) : Bx (w.setCell ⟨b, 3, none⟩ y) b x0 x1 x2 y x4 x5 x6 x7 x8 x9 x10 :=
  ⟨setCell_other h.c0 (addr_ne_off (by decide)), setCell_other h.c1 (addr_ne_off (by decide)), setCell_other h.c2 (addr_ne_off (by decide)), setCell_same h.c3, setCell_other h.c4 (addr_ne_off (by decide)), setCell_other h.c5 (addr_ne_off (by decide)), setCell_other h.c6 (addr_ne_off (by decide)), setCell_other h.c7 (addr_ne_off (by decide)), setCell_other h.c8 (addr_ne_off (by decide)), setCell_other h.c9 (addr_ne_off (by decide)), setCell_other h.c10 (addr_ne_off (by decide)), fun k => by simpa using h.fr k⟩
theorem Bx.set4 (h : Bx w b x0 x1 x2 x3 x4 x5 x6 x7 x8 x9 x10) (y : Value) : Bx (w.setCell ⟨b, 4, none⟩ y) b x0 x1 x2 x3 y x5 x6 x7 x8 x9 x10 :=
  ⟨setCell_other h.c0 (addr_ne_off (by decide)), setCell_other h.c1 (addr_ne_off (by decide)), setCell_other h.c2 (addr_ne_off (by decide)), setCell_other h.c3 (addr_ne_off (by decide)), setCell_same h.c4, setCell_other h.c5 (addr_ne_off (by decide)), setCell_other h.c6 (addr_ne_off (by decide)), setCell_other h.c7 (addr_ne_off (by decide)), setCell_other h.c8 (addr_ne_off (by decide)), setCell_other h.c9 (addr_ne_off (by decide)), setCell_other h.c10 (addr_ne_off (by decide)), fun k => by simpa using h.fr k⟩
theorem Bx.set5 (h : Bx w b x0 x1 x2 x3 x4 x5 x6 x7 x8 x9 x10) (y : Value) : Bx (w.setCell ⟨b, 5, none⟩ y) b x0 x1 x2 x3 x4 y x6 x7 x8 x9 x10 :=
  ⟨setCell_other h.c0 (addr_ne_off (by decide)), setCell_other h.c1 (addr_ne_off (by decide)), setCell_other h.c2 (addr_ne_off (by decide)), setCell_other h.c3 (addr_ne_off (by decide)), setCell_other h.c4 (addr_ne_off (by decide)), setCell_same h.c5, setCell_other h.c6 (addr_ne_off (by decide)), setCell_other h.c7 (addr_ne_off (by decide)), setCell_other h.c8 (addr_ne_off (by decide)), setCell_other h.c9 (addr_ne_off (by decide)), setCell_other h.c10 (addr_ne_off (by decide)), fun k => by simpa using h.fr k⟩
theorem Bx.set6 (h : Bx w b x0 x1 x2 x3 x4 x5 x6 x7 x8 x9 x10) (y : Value) : Bx (w.setCell ⟨b, 6, none⟩ y) b x0 x1 x2 x3 x4 x5 y x7 x8 x9 x10 :=
  ⟨setCell_other h.c0 (addr_ne_off (by decide)), setCell_other h.c1 (addr_ne_off (by decide)), setCell_other h.c2 (addr_ne_off (by decide)), setCell_other h.c3 (addr_ne_off (by decide)), setCell_other h.c4 (addr_ne_off (by decide)), setCell_other h.c5 (addr_ne_off (by decide)), setCell_same h.c6, setCell_other h.c7 (addr_ne_off (by decide)), setCell_other h.c8 (addr_ne_off (by decide)), setCell_other h.c9 (addr_ne_off (by decide)), setCell_other h.c10 (addr_ne_off (by decide)), fun k => by simpa using h.fr k⟩
theorem Bx.set7 (h : Bx w b x0 x1 x2 x3 x4 x5 x6 x7 x8 x9 x10) (y : Value) : Bx (w.setCell ⟨b, 7, none⟩ y) b x0 x1 x2 x3 x4 x5 x6 y x8 x9 x10 :=
  ⟨setCell_other h.c0 (addr_ne_off (by decide)), setCell_other h.c1 (addr_ne_off (by decide)), setCell_other h.c2 (addr_ne_off (by decide)), setCell_other h.c3 (addr_ne_off (by decide)), setCell_other h.c4 (addr_ne_off (by decide)), setCell_other h.c5 (addr_ne_off (by decide)), setCell_other h.c6 (addr_ne_off (by decide)), setCell_same h.c7, setCell_other h.c8 (addr_ne_off (by decide)), setCell_other h.c9 (addr_ne_off (by decide)), setCell_other h.c10 (addr_ne_off (by decide)), fun k => by simpa using h.fr k⟩
theorem Bx.set8 (h : Bx w b x0 x1 x2 x3 x4 x5 x6 x7 x8 x9 x10) (y : Value) : Bx (w.setCell ⟨b, 8, none⟩ y) b x0 x1 x2 x3 x4 x5 x6 x7 y x9 x10 :=
  ⟨setCell_other h.c0 (addr_ne_off (by decide)), setCell_other h.c1 (addr_ne_off (by decide)), setCell_other h.c2 (addr_ne_off (by decide)), setCell_other h.c3 (addr_ne_off (by decide)), setCell_other h.c4 (addr_ne_off (by decide)), setCell_other h.c5 (addr_ne_off (by decide)), setCell_other h.c6 (addr_ne_off (by decide)), setCell_other h.c7 (addr_ne_off (by decide)), setCell_same h.c8, setCell_other h.c9 (addr_ne_off (by decide)), setCell_other h.c10 (addr_ne_off (by decide)), fun k => by simpa using h.fr k⟩
theorem Bx.set9 (h : Bx w b x0 x1 x2 x3 x4 x5 x6 x7 x8 x9 x10) (y : Value) : Bx (w.setCell ⟨b, 9, none⟩ y) b x0 x1 x2 x3 x4 x5 x6 x7 x8 y x10 :=
  ⟨setCell_other h.c0 (addr_ne_off (by decide)), setCell_other h.c1 (addr_ne_off (by decide)), setCell_other h.c2 (addr_ne_off (by decide)), setCell_other h.c3 (addr_ne_off (by decide)), setCell_other h.c4 (addr_ne_off (by decide)), setCell_other h.c5 (addr_ne_off (by decide)), setCell_other h.c6 (addr_ne_off (by decide)), setCell_other h.c7 (addr_ne_off (by decide)), setCell_other h.c8 (addr_ne_off (by decide)), setCell_same h.c9, setCell_other h.c10 (addr_ne_off (by decide)), fun k => by simpa using h.fr k⟩
theorem Bx.set10 (h : Bx w b x0 x1 x2 x3 x4 x5 x6 x7 x8 x9 x10) (y : Value) : Bx (w.setCell ⟨b, 10, none⟩ y) b x0 x1 x2 x3 x4 x5 x6 x7 x8 x9 y :=
  ⟨setCell_other h.c0 (addr_ne_off (by decide)), setCell_other h.c1 (addr_ne_off (by decide)), setCell_other h.c2 (addr_ne_off (by decide)), setCell_other h.c3 (addr_ne_off (by decide)), setCell_other h.c4 (addr_ne_off (by decide)), setCell_other h.c5 (addr_ne_off (by decide)), setCell_other h.c6 (addr_ne_off (by decide)), setCell_other h.c7 (addr_ne_off (by decide)), setCell_other h.c8 (addr_ne_off (by decide)), setCell_other h.c9 (addr_ne_off (by decide)), setCell_same h.c10, fun k => by simpa using h.fr k⟩
theorem Bx.setAll (h : Bx w b x0 x1 x2 x3 x4 x5 x6 x7 x8 x9 x10) (y0 y1 y2 y3 y4 y5 y6 y7 y8 y9 y10 : Value) : Bx (st11 w b y0 y1 y2 y3 y4 y5 y6 y7 y8 y9 y10) b y0 y1 y2 y3 y4 y5 y6 y7 y8 y9 y10 := (((((((((((h.set0 y0).set1 y1).set2 y2).set3 y3).set4 y4).set5 y5).set6 y6).set7 y7).set8 y8).set9 y9).set10 y10)
end
theorem st11_ch (w : World) (b : Nat) (x0 x1 x2 x3 x4 x5 x6 x7 x8 x9 x10 : Value) : Ch [b] w (st11 w b x0 x1 x2 x3 x4 x5 x6 x7 x8 x9 x10) := (((((((((((Ch.refl [b] w).setCell (p := ⟨b, 0, none⟩) (by simp) x0).setCell (p := ⟨b, 1, none⟩) (by simp) x1).setCell (p := ⟨b, 2, none⟩) (by simp) x2).setCell (p := ⟨b, 3, none⟩) (by simp) x3).setCell (p := ⟨b, 4, none⟩) (by simp) x4).setCell (p := ⟨b, 5, none⟩) (by simp) x5).setCell (p := ⟨b, 6, none⟩) (by simp) x6).setCell (p := ⟨b, 7, none⟩) (by simp) x7).setCell (p := ⟨b, 8, none⟩) (by simp) x8).setCell (p := ⟨b, 9, none⟩) (by simp) x9).setCell (p := ⟨b, 10, none⟩) (by simp) x10
/-- The answer's domain: deeds, CPUs, the last generation that was closed, callbacks, does a scan run, its stamp, its place, who is left, and the generations. -/
abbrev gv (m : Value) (n last : Int) (v : Value) (rn : Bool) (t P : Int) (lf : Value) (gen ov wt : Int) : Value := .agg #[m, .int .i64 n, .int .i64 last, v, .bool rn, .int .i64 t, .int .i64 P, lf, .int .i64 gen, .int .i64 ov, .int .i64 wt]
abbrev BG (w : World) (b : Nat) (m : Value) (n last : Int) (v : Value) (rn : Bool) (t P : Int) (lf : Value) (gen ov wt : Int) : Prop := Bx w b m (.int .i64 n) (.int .i64 last) v (.bool rn) (.int .i64 t) (.int .i64 P) lf (.int .i64 gen) (.int .i64 ov) (.int .i64 wt)
abbrev ZV : Array Value := #[.slice none 0 0, .int .i64 0, .int .i64 0, .slice none 0 0, .bool false, .int .i64 0, .int .i64 0, .slice none 0 0, .int .i64 0, .int .i64 0, .int .i64 0]

section
variable {a1 : Option Addr} {n1 c1 : Nat} {a2 : Option Addr} {n2 c2 : Nat} {a3 : Option Addr} {n3 c3 : Nat} {n last : Int} {rn : Bool} {t P gen ov wt : Int}
set_option maxHeartbeats 1000000 in
theorem gz_ticket (w : World) (hg : -1000000 ≤ gen ∧ gen ≤ 1000000) {v : Int} (hv : gen + 1 = v) :
    Calls Tryz.prog 12 #[gv (.slice a1 n1 c1) n last (.slice a2 n2 c2) rn t P (.slice a3 n3 c3) gen ov wt] w fun e w' => e = .returned (.tuple #[gv (.slice a1 n1 c1) n last (.slice a2 n2 c2) rn t P (.slice a3 n3 c3) gen ov v, .int .i64 v]) ∧ Ch [] w w' := by
  have hw : IntKind.i64.wrap (gen + 1) = v := by rw [IntWalk.i64_in _ (by omega)]; exact hv
  obtain ⟨w1, hw1⟩ : ∃ W, W = w.alloc (.cells #[.slice a1 n1 c1, .int .i64 n, .int .i64 last, .slice a2 n2 c2, .bool rn, .int .i64 t, .int .i64 P, .slice a3 n3 c3, .int .i64 gen, .int .i64 ov, .int .i64 v] 36) := ⟨_, rfl⟩
  obtain ⟨w2, hw2⟩ : ∃ W, W = w1.alloc (.cells #[.slice none 0 0, .int .i64 0, .int .i64 0, .slice none 0 0, .bool false, .int .i64 0, .int .i64 0, .slice none 0 0, .int .i64 0, .int .i64 0, .int .i64 0] 36) := ⟨_, rfl⟩
  have s1 : w1.heap.size = w.heap.size + 1 := by rw [hw1]; simp
  have s2 : w2.heap.size = w.heap.size + 1 + 1 := by rw [hw2, World.size_alloc, s1]
  have hb1 : BG w1 w.heap.size (.slice a1 n1 c1) n last (.slice a2 n2 c2) rn t P (.slice a3 n3 c3) gen ov v := by rw [hw1]; exact Bx.new w _ _ _ _ _ _ _ _ _ _ _ _
  have hz2 : Bx w2 (w.heap.size + 1) (.slice none 0 0) (.int .i64 0) (.int .i64 0) (.slice none 0 0) (.bool false) (.int .i64 0) (.int .i64 0) (.slice none 0 0) (.int .i64 0) (.int .i64 0) (.int .i64 0) := by rw [hw2, ← s1]; exact Bx.new w1 _ _ _ _ _ _ _ _ _ _ _ _
  have hal2 : Ch [] w1 w2 := by rw [hw2]; exact (Ch.refl [] w1).alloc _
  have hal : Ch [] w w2 := by rw [hw1] at hal2; exact ((Ch.refl [] w).alloc _).trans hal2
  have HB := Lib.hid (hb1.quiet hal2)
  have HZ := Lib.hid hz2
  have HA := Lib.hid hal
  have HS := Lib.hid s2
  have HW := Lib.hid (show w2 = (w.alloc (.cells #[.slice a1 n1 c1, .int .i64 n, .int .i64 last, .slice a2 n2 c2, .bool rn, .int .i64 t, .int .i64 P, .slice a3 n3 c3, .int .i64 gen, .int .i64 ov, .int .i64 v] 36)).alloc (.cells #[.slice none 0 0, .int .i64 0, .int .i64 0, .slice none 0 0, .bool false, .int .i64 0, .int .i64 0, .slice none 0 0, .int .i64 0, .int .i64 0, .int .i64 0] 36) from by rw [hw2, hw1])
  clear s1 s2 hb1 hz2 hal2 hal hw1 hw2
  clear hg hv
  go_enter Tryz.func12, Tryz.ntmps12
  go_wp2_with fail
  rw [← HW.out]
  clear HW hw
  have x0 := HB.out.c0
  have x1 := HB.out.c1
  have x2 := HB.out.c2
  have x3 := HB.out.c3
  have x4 := HB.out.c4
  have x5 := HB.out.c5
  have x6 := HB.out.c6
  have x7 := HB.out.c7
  have x8 := HB.out.c8
  have x9 := HB.out.c9
  have x10 := HB.out.c10
  have z0 := HZ.out.c0
  have z1 := HZ.out.c1
  have z2 := HZ.out.c2
  have z3 := HZ.out.c3
  have z4 := HZ.out.c4
  have z5 := HZ.out.c5
  have z6 := HZ.out.c6
  have z7 := HZ.out.c7
  have z8 := HZ.out.c8
  have z9 := HZ.out.c9
  have z10 := HZ.out.c10
  have zf := HZ.out.fr
  go_region
  have hx := HZ.out.setAll (.slice a1 n1 c1) (.int .i64 n) (.int .i64 last) (.slice a2 n2 c2) (.bool rn) (.int .i64 t) (.int .i64 P) (.slice a3 n3 c3) (.int .i64 gen) (.int .i64 ov) (.int .i64 v)
  have HC := Lib.hid (HA.out.fresh (st11_ch w2 (w.heap.size + 1) (.slice a1 n1 c1) (.int .i64 n) (.int .i64 last) (.slice a2 n2 c2) (.bool rn) (.int .i64 t) (.int .i64 P) (.slice a3 n3 c3) (.int .i64 gen) (.int .i64 ov) (.int .i64 v)) (by simp))
  clear x0 x1 x2 x3 x4 x5 x6 x7 x8 x9 x10 z0 z1 z2 z3 z4 z5 z6 z7 z8 z9 z10 zf
  generalize hW3 : st11 w2 (w.heap.size + 1) (.slice a1 n1 c1) (.int .i64 n) (.int .i64 last) (.slice a2 n2 c2) (.bool rn) (.int .i64 t) (.int .i64 P) (.slice a3 n3 c3) (.int .i64 gen) (.int .i64 ov) (.int .i64 v) = w3 at *
  unfold st11 at hW3
  rw [hW3]
  go_wp2_with fail
  have y0 := hx.c0
  have y1 := hx.c1
  have y2 := hx.c2
  have y3 := hx.c3
  have y4 := hx.c4
  have y5 := hx.c5
  have y6 := hx.c6
  have y7 := hx.c7
  have y8 := hx.c8
  have y9 := hx.c9
  have y10 := hx.c10
  refine bodyPost_ret (v := .tuple #[gv (.slice a1 n1 c1) n last (.slice a2 n2 c2) rn t P (.slice a3 n3 c3) gen ov v, .int .i64 v]) ?_ rfl ?_
  · simp [results, Tryz.f12, go_sem, y0, y1, y2, y3, y4, y5, y6, y7, y8, y9, y10]
  · exact ⟨rfl, HC.out.drew⟩
end
end Go.Proofs.YtjoaigadlpndcaaGreatDoor
