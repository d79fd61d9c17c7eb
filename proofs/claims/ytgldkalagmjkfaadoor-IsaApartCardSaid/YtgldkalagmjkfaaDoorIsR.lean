/-
  The document's One: the instruction of eight bytes.
-/
import Derived.Test.YtgldkalagmjkfaaDoorIsQ
import Derived.Deep.RegionHeld3
namespace Go.Proofs.YtgldkalagmjkfaaDoor
open Go.RowKit

attribute [local go_sem] Oper.semAt_some

structure Sum8 (y : Nat → Int) : Prop where
  a0 : ∀ j, j < 8 → IntKind.i64.wrap (y j) = y j
  b1 : IntKind.i64.wrap (256 * y 3) = 256 * y 3
  b2 : IntKind.i64.wrap (y 2 + 256 * y 3) = y 2 + 256 * y 3
  c1 : IntKind.i64.wrap (256 * y 5) = 256 * y 5
  c2 : IntKind.i64.wrap (y 4 + 256 * y 5) = y 4 + 256 * y 5
  c3 : IntKind.i64.wrap (65536 * y 6) = 65536 * y 6
  c4 : IntKind.i64.wrap (y 4 + 256 * y 5 + 65536 * y 6) = y 4 + 256 * y 5 + 65536 * y 6
  c5 : IntKind.i64.wrap (16777216 * y 7) = 16777216 * y 7
  c6 : IntKind.i64.wrap (y 4 + 256 * y 5 + 65536 * y 6 + 16777216 * y 7) = y 4 + 256 * y 5 + 65536 * y 6 + 16777216 * y 7
  e1 : Int.tdiv (y 1) 16 = y 1 / 16
  e2 : Int.tmod (y 1) 16 = y 1 % 16
  e3 : IntKind.i64.wrap (y 1 / 16) = y 1 / 16
  e4 : IntKind.i64.wrap (y 1 % 16) = y 1 % 16
  r1 : 0 ≤ y 2 + 256 * y 3 ∧ y 2 + 256 * y 3 ≤ 4294967296
  r2 : 0 ≤ y 4 + 256 * y 5 + 65536 * y 6 + 16777216 * y 7 ∧ y 4 + 256 * y 5 + 65536 * y 6 + 16777216 * y 7 ≤ 4294967296
theorem sum8 {y : Nat → Int} (h0 : ∀ j, j < 8 → 0 ≤ y j) (h1 : ∀ j, j < 8 → y j < 256) : Sum8 y := by
  have p0 := h0 0 (by decide); have p1 := h0 1 (by decide); have p2 := h0 2 (by decide); have p3 := h0 3 (by decide)
  have p4 := h0 4 (by decide); have p5 := h0 5 (by decide); have p6 := h0 6 (by decide); have p7 := h0 7 (by decide)
  have r0 := h1 0 (by decide); have r1 := h1 1 (by decide); have r2 := h1 2 (by decide); have r3 := h1 3 (by decide)
  have r4 := h1 4 (by decide); have r5 := h1 5 (by decide); have r6 := h1 6 (by decide); have r7 := h1 7 (by decide)
  refine ⟨fun j hj => ?_, ?_, ?_, ?_, ?_, ?_, ?_, ?_, ?_, ?_, ?_, ?_, ?_, by omega, by omega⟩
  · have := h0 j hj; have := h1 j hj; rw [IntKind.wrap_i64]; omega
  · rw [IntKind.wrap_i64]; omega
  · rw [IntKind.wrap_i64]; omega
  · rw [IntKind.wrap_i64]; omega
  · rw [IntKind.wrap_i64]; omega
  · rw [IntKind.wrap_i64]; omega
  · rw [IntKind.wrap_i64]; omega
  · rw [IntKind.wrap_i64]; omega
  · rw [IntKind.wrap_i64]; omega
  · rw [Int.tdiv_eq_ediv_of_nonneg p1]
  · rw [Int.tmod_eq_emod_of_nonneg p1]
  · rw [IntKind.wrap_i64]; omega
  · rw [IntKind.wrap_i64]; omega

set_option maxHeartbeats 2000000 in
theorem one_any {w : World} {b o cap : Nat} {y : Nat → Int} (h : By8 w b o y) :
    Calls Tryd.prog 34 #[.slice (some ⟨b, o, none⟩) 8 cap] w fun e w' => e = .returned (iv (dec y)) ∧ Ch [] w w' := by
  have c0 := h.c 0 (by decide); have c1 := h.c 1 (by decide); have c2 := h.c 2 (by decide); have c3 := h.c 3 (by decide)
  have c4 := h.c 4 (by decide); have c5 := h.c 5 (by decide); have c6 := h.c 6 (by decide); have c7 := h.c 7 (by decide)
  rw [Nat.add_zero] at c0
  have HKp := Lib.hid (fun (C : Array Value) => (show (w.alloc (.cells C 29)).drew.drew.drew.cell? ⟨b, o, none⟩ = some (.int .u8 (y 0)) from (((Ch.refl [] w).alloc _).cell (cell_lt c0) (by simp)).trans c0))
  have HKq := Lib.hid (fun (C : Array Value) => (show (w.alloc (.cells C 29)).drew.drew.drew.cell? ⟨b, o + 1, none⟩ = some (.int .u8 (y 1)) from (((Ch.refl [] w).alloc _).cell (cell_lt c1) (by simp)).trans c1))
  have hk : ∀ {p : Addr} {v : Value}, w.cell? p = some v → (w.alloc (.cells #[.int .i64 0, .int .i64 0, .int .i64 0, .int .i64 0, .int .i64 0] 29)).cell? p = some v := fun {p v} hp => (((Ch.refl [] w).alloc _).cell (cell_lt hp) (by simp)).trans hp
  have d0 := hk c0; have d1 := hk c1; have d2 := hk c2; have d3 := hk c3; have d4 := hk c4; have d5 := hk c5; have d6 := hk c6; have d7 := hk c7
  obtain ⟨a, b1, b2, p1, p2, p3, p4, p5, p6, e1, e2, e3, e4, r1, r2⟩ := sum8 h.lo h.hi
  have a0 := a 0 (by decide); have a1 := a 1 (by decide); have a2 := a 2 (by decide); have a3 := a 3 (by decide)
  have a4 := a 4 (by decide); have a5 := a 5 (by decide); have a6 := a 6 (by decide); have a7 := a 7 (by decide)
  have HS1 := Lib.hid (fun w => signed_any r1.1 r1.2 (.inl rfl) w)
  have HS2 := Lib.hid (fun w => signed_any r2.1 r2.2 (.inr rfl) w)
  have hbn : b ≠ w.heap.size := by have := cell_lt c0; simp at this; omega
  have HD := Lib.hid (show dec y = ⟨y 0, y 1 / 16, y 1 % 16, sgn (y 2 + 256 * y 3) 32768, sgn (y 4 + 256 * y 5 + 65536 * y 6 + 16777216 * y 7) 2147483648⟩ from rfl)
  clear c0 c1 c2 c3 c4 c5 c6 c7 hk h a r1 r2
  obtain ⟨r, hr⟩ : ∃ r, dec y = r := ⟨_, rfl⟩
  rw [hr] at HD ⊢
  clear hr
  generalize y 0 = y0 at *
  generalize y 1 = y1 at *
  generalize y 2 = y2 at *
  generalize y 3 = y3 at *
  generalize y 4 = y4 at *
  generalize y 5 = y5 at *
  generalize y 6 = y6 at *
  generalize y 7 = y7 at *
  generalize sgn (y2 + 256 * y3) 32768 = z1 at *
  generalize sgn (y4 + 256 * y5 + 65536 * y6 + 16777216 * y7) 2147483648 = z2 at *
  go_enter Tryd.func34, Tryd.ntmps34
  go_wp2_with fail
  go_region
  go_wp2_with fail
  go_region
  go_wp2_with fail
  clear b1 b2 p1 p2 p3 p4 p5 p6 d2 d3 d4 d5 d6 d7 a2 a3 a4 a5 a6 a7
  have k0 := HKp.out #[.int .i64 y0, .int .i64 (y1 / 16), .int .i64 (y1 % 16), .int .i64 z1, .int .i64 z2]
  have k1 := HKq.out #[.int .i64 y0, .int .i64 (y1 / 16), .int .i64 (y1 % 16), .int .i64 z1, .int .i64 z2]
  go_region_held3 (fun w' => w'.cell? ⟨b, o, none⟩ = some (.int .u8 y0) ∧ w'.cell? ⟨b, o + 1, none⟩ = some (.int .u8 y1)) (go_keep) (first
    | (with_reducible refine (HS1.out _).mono ?_; rintro e w' ⟨rfl, rfl⟩)
    | (with_reducible refine (HS2.out _).mono ?_; rintro e w' ⟨rfl, rfl⟩)
    | fail)
  go_wp2
  rw [HD.out]
  unfold iv
  refine post_val ?_ rfl (((((Ch.refl [] _).alloc _).drew).drew).drew)
  simp [results, Tryd.f34, go_sem]
end Go.Proofs.YtgldkalagmjkfaaDoor
