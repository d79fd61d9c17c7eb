/-
  The document's part, signed, One; the program's read.
-/
import Derived.Test.YtgldkalagmjkfaaDoorIsN
import Derived.BigRegion
import Derived.Lib.EndianBits
namespace Go.Proofs.YtgldkalagmjkfaaDoor
open Go.RowKit

attribute [local go_sem] Oper.semAt_some

theorem signed_any {n h : Int} (h0 : 0 ≤ n) (h1 : n ≤ 4294967296) (hh : h = 32768 ∨ h = 2147483648) (w : World) : Calls Tryd.prog 37 #[.int .i64 n, .int .i64 h] w fun e w' => e = .returned (.int .i64 (sgn n h)) ∧ w' = w := by
  have q1 : IntKind.i64.wrap (2 * h) = 2 * h := by rw [IntKind.wrap_i64]; omega
  have q2 : IntKind.i64.wrap (n - 2 * h) = n - 2 * h := by rw [IntKind.wrap_i64]; omega
  unfold sgn
  by_cases hc : n ≥ h
  · have d1 : decide (h ≤ n) = true := decide_eq_true hc
    rw [if_pos hc]
    clear hc hh h0 h1
    go_enter Tryd.func37, Tryd.ntmps37
    go_wp2
    go_ret
    exact ⟨rfl, rfl⟩
  · have d1 : decide (h ≤ n) = false := decide_eq_false hc
    rw [if_neg hc]
    clear hc hh h0 h1
    go_enter Tryd.func37, Tryd.ntmps37
    go_wp2
    go_ret
    exact ⟨rfl, rfl⟩

/-- Eight bytes in memory. -/
structure By8 (w : World) (b o : Nat) (y : Nat → Int) : Prop where
  c : ∀ j, j < 8 → w.cell? ⟨b, o + j, none⟩ = some (.int .u8 (y j))
  lo : ∀ j, j < 8 → 0 ≤ y j
  hi : ∀ j, j < 8 → y j < 256

theorem wrap16 (n : Int) : IntKind.i16.wrap n = (n + 32768) % 65536 - 32768 := by
  simp [IntKind.wrap, IntKind.bits, IntKind.signed]
  split <;> omega
theorem and15 : ∀ a : Fin 256, bits .and .u8 ((a.val : Nat) : Int) 15 = ((a.val % 16 : Nat) : Int) := by decide +kernel
theorem and15_of {y : Int} (h0 : 0 ≤ y) (h1 : y < 256) : bits .and .u8 y 15 = y % 16 := by
  obtain ⟨k, rfl⟩ := Int.eq_ofNat_of_zero_le h0
  have := and15 ⟨k, by omega⟩
  simp only at this
  rw [this]; omega

/-- What the bytes of a number are put together to. -/
structure Put8 (y : Nat → Int) : Prop where
  b1 : IntKind.u16.wrap (y 2) = y 2
  b2 : IntKind.u16.wrap (y 3) = y 3
  b3 : IntKind.u16.wrap (y 3 * 256) = y 3 * 256
  b4 : bits .or .u16 (y 2) (y 3 * 256) = y 2 + 256 * y 3
  b5 : IntKind.i16.wrap (y 2 + 256 * y 3) = sgn (y 2 + 256 * y 3) 32768
  b6 : IntKind.i64.wrap (sgn (y 2 + 256 * y 3) 32768) = sgn (y 2 + 256 * y 3) 32768
  c1 : IntKind.u32.wrap (y 4) = y 4
  c2 : IntKind.u32.wrap (y 5) = y 5
  c3 : IntKind.u32.wrap (y 6) = y 6
  c4 : IntKind.u32.wrap (y 7) = y 7
  c5 : IntKind.u32.wrap (y 5 * 256) = y 5 * 256
  c6 : IntKind.u32.wrap (y 6 * 65536) = y 6 * 65536
  c7 : IntKind.u32.wrap (y 7 * 16777216) = y 7 * 16777216
  d1 : bits .or .u32 (y 4) (y 5 * 256) = y 4 + y 5 * 256
  d2 : bits .or .u32 (y 4 + y 5 * 256) (y 6 * 65536) = y 4 + y 5 * 256 + y 6 * 65536
  d3 : bits .or .u32 (y 4 + y 5 * 256 + y 6 * 65536) (y 7 * 16777216) = y 4 + 256 * y 5 + 65536 * y 6 + 16777216 * y 7
  d4 : IntKind.i32.wrap (y 4 + 256 * y 5 + 65536 * y 6 + 16777216 * y 7) = sgn (y 4 + 256 * y 5 + 65536 * y 6 + 16777216 * y 7) 2147483648
  d5 : IntKind.i64.wrap (sgn (y 4 + 256 * y 5 + 65536 * y 6 + 16777216 * y 7) 2147483648) = sgn (y 4 + 256 * y 5 + 65536 * y 6 + 16777216 * y 7) 2147483648
  e1 : IntKind.i64.wrap (y 0) = y 0
  e2 : IntKind.i64.wrap (y 1 / 16) = y 1 / 16
  e3 : IntKind.i64.wrap (y 1 % 16) = y 1 % 16
  e4 : bits .and .u8 (y 1) 15 = y 1 % 16
theorem put8 {y : Nat → Int} (h0 : ∀ j, j < 8 → 0 ≤ y j) (h1 : ∀ j, j < 8 → y j < 256) : Put8 y := by
  have p0 := h0 0 (by decide); have p1 := h0 1 (by decide); have p2 := h0 2 (by decide); have p3 := h0 3 (by decide)
  have p4 := h0 4 (by decide); have p5 := h0 5 (by decide); have p6 := h0 6 (by decide); have p7 := h0 7 (by decide)
  have r0 := h1 0 (by decide); have r1 := h1 1 (by decide); have r2 := h1 2 (by decide); have r3 := h1 3 (by decide)
  have r4 := h1 4 (by decide); have r5 := h1 5 (by decide); have r6 := h1 6 (by decide); have r7 := h1 7 (by decide)
  clear h0 h1
  refine ⟨?_, ?_, ?_, ?_, ?_, ?_, ?_, ?_, ?_, ?_, ?_, ?_, ?_, ?_, ?_, ?_, ?_, ?_, ?_, ?_, ?_, ?_⟩
  · rw [IntKind.wrap_u16]; omega
  · rw [IntKind.wrap_u16]; omega
  · rw [IntKind.wrap_u16]; omega
  · rw [u16_or8 (y 2) (y 3 * 256) (by omega) (by omega) (by omega) (by omega) (by omega)]; omega
  · rw [wrap16]; unfold sgn; split <;> omega
  · rw [IntKind.wrap_i64]; unfold sgn; split <;> omega
  · rw [IntKind.wrap_u32]; omega
  · rw [IntKind.wrap_u32]; omega
  · rw [IntKind.wrap_u32]; omega
  · rw [IntKind.wrap_u32]; omega
  · rw [IntKind.wrap_u32]; omega
  · rw [IntKind.wrap_u32]; omega
  · rw [IntKind.wrap_u32]; omega
  · rw [u32_or8 (y 4) (y 5 * 256) (by omega) (by omega) (by omega) (by omega) (by omega)]
  · rw [u32_or16 (y 4 + y 5 * 256) (y 6 * 65536) (by omega) (by omega) (by omega) (by omega) (by omega)]
  · rw [u32_or24 (y 4 + y 5 * 256 + y 6 * 65536) (y 7 * 16777216) (by omega) (by omega) (by omega) (by omega) (by omega)]; omega
  · rw [IntKind.wrap_i32]; unfold sgn; split <;> omega
  · rw [IntKind.wrap_i64]; unfold sgn; split <;> omega
  · rw [IntKind.wrap_i64]; omega
  · rw [IntKind.wrap_i64]; omega
  · rw [IntKind.wrap_i64]; omega
  · exact and15_of p1 r1

set_option maxHeartbeats 2000000 in
theorem read_any {w : World} {b o cap : Nat} {y : Nat → Int} (h : By8 w b o y) :
    Calls Tryd.prog 33 #[.slice (some ⟨b, o, none⟩) 8 cap] w fun e w' => e = .returned (iv (dec y)) ∧ Ch [] w w' := by
  have c0 := h.c 0 (by decide); have c1 := h.c 1 (by decide); have c2 := h.c 2 (by decide); have c3 := h.c 3 (by decide)
  have c4 := h.c 4 (by decide); have c5 := h.c 5 (by decide); have c6 := h.c 6 (by decide); have c7 := h.c 7 (by decide)
  rw [Nat.add_zero] at c0
  have hk : ∀ {p : Addr} {v : Value}, w.cell? p = some v → (w.alloc (.cells #[.int .i64 0, .int .i64 0, .int .i64 0, .int .i64 0, .int .i64 0] 34)).cell? p = some v := fun {p v} hp => (((Ch.refl [] w).alloc _).cell (cell_lt hp) (by simp)).trans hp
  have d0 := hk c0; have d1 := hk c1; have d2 := hk c2; have d3 := hk c3; have d4 := hk c4; have d5 := hk c5; have d6 := hk c6; have d7 := hk c7
  obtain ⟨b1, b2, b3, b4, b5, b6, p1, p2, p3, p4, p5, p6, p7, q1, q2, q3, q4, q5, e1, e2, e3, e4⟩ := put8 h.lo h.hi
  have hbn : b ≠ w.heap.size := by have := cell_lt c0; simp at this; omega
  have HD := Lib.hid (show dec y = ⟨y 0, y 1 / 16, y 1 % 16, sgn (y 2 + 256 * y 3) 32768, sgn (y 4 + 256 * y 5 + 65536 * y 6 + 16777216 * y 7) 2147483648⟩ from rfl)
  clear c0 c1 c2 c3 c4 c5 c6 c7 hk h
  obtain ⟨r, hr⟩ : ∃ r, dec y = r := ⟨_, rfl⟩
  rw [hr] at HD ⊢
  clear hr
  generalize y 0 = y0 at *
  generalize y 1 = y1 at *
  generalize y 2 = y2 at *
  generalize y 3 = y3 at *
  generalize y 4 = y4 at *
  generalize y 5 = y5 at *
  generalize y 6 = y6 at *
  generalize y 7 = y7 at *
  generalize sgn (y2 + 256 * y3) 32768 = z1 at *
  generalize sgn (y4 + 256 * y5 + 65536 * y6 + 16777216 * y7) 2147483648 = z2 at *
  generalize y2 + 256 * y3 = z3 at *
  generalize y4 + 256 * y5 + 65536 * y6 + 16777216 * y7 = z4 at *
  go_enter Tryd.func33, Tryd.ntmps33
  go_wp2_with fail
  go_region
  go_wp2_with fail
  go_region
  go_wp2_with fail
  go_region
  go_wp2_with fail
  rw [HD.out]
  unfold iv
  refine post_val ?_ rfl (((((Ch.refl [] _).alloc _).drew).drew).drew)
  simp [results, Tryd.f33, go_sem]
end Go.Proofs.YtgldkalagmjkfaaDoor
