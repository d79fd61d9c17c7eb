/-
  A piece's touch and read; what is done at a copy's end.
-/
import Derived.Test.YtcdolkbljheniaaCpB
namespace Go.Proofs.Ytcdolkbljheniaa
open Go.RowKit

theorem ptouch_any {w : World} {b : Nat} {x : MS} (h : UM w b x) (a m : Int) (hr : a ≤ 9223372036854775807) {p q : Int} (hpq : touchR (16 * x.n) (byPage x.s) a m = (p, q)) :
    Calls Try.prog 35 #[.agg #[.int .i64 a, .int .i64 m], .pointer (some ⟨b, 0, none⟩)] w fun e w' => e = .returned (.tuple #[.int .i64 p, .int .i64 q]) ∧ Ch [] w w' := by
  have hc := (Ch.refl [] w).alloc (.cells #[.int .i64 a, .int .i64 m] 77)
  have HT := Lib.hid (touch_any (h.ch hc (by simp)) a m hr hpq)
  have HC := Lib.hid hc
  clear h hc hpq hr
  go_enter Try.func35, Try.ntmps35
  go_wp2_with (with_reducible refine HT.out.mono ?_; rintro e w' ⟨rfl, rfl⟩)
  go_ret2
  exact ⟨rfl, HC.out⟩
theorem nil_ptouch (a m : Int) (w : World) :
    Calls Try.prog 35 #[.agg #[.int .i64 a, .int .i64 m], .pointer none] w fun e w' => e = .returned (.tuple #[.int .i64 0, .int .i64 6]) ∧ Ch [] w w' := by
  have HC := Lib.hid ((Ch.refl [] w).alloc (.cells #[.int .i64 a, .int .i64 m] 77))
  have HT := Lib.hid (fun w => nil_touch a m w)
  go_enter Try.func35, Try.ntmps35
  go_wp2_with (with_reducible refine (HT.out _).mono ?_; rintro e w' ⟨rfl, rfl⟩)
  go_ret2
  exact ⟨rfl, HC.out⟩
theorem NB.mono {w : World} {lo lo' : Nat} {v : Value} {l : List Int} (h : NB w lo v l) (hl : lo' ≤ lo) : NB w lo' v l := own_mono h hl
theorem pread_any {w : World} {b : Nat} {x : MS} (h : UM w b x) (a m : Int) (hr : a ≤ 9223372036854775807) {l : List Int} (hl : l = if wIn (16 * x.n) a m then peekL x.b a.toNat m.toNat else []) :
    Calls Try.prog 33 #[.agg #[.int .i64 a, .int .i64 m], .pointer (some ⟨b, 0, none⟩)] w fun e w' => ∃ v, e = .returned v ∧ NB w' w.heap.size v l ∧ Ch [] w w' := by
  have hc := (Ch.refl [] w).alloc (.cells #[.int .i64 a, .int .i64 m] 77)
  have HT := Lib.hid (peek_any (h.ch hc (by simp)) a m hr hl)
  have HC := Lib.hid hc
  clear h hc hl hr
  go_enter Try.func33, Try.ntmps33
  go_wp2_with fail
  with_reducible refine HT.out.mono ?_
  rintro e w2 ⟨v, rfl, hn, hc2⟩
  have HN := Lib.hid (hn.mono HC.out.size)
  have HC2 := Lib.hid (HC.out.trans hc2)
  clear hn hc2 HT
  go_wp2
  go_ret
  exact ⟨v, rfl, HN.out, HC2.out⟩
/-- A copy in, done: the piece's bytes. -/
theorem in_done {w : World} {b : Nat} {x : MS} (h : UM w b x) {k1 k2 : Nat} {a : Int} {n : Nat} (hr : a ≤ 9223372036854775807) (c0 : w.cell? ⟨k1, 0, none⟩ = some (.int .i64 a)) (c1 : w.cell? ⟨k1, 1, none⟩ = some (.int .i64 (n : Int))) (hin : wIn (16 * x.n) a n) :
    Calls Try.prog 32 #[.pointer (some ⟨b, 0, none⟩), .bool true, .pointer (some ⟨k1, 0, none⟩), .pointer (some ⟨k2, 0, none⟩)] w fun e w' => ∃ v, e = .returned v ∧ NB w' w.heap.size v (peekL x.b a.toNat n) ∧ Ch [] w w' := by
  have HR := Lib.hid (pread_any h a n hr (l := peekL x.b a.toNat n) (by rw [if_pos hin]; rfl))
  clear h hr hin
  go_enter Try.func32, Try.ntmps32
  go_wp2_with fail
  with_reducible refine HR.out.mono ?_
  rintro e w2 ⟨v, rfl, hn, hc2⟩
  have HN := Lib.hid hn
  have HC2 := Lib.hid hc2
  clear hn hc2 HR
  go_wp2
  go_ret
  exact ⟨v, rfl, HN.out, HC2.out⟩
/-- Zeros. -/
theorem zeros_at (w : World) (n : Nat) (t : TypeId) : BytesAt (w.alloc (.cells (madeCells #[.int .u8 0] n) t)) (some ⟨w.heap.size, 0, none⟩) (List.replicate n 0) := by
  refine .inr ⟨_, _, rfl, fun i hi => ?_⟩
  rw [World.cell?_alloc_at _ _ _ _ rfl]
  simp at hi
  simp [madeCells, hi, Nat.mod_one]
theorem zmake {n : Nat} (hn : n ≤ 64) (w : World) : (Instr.makeSlice 23 (.int .i64 (n : Int)) (.int .i64 (n : Int))).run Try.prog w = .ok (.slice (some ⟨w.heap.size, 0, none⟩) n n) (w.alloc (.cells (madeCells #[.int .u8 0] n) 5)) := by
  obtain ⟨i0, hI, hz0, hz1, hz2⟩ : ∃ i : TypeInfo, Try.prog.info? 5 = some i ∧ i.zero = some (.int .u8 0) ∧ i.size = 1 ∧ i.bytes = 1 := by
    refine ⟨_, rfl, by kernel_rfl, by kernel_rfl, by kernel_rfl⟩
  have hmk := run_make (P := Try.prog) w 23 5 i0 (.int .u8 0) Try.underlying23 hI hz0 .i64 .i64 (n : Int) (n : Int) (by omega) (Int.le_refl _) (by rw [hz2]; omega) (by omega)
  rw [hz1, Int.toNat_natCast, Nat.mul_one] at hmk
  exact hmk
/-- A copy in, failed: zeros. -/
theorem in_fail (M : Option Addr) {k1 k2 n : Nat} (hn : n ≤ 64) {w : World} (c0 : w.cell? ⟨k2, 0, none⟩ = some (.int .i64 (n : Int))) :
    Calls Try.prog 32 #[.pointer M, .bool false, .pointer (some ⟨k1, 0, none⟩), .pointer (some ⟨k2, 0, none⟩)] w fun e w' => ∃ v cap, e = .returned (.slice v n cap) ∧ BytesAt w' v (List.replicate n 0) ∧ (∀ y, v = some y → w.heap.size ≤ y.block ∧ y.block < w'.heap.size) ∧ (v = none → cap = 0) ∧ Ch [] w w' := by
  have hmk := zmake hn w
  have HB := Lib.hid (zeros_at w n 5)
  have HC := Lib.hid ((Ch.refl [] w).alloc (.cells (madeCells #[.int .u8 0] n) 5))
  have HZ := Lib.hid (show w.heap.size < (w.alloc (.cells (madeCells #[.int .u8 0] n) 5)).heap.size by simp)
  generalize w.alloc (.cells (madeCells #[.int .u8 0] n) 5) = w2 at hmk HB HC HZ
  clear hn
  go_enter Try.func32, Try.ntmps32
  go_wp2
  go_ret
  exact ⟨_, _, rfl, HB.out, by simpa using HZ.out, by simp, HC.out⟩
/-- A copy out, done: its bytes are poked. -/
theorem out_done {w : World} {b : Nat} {x : MS} (h : UM w b x) {k1 k2 : Nat} (hk : k2 ≠ b) {a : Int} {n cap : Nat} {v : Option Addr} {l : List Int} (hr : a ≤ 9223372036854775807) (c0 : w.cell? ⟨k1, 0, none⟩ = some (.int .i64 a)) (c1 : w.cell? ⟨k2, 0, none⟩ = some (.slice v n cap)) (hl : l.length = n) (hn : n ≤ 64) (hb : BytesAt w v l) :
    Calls Try.prog 34 #[.pointer (some ⟨b, 0, none⟩), .bool true, .pointer (some ⟨k1, 0, none⟩), .pointer (some ⟨k2, 0, none⟩)] w fun e w' => e = .returned (.slice v n cap) ∧ UM w' b (pokeS x a l) ∧ Ch [b] w w' := by
  have HP := Lib.hid (poke_any h a hr v cap l hl (by omega) hb)
  have HK := Lib.hid hk
  have HL := Lib.hid (cell_lt c1)
  clear h hr hl hn hb hk
  go_enter Try.func34, Try.ntmps34
  go_wp2_with fail
  with_reducible refine HP.out.mono ?_
  rintro e w2 ⟨rfl, hu, hc2⟩
  have d1 := (hc2.cell (p := ⟨k2, 0, none⟩) HL.out (by simpa using HK.out)).trans c1
  have HU := Lib.hid hu
  have HC2 := Lib.hid hc2
  clear hu hc2 HP
  go_wp2
  go_ret
  exact ⟨rfl, HU.out, HC2.out⟩
/-- A copy out, failed: nothing is done. -/
theorem out_fail (M : Option Addr) {k1 k2 n cap : Nat} {v : Option Addr} {w : World} (c1 : w.cell? ⟨k2, 0, none⟩ = some (.slice v n cap)) :
    Calls Try.prog 34 #[.pointer M, .bool false, .pointer (some ⟨k1, 0, none⟩), .pointer (some ⟨k2, 0, none⟩)] w fun e w' => e = .returned (.slice v n cap) ∧ w = w' := by
  go_enter Try.func34, Try.ntmps34
  go_wp2
  go_ret
  exact ⟨rfl, rfl⟩
end Go.Proofs.Ytcdolkbljheniaa
