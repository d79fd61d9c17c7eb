/-
  The document's answer for the wheel: Put, where it comes to a place.
-/
import Derived.Test.YtnndofeomakpiaaGreatDoorWpC
namespace Go.Proofs.YtnndofeomakpiaaGreatDoor
open Go.RowKit

attribute [local go_sem] Oper.semAt_some

/-- The two results that lie in cells, stored. -/
def set6 (w : World) (X1 X2 : Nat) (a b c0 c1 c2 c3 : Value) : World := ((((((w.setCell ⟨X1, 0, none⟩ a).setCell ⟨X1, 1, none⟩ b).setCell ⟨X2, 0, none⟩ c0).setCell ⟨X2, 1, none⟩ c1).setCell ⟨X2, 2, none⟩ c2).setCell ⟨X2, 3, none⟩ c3)
theorem ch_grown {w w' : World} {g : Nat} (h : w.grownBy w' (some g)) : Ch [g] w w' := ⟨h.os, h.tape, h.output, h.size, fun k hk hn => h.block k hk (fun e => by cases e; simp at hn)⟩
theorem cells5_new (w : World) (x y z u s : Value) (t : TypeId) : ∀ j q, [x, y, z, u, s][j]? = some q → (w.alloc (.cells #[x, y, z, u, s] t)).cell? ((⟨w.heap.size, 0, none⟩ : Addr).add j) = some q := by
  intro j q hj
  rw [addr_add, Nat.zero_add, World.cell?_alloc_at _ _ _ _ rfl]
  match j, hj with
  | 0, hj => simpa using hj
  | 1, hj => simpa using hj
  | 2, hj => simpa using hj
  | 3, hj => simpa using hj
  | 4, hj => simpa using hj
section
variable {w : World} {D : Nat} {v : Value} {m : List Tm} {now id at' : Int}
set_option maxRecDepth 100000 in
set_option maxHeartbeats 1000000 in
theorem rput_max (h : RT w D v m) (hl : m.length ≤ 256) (h0 : 0 ≤ id) (h1 : id < 256) (hno : ∀ t ∈ m, t.id ≠ id) (hm : now = 18446744073709551615) (at' : Int) :
    Calls Tryz.prog 25 #[rw7 now v, .int .i64 id, .int .u64 at'] w fun e w' => e = .returned (.tuple #[rw7 now v, spZ, .int .i64 12]) ∧ Ch [] w w' := by
  have HPl := Lib.hid (fun W => hm ▸ rplace_max at' W : ∀ W, Calls Tryz.prog 50 #[.int .u64 now, .int .u64 at'] W fun e w' => e = .returned (.tuple #[.agg #[.int .i64 0, .int .i64 0, .int .u64 0, .int .u64 0], .int .i64 12]) ∧ Ch [] W w')
  clear hm
  unfold spZ
  obtain ⟨a, c, rfl⟩ := own_form h
  have hix := ixOf_neg hno
  have HF := Lib.hid (fun (W : World) (hc : Ch [] w W) => rfind_any now id (h.quiet hc) hl)
  rw [hix] at HF
  have hd : decide (id < 0) = false := decide_eq_false (by omega)
  have hd2 : decide (255 < id) = false := decide_eq_false (by omega)
  unfold rw7 at *
  have HH := Lib.hid h
  obtain ⟨n, hn⟩ : ∃ n, n = m.length := ⟨_, rfl⟩
  rw [← hn] at HF HH hl ⊢
  have HNl := Lib.hid hn
  obtain ⟨q0, q1⟩ := two_new w (.int .u64 now) (.slice a n c) 58
  have hX1 := (Box2.new (w.alloc (.cells #[.int .u64 now, .slice a n c] 58)) (.int .u64 0) (.slice none 0 0) 58).alloc (.cells #[.int .i64 0, .int .i64 0, .int .u64 0, .int .u64 0] 37)
  have hX2 := Four.new ((w.alloc (.cells #[.int .u64 now, .slice a n c] 58)).alloc (.cells #[.int .u64 0, .slice none 0 0] 58)) (.int .i64 0) (.int .i64 0) (.int .u64 0) (.int .u64 0) 37
  have hf2 := Four.frz ((w.alloc (.cells #[.int .u64 now, .slice a n c] 58)).alloc (.cells #[.int .u64 0, .slice none 0 0] 58)) (.int .i64 0) (.int .i64 0) (.int .u64 0) (.int .u64 0) 37
  have r0 := Mk.cell_allocd (.cells #[.int .i64 0, .int .i64 0, .int .u64 0, .int .u64 0] 37) (Mk.cell_allocd (.cells #[.int .u64 0, .slice none 0 0] 58) q0)
  have r1 := Mk.cell_allocd (.cells #[.int .i64 0, .int .i64 0, .int .u64 0, .int .u64 0] 37) (Mk.cell_allocd (.cells #[.int .u64 0, .slice none 0 0] 58) q1)
  simp only [World.size_alloc] at hX1 hX2 hf2
  have hal : Ch [] w (((w.alloc (.cells #[.int .u64 now, .slice a n c] 58)).alloc (.cells #[.int .u64 0, .slice none 0 0] 58)).alloc (.cells #[.int .i64 0, .int .i64 0, .int .u64 0, .int .u64 0] 37)) := (((Ch.refl [] w).alloc _).alloc _).alloc _
  have hsz : (((w.alloc (.cells #[.int .u64 now, .slice a n c] 58)).alloc (.cells #[.int .u64 0, .slice none 0 0] 58)).alloc (.cells #[.int .i64 0, .int .i64 0, .int .u64 0, .int .u64 0] 37)).heap.size = w.heap.size + 3 := by simp
  have HX1 := Lib.hid hX1
  have HX2 := Lib.hid hX2
  have HF2 := Lib.hid hf2
  have HAl := Lib.hid hal
  have HSz := Lib.hid hsz
  clear q0 q1 hX1 hX2 hf2 hal hsz h0 h1 hix h hn hno
  go_enter Tryz.func25, Tryz.ntmps25
  go_wp2_with fail
  with_reducible refine (HF.out _ HAl.out).mono ?_
  rintro e w4 ⟨rfl, hc4⟩
  have hb4 := HX1.out.ch hc4 (by simp)
  have hf4 := HX2.out.ch hc4 (by simp)
  have hx2 : w.heap.size + 1 + 1 < (((w.alloc (.cells #[.int .u64 now, .slice a n c] 58)).alloc (.cells #[.int .u64 0, .slice none 0 0] 58)).alloc (.cells #[.int .i64 0, .int .i64 0, .int .u64 0, .int .u64 0] 37)).heap.size := by rw [HSz.out]; omega
  have g4 : ∀ o, w4.frozen? ⟨w.heap.size + 1 + 1, o, none⟩ = false := fun o => (hc4.frozen (p := ⟨w.heap.size + 1 + 1, o, none⟩) hx2 (by simp)).trans (HF2.out o)
  have r0' := (hc4.cell (cell_lt r0) (by simp)).trans r0
  have r1' := (hc4.cell (cell_lt r1) (by simp)).trans r1
  have HB4 := Lib.hid hb4
  have HF4 := Lib.hid hf4
  have HG4 := Lib.hid g4
  have HR0 := Lib.hid r0'
  have HR1 := Lib.hid r1'
  have HC4 := Lib.hid (HAl.out.trans hc4)
  have HS4 := Lib.hid (show w.heap.size + 3 ≤ w4.heap.size by rw [← HSz.out]; exact hc4.size)
  clear hc4 hx2 g4 r0 r1 HF HF2 hb4 hf4 HX1 HX2 HAl HSz r1'
  go_frame
  go_wp2_with fail
  with_reducible refine (HPl.out _).mono ?_
  rintro e w5 ⟨rfl, hc5⟩
  have hc6 := hc5.alloc (.cells #[.int .i64 0, .int .i64 0, .int .u64 0, .int .u64 0] 37)
  have hb6 := HB4.out.ch hc6 (by simp)
  have hf6 := HF4.out.ch hc6 (by simp)
  have g6 : ∀ o, (w5.alloc (.cells #[.int .i64 0, .int .i64 0, .int .u64 0, .int .u64 0] 37)).frozen? ⟨w.heap.size + 1 + 1, o, none⟩ = false := fun o => (hc6.frozen (p := ⟨w.heap.size + 1 + 1, o, none⟩) (by have := HS4.out; simp; omega) (by simp)).trans (HG4.out o)
  have r0 := (hc6.cell (cell_lt HR0.out) (by simp)).trans HR0.out
  have r1 := (hc6.cell (cell_lt HR1.out) (by simp)).trans HR1.out
  obtain ⟨d0, d1, d2, d3⟩ := Four.new w5 (.int .i64 0) (.int .i64 0) (.int .u64 0) (.int .u64 0) 37
  have HC6 := Lib.hid (HC4.out.trans hc6)
  have HB6 := Lib.hid hb6
  have HF6 := Lib.hid hf6
  obtain ⟨b0, b1, bf0, bf1⟩ := hb6
  obtain ⟨k0, k1, k2, k3⟩ := hf6
  have f0 := g6 0
  have f1 := g6 1
  have f2 := g6 2
  have f3 := g6 3
  have HX5 := Lib.hid hc5.size
  obtain ⟨X5, hX5⟩ : ∃ X5, X5 = w5.heap.size := ⟨_, rfl⟩
  rw [← hX5] at d0 d1 d2 d3
  have HX5e := Lib.hid hX5
  clear hc5 hc6 g6 r0' hX5
  go_frame
  go_wp2_with fail
  rw [← HX5e.out]
  have hn5 : ¬ w.heap.size + 1 = X5 := by rw [HX5e.out]; have := HX5.out; have := HS4.out; omega
  have hn6 : ¬ X5 = w.heap.size + 1 := fun e => hn5 e.symm
  clear HX5e HX5
  generalize w5.alloc (.cells #[.int .i64 0, .int .i64 0, .int .u64 0, .int .u64 0] 37) = w6 at *
  go_region
  obtain ⟨hb7, hf7, hc7⟩ := res_cells (a := .int .u64 now) (b := .slice a n c) (c0 := .int .i64 0) (c1 := .int .i64 0) (c2 := .int .u64 0) (c3 := .int .u64 0) HB6.out HF6.out (by omega)
  have HC7 := Lib.hid (HC6.out.fresh hc7 (fun k hk => by simp at hk; omega))
  obtain ⟨p0, p1, _, _⟩ := hb7
  obtain ⟨s0, s1, s2, s3⟩ := hf7
  clear hc7 b0 b1 bf0 bf1 k0 k1 k2 k3 f0 f1 f2 f3 d0 d1 d2 d3 r0 r1
  generalize (((((w6.setCell ⟨w.heap.size + 1, 0, none⟩ (.int .u64 now)).setCell ⟨w.heap.size + 1, 1, none⟩ (.slice a n c)).setCell ⟨w.heap.size + 1 + 1, 0, none⟩ (.int .i64 0)).setCell ⟨w.heap.size + 1 + 1, 1, none⟩ (.int .i64 0)).setCell ⟨w.heap.size + 1 + 1, 2, none⟩ (.int .u64 0)).setCell ⟨w.heap.size + 1 + 1, 3, none⟩ (.int .u64 0) = w7 at *
  have p0' : w7.drew.cell? ⟨w.heap.size + 1, 0, none⟩ = some (.int .u64 now) := p0
  have p1' : w7.drew.cell? ⟨w.heap.size + 1, 1, none⟩ = some (.slice a n c) := p1
  have s0' : w7.drew.cell? ⟨w.heap.size + 1 + 1, 0, none⟩ = some (.int .i64 0) := s0
  have s1' : w7.drew.cell? ⟨w.heap.size + 1 + 1, 1, none⟩ = some (.int .i64 0) := s1
  have s2' : w7.drew.cell? ⟨w.heap.size + 1 + 1, 2, none⟩ = some (.int .u64 0) := s2
  have s3' : w7.drew.cell? ⟨w.heap.size + 1 + 1, 3, none⟩ = some (.int .u64 0) := s3
  go_wp2_with fail
  refine bodyPost_ret (v := .tuple #[.agg #[.int .u64 now, .slice a n c], .agg #[.int .i64 0, .int .i64 0, .int .u64 0, .int .u64 0], .int .i64 12]) ?_ rfl ?_
  · simp [results, Tryz.f25, go_sem, p0', p1', s0', s1', s2', s3']
  · exact ⟨rfl, HC7.out.drew⟩
set_option maxRecDepth 100000 in
set_option maxHeartbeats 2000000 in
theorem rput_ok (h : RT w D v m) (hD : D ≤ w.heap.size) (hl : m.length ≤ 256) (h0 : 0 ≤ id) (h1 : id < 256) (hno : ∀ t ∈ m, t.id ≠ id) (hnw : Wd now) (ha : Wd at') (hm : now ≠ 18446744073709551615) (p : Nat) :
    Calls Tryz.prog 25 #[rw7 now v, .int .i64 id, .int .u64 at'] w fun e w' => ∃ v', e = .returned (.tuple #[rw7 now v', spV (placeV now at'), .int .i64 0]) ∧ RT w' w.heap.size v' (m ++ [⟨id, placeV now at', p⟩]) ∧ Ch [] w w' := by
  have HPl := Lib.hid (fun W => rplace_any hnw ha hm W)
  obtain ⟨sp, hsp⟩ : ∃ sp, sp = placeV now at' := ⟨_, rfl⟩
  rw [← hsp] at HPl ⊢
  obtain ⟨i0, hI, hz0, hz1, hz2⟩ := info_parts infoT
  obtain ⟨lv, sl, sa, sd⟩ := sp
  have HRt := Lib.hid (show rt (m ++ [⟨id, ⟨lv, sl, sa, sd⟩, p⟩]) = rt m ++ [.int .i64 id, .int .i64 (lv : Int), .int .i64 sl, .int .u64 sa, .int .u64 sd] by rw [rt_append]; simp [rt, tc])
  have HOne := Lib.hid (rt_one m)
  have HDl := Lib.hid hD
  clear hm hnw ha hsp hD
  unfold spV at *
  obtain ⟨a, c, rfl⟩ := own_form h
  have hix := ixOf_neg hno
  have HF := Lib.hid (fun (W : World) (hc : Ch [] w W) => rfind_any now id (h.quiet hc) hl)
  rw [hix] at HF
  have hd : decide (id < 0) = false := decide_eq_false (by omega)
  have hd2 : decide (255 < id) = false := decide_eq_false (by omega)
  unfold rw7 at *
  have HH := Lib.hid h
  obtain ⟨n, hn⟩ : ∃ n, n = m.length := ⟨_, rfl⟩
  rw [← hn] at HF HH hl ⊢
  have HNl := Lib.hid hn
  obtain ⟨q0, q1⟩ := two_new w (.int .u64 now) (.slice a n c) 58
  have hX1 := (Box2.new (w.alloc (.cells #[.int .u64 now, .slice a n c] 58)) (.int .u64 0) (.slice none 0 0) 58).alloc (.cells #[.int .i64 0, .int .i64 0, .int .u64 0, .int .u64 0] 37)
  have hX2 := Four.new ((w.alloc (.cells #[.int .u64 now, .slice a n c] 58)).alloc (.cells #[.int .u64 0, .slice none 0 0] 58)) (.int .i64 0) (.int .i64 0) (.int .u64 0) (.int .u64 0) 37
  have hf2 := Four.frz ((w.alloc (.cells #[.int .u64 now, .slice a n c] 58)).alloc (.cells #[.int .u64 0, .slice none 0 0] 58)) (.int .i64 0) (.int .i64 0) (.int .u64 0) (.int .u64 0) 37
  have r0 := Mk.cell_allocd (.cells #[.int .i64 0, .int .i64 0, .int .u64 0, .int .u64 0] 37) (Mk.cell_allocd (.cells #[.int .u64 0, .slice none 0 0] 58) q0)
  have r1 := Mk.cell_allocd (.cells #[.int .i64 0, .int .i64 0, .int .u64 0, .int .u64 0] 37) (Mk.cell_allocd (.cells #[.int .u64 0, .slice none 0 0] 58) q1)
  simp only [World.size_alloc] at hX1 hX2 hf2
  have hal : Ch [] w (((w.alloc (.cells #[.int .u64 now, .slice a n c] 58)).alloc (.cells #[.int .u64 0, .slice none 0 0] 58)).alloc (.cells #[.int .i64 0, .int .i64 0, .int .u64 0, .int .u64 0] 37)) := (((Ch.refl [] w).alloc _).alloc _).alloc _
  have hsz : (((w.alloc (.cells #[.int .u64 now, .slice a n c] 58)).alloc (.cells #[.int .u64 0, .slice none 0 0] 58)).alloc (.cells #[.int .i64 0, .int .i64 0, .int .u64 0, .int .u64 0] 37)).heap.size = w.heap.size + 3 := by simp
  have HX1 := Lib.hid hX1
  have HX2 := Lib.hid hX2
  have HF2 := Lib.hid hf2
  have HAl := Lib.hid hal
  have HSz := Lib.hid hsz
  clear q0 q1 hX1 hX2 hf2 hal hsz h0 h1 hix h hn hno
  go_enter Tryz.func25, Tryz.ntmps25
  go_wp2_with fail
  with_reducible refine (HF.out _ HAl.out).mono ?_
  rintro e w4 ⟨rfl, hc4⟩
  have hb4 := HX1.out.ch hc4 (by simp)
  have hf4 := HX2.out.ch hc4 (by simp)
  have hx2 : w.heap.size + 1 + 1 < (((w.alloc (.cells #[.int .u64 now, .slice a n c] 58)).alloc (.cells #[.int .u64 0, .slice none 0 0] 58)).alloc (.cells #[.int .i64 0, .int .i64 0, .int .u64 0, .int .u64 0] 37)).heap.size := by rw [HSz.out]; omega
  have g4 : ∀ o, w4.frozen? ⟨w.heap.size + 1 + 1, o, none⟩ = false := fun o => (hc4.frozen (p := ⟨w.heap.size + 1 + 1, o, none⟩) hx2 (by simp)).trans (HF2.out o)
  have r0' := (hc4.cell (cell_lt r0) (by simp)).trans r0
  have r1' := (hc4.cell (cell_lt r1) (by simp)).trans r1
  have HB4 := Lib.hid hb4
  have HF4 := Lib.hid hf4
  have HG4 := Lib.hid g4
  have HR0 := Lib.hid r0'
  have HR1 := Lib.hid r1'
  have HC4 := Lib.hid (HAl.out.trans hc4)
  have HS4 := Lib.hid (show w.heap.size + 3 ≤ w4.heap.size by rw [← HSz.out]; exact hc4.size)
  clear hc4 hx2 g4 r0 r1 HF HF2 hb4 hf4 HX1 HX2 HAl HSz r1'
  go_frame
  go_wp2_with fail
  with_reducible refine (HPl.out _).mono ?_
  rintro e w5 ⟨rfl, hc5⟩
  have hc6 := hc5.alloc (.cells #[.int .i64 (lv : Int), .int .i64 sl, .int .u64 sa, .int .u64 sd] 37)
  have HB6 := Lib.hid (HB4.out.ch hc6 (by simp))
  have HF6 := Lib.hid (HF4.out.ch hc6 (by simp))
  have HG6 := Lib.hid (show ∀ o, (w5.alloc (.cells #[.int .i64 (lv : Int), .int .i64 sl, .int .u64 sa, .int .u64 sd] 37)).frozen? ⟨w.heap.size + 1 + 1, o, none⟩ = false from fun o => (hc6.frozen (p := ⟨w.heap.size + 1 + 1, o, none⟩) (by have := HS4.out; simp; omega) (by simp)).trans (HG4.out o))
  have r0 := (hc6.cell (cell_lt HR0.out) (by simp)).trans HR0.out
  have r1 := (hc6.cell (cell_lt HR1.out) (by simp)).trans HR1.out
  have HD6 := Lib.hid (Four.new w5 (.int .i64 (lv : Int)) (.int .i64 sl) (.int .u64 sa) (.int .u64 sd) 37)
  have HC6 := Lib.hid (HC4.out.trans hc6)
  have HX5 := Lib.hid hc5.size
  obtain ⟨X5, hX5⟩ : ∃ X5, X5 = w5.heap.size := ⟨_, rfl⟩
  rw [← hX5] at HD6
  have HX6 := Lib.hid (show X5 < (w5.alloc (.cells #[.int .i64 (lv : Int), .int .i64 sl, .int .u64 sa, .int .u64 sd] 37)).heap.size by rw [hX5]; simp)
  have HX5e := Lib.hid hX5
  have hn5 : ¬ w.heap.size + 1 = X5 := by rw [HX5e.out]; have := HX5.out; have := HS4.out; omega
  have hn6 : ¬ X5 = w.heap.size + 1 := fun e => hn5 e.symm
  have HR0' := Lib.hid r0
  clear hc5 hc6 r0' hX5
  go_frame
  go_upto_region 8 with (fail)
  rw [← HX5e.out]
  generalize w5.alloc (.cells #[.int .i64 (lv : Int), .int .i64 sl, .int .u64 sa, .int .u64 sd] 37) = w6 at *
  have H6 := Lib.hid (show RT w6 D (.slice a n c) m from by have := HH.out; rw [HNl.out] at this ⊢; exact RT.quiet this HC6.out)
  have hs6 : w.heap.size < w6.heap.size := cell_lt r1
  have hs61 : w.heap.size + 1 < w6.heap.size := HB6.out.lt
  have hs62 : w.heap.size + 1 + 1 < w6.heap.size := cell_lt HF6.out.c0
  go_wp2_with (at_builtin; go_must (refine wpList_append_row rfl _ _ 56 rfl w6.heap.size 55 i0 (.agg #[.int .i64 0, .int .i64 0, .int .i64 0, .int .u64 0, .int .u64 0]) 5 40 Tryz.underlying56 hI hz0 hz1 hz2 rfl (by decide) (.slice (some ⟨w6.heap.size, 0, none⟩) 0 0) 0 [] rfl ?c0 ?c1 D (.slice a n c) n (rt m) rfl ?c2 HOne.out ?c3 ?c4 ?c5 ?_))
  case c0 => exact World.ownsRow_lit w6 #[] 0 (by simp) (Nat.zero_le _) rfl
  case c1 => intro e; cases e
  case c2 => have := World.ownsRow.alloc H6.out (.cells #[] 55); rw [← HNl.out] at this; exact this
  case c3 => unfold maxLen; omega
  case c4 => omega
  case c5 => simp
  intro v1 w7 hown1 hgrow1 hne1
  obtain ⟨g1, cp1, rfl⟩ := own_some hown1 hne1
  have hown1' : w7.ownsRow w6.heap.size 55 5 (.slice (some ⟨g1, 0, none⟩) n cp1) n (rt m) := by simpa using hown1
  have hg1 : w6.heap.size ≤ g1 := (hown1'.lt g1 rfl).1
  have hc7 : Ch [] w6 w7 := ((Ch.refl [] w6).alloc (.cells #[] 55)).kept hgrow1 (fun r e => by simp [Value.ownBlock] at e; omega)
  have HB7 := Lib.hid (HB6.out.ch hc7 (by simp))
  have HF7 := Lib.hid (HF6.out.ch hc7 (by simp))
  have HD7 := Lib.hid (HD6.out.ch hc7 (by simp))
  have HG7 := Lib.hid (show ∀ o, w7.frozen? ⟨w.heap.size + 1 + 1, o, none⟩ = false from fun o => (hc7.frozen (p := ⟨w.heap.size + 1 + 1, o, none⟩) (by show w.heap.size + 1 + 1 < _; omega) (by simp)).trans (HG6.out o))
  have r0 := (hc7.cell (cell_lt HR0'.out) (by simp)).trans HR0'.out
  have HC7 := Lib.hid (HC6.out.trans hc7)
  have HO7 := Lib.hid hown1'
  have hs7 := hc7.size
  have hx5 := HX6.out
  have HN := Lib.hid (cells5_new w7.drew (.int .i64 id) (.int .i64 (lv : Int)) (.int .i64 sl) (.int .u64 sa) (.int .u64 sd) 55)
  have HW := Lib.hid (fun (v2 : Value) (w8 : World) (hown : w8.ownsRow w6.heap.size 55 5 v2 (n + 1) (rt m ++ [.int .i64 id, .int .i64 (lv : Int), .int .i64 sl, .int .u64 sa, .int .u64 sd])) (hg : (w7.drew.alloc (.cells #[.int .i64 id, .int .i64 (lv : Int), .int .i64 sl, .int .u64 sa, .int .u64 sd] 55)).grownBy w8 (Value.slice (some ⟨g1, 0, none⟩) n cp1).ownBlock) => (show Box2 w8 (w.heap.size + 1) (.int .u64 0) (.slice none 0 0) ∧ Four w8 (w.heap.size + 1 + 1) (.int .i64 0) (.int .i64 0) (.int .u64 0) (.int .u64 0) ∧ Four w8 X5 (.int .i64 (lv : Int)) (.int .i64 sl) (.int .u64 sa) (.int .u64 sd) ∧ (∀ o, w8.frozen? ⟨w.heap.size + 1 + 1, o, none⟩ = false) ∧ w8.cell? ⟨w.heap.size, 0, none⟩ = some (.int .u64 now) ∧ Ch [] w w8 from by
    have hch := ch_grown (g := g1) hg
    have hal := (Ch.refl [] w7.drew).alloc (.cells #[.int .i64 id, .int .i64 (lv : Int), .int .i64 sl, .int .u64 sa, .int .u64 sd] 55)
    have hb : Box2 w7.drew (w.heap.size + 1) (.int .u64 0) (.slice none 0 0) := HB7.out.drewN 1
    have hf : Four w7.drew (w.heap.size + 1 + 1) (.int .i64 0) (.int .i64 0) (.int .u64 0) (.int .u64 0) := ⟨HF7.out.c0, HF7.out.c1, HF7.out.c2, HF7.out.c3⟩
    have hd : Four w7.drew X5 (.int .i64 (lv : Int)) (.int .i64 sl) (.int .u64 sa) (.int .u64 sd) := ⟨HD7.out.c0, HD7.out.c1, HD7.out.c2, HD7.out.c3⟩
    refine ⟨(hb.ch hal (by simp)).ch hch (by simp; omega), (hf.ch hal (by simp)).ch hch (by simp; omega), (hd.ch hal (by simp)).ch hch (by simp; omega), fun o => ?_, ?_, (HC7.out.drew.trans hal).fresh hch (fun k hk => by simp at hk; omega)⟩
    · have e1 := hch.frozen (p := ⟨w.heap.size + 1 + 1, o, none⟩) (Nat.lt_of_lt_of_le (show w.heap.size + 1 + 1 < w7.drew.heap.size from (by show _ < w7.heap.size; omega)) hal.size) (by simp; omega)
      have e2 := hal.frozen (p := ⟨w.heap.size + 1 + 1, o, none⟩) (by show w.heap.size + 1 + 1 < w7.heap.size; omega) (by simp)
      exact e1.trans (e2.trans (HG7.out o))
    · have e1 := hch.cell (p := ⟨w.heap.size, 0, none⟩) (Nat.lt_of_lt_of_le (show w.heap.size < w7.drew.heap.size from (by show _ < w7.heap.size; omega)) hal.size) (by simp; omega)
      have e2 := hal.cell (p := ⟨w.heap.size, 0, none⟩) (by show w.heap.size < w7.heap.size; omega) (by simp)
      exact e1.trans (e2.trans r0)))
  obtain ⟨d0, d1, d2, d3⟩ := HD7.out
  clear hown1 hown1' hgrow1 hne1 hc7 hg1 r1
  have hx7 : X5 < w7.heap.size := by omega
  have hw7 : w.heap.size < w7.heap.size := by omega
  go_upto_region 9 with (fail)
  go_cut [8] from 42 (fun t8 wr => t8 = .int .i64 0 ∧ ∃ g2 cp2, (wr.cell? ⟨w.heap.size + 1, 0, none⟩ = some (.int .u64 now) ∧ wr.cell? ⟨w.heap.size + 1, 1, none⟩ = some (.slice (some ⟨g2, 0, none⟩) (n + 1) cp2)) ∧ Four wr (w.heap.size + 1 + 1) (.int .i64 (lv : Int)) (.int .i64 sl) (.int .u64 sa) (.int .u64 sd) ∧ RT wr w.heap.size (.slice (some ⟨g2, 0, none⟩) (n + 1) cp2) (m ++ [⟨id, ⟨lv, sl, sa, sd⟩, p⟩]) ∧ Ch [] w wr)
  case rest =>
    obtain ⟨rfl, g2, cp2, ⟨p0, p1⟩, ⟨s0, s1, s2, s3⟩, hr9, hc9⟩ := hcut
    have HR9 := Lib.hid hr9
    have HC9 := Lib.hid hc9
    clear hr9 hc9 d0 d1 d2 d3 r0
    go_wp2_with fail
    refine bodyPost_ret (v := .tuple #[.agg #[.int .u64 now, .slice (some ⟨g2, 0, none⟩) (n + 1) cp2], .agg #[.int .i64 (lv : Int), .int .i64 sl, .int .u64 sa, .int .u64 sd], .int .i64 0]) ?_ rfl ?_
    · simp [results, Tryz.f25, go_sem, p0, p1, s0, s1, s2, s3]
    · exact ⟨_, rfl, HR9.out, HC9.out⟩
  case first =>
    have HFin := Lib.hid (fun (g2 cp2 : Nat) (w8 : World) (hown : w8.ownsRow w6.heap.size 55 5 (.slice (some ⟨g2, 0, none⟩) (n + 1) cp2) (n + 1) (rt m ++ [.int .i64 id, .int .i64 (lv : Int), .int .i64 sl, .int .u64 sa, .int .u64 sd])) (hg : (w7.drew.alloc (.cells #[.int .i64 id, .int .i64 (lv : Int), .int .i64 sl, .int .u64 sa, .int .u64 sd] 55)).grownBy w8 (Value.slice (some ⟨g1, 0, none⟩) n cp1).ownBlock) => (show ∃ g3 cp3, ((set6 w8 (w.heap.size + 1) (w.heap.size + 1 + 1) (.int .u64 now) (.slice (some ⟨g2, 0, none⟩) (n + 1) cp2) (.int .i64 (lv : Int)) (.int .i64 sl) (.int .u64 sa) (.int .u64 sd)).cell? ⟨w.heap.size + 1, 0, none⟩ = some (.int .u64 now) ∧ (set6 w8 (w.heap.size + 1) (w.heap.size + 1 + 1) (.int .u64 now) (.slice (some ⟨g2, 0, none⟩) (n + 1) cp2) (.int .i64 (lv : Int)) (.int .i64 sl) (.int .u64 sa) (.int .u64 sd)).cell? ⟨w.heap.size + 1, 1, none⟩ = some (.slice (some ⟨g3, 0, none⟩) (n + 1) cp3)) ∧ Four (set6 w8 (w.heap.size + 1) (w.heap.size + 1 + 1) (.int .u64 now) (.slice (some ⟨g2, 0, none⟩) (n + 1) cp2) (.int .i64 (lv : Int)) (.int .i64 sl) (.int .u64 sa) (.int .u64 sd)) (w.heap.size + 1 + 1) (.int .i64 (lv : Int)) (.int .i64 sl) (.int .u64 sa) (.int .u64 sd) ∧ RT (set6 w8 (w.heap.size + 1) (w.heap.size + 1 + 1) (.int .u64 now) (.slice (some ⟨g2, 0, none⟩) (n + 1) cp2) (.int .i64 (lv : Int)) (.int .i64 sl) (.int .u64 sa) (.int .u64 sd)) w.heap.size (.slice (some ⟨g3, 0, none⟩) (n + 1) cp3) (m ++ [⟨id, ⟨lv, sl, sa, sd⟩, p⟩]) ∧ Ch [] w (set6 w8 (w.heap.size + 1) (w.heap.size + 1 + 1) (.int .u64 now) (.slice (some ⟨g2, 0, none⟩) (n + 1) cp2) (.int .i64 (lv : Int)) (.int .i64 sl) (.int .u64 sa) (.int .u64 sd)) from by
      obtain ⟨hb8, hf8, _, _, _, hc8⟩ := HW.out _ _ hown hg
      obtain ⟨hb9, hf9, hc9⟩ := res_cells (a := .int .u64 now) (b := .slice (some ⟨g2, 0, none⟩) (n + 1) cp2) (c0 := .int .i64 (lv : Int)) (c1 := .int .i64 sl) (c2 := .int .u64 sa) (c3 := .int .u64 sd) hb8 hf8 (by omega)
      refine ⟨g2, cp2, ⟨hb9.c0, hb9.c1⟩, hf9, ?_, hc8.fresh hc9 (fun k hk => by simp at hk; omega)⟩
      unfold RT
      rw [HRt.out, List.length_append, ← HNl.out]
      exact own_mono (own_ch hown hc9 (fun k hk => by simp at hk; omega)) (by omega)))
    go_region_law ((refine step_append_own rfl (.tmp 44) (.tmp 48) 56 rfl w6.heap.size 55 i0 (.agg #[.int .i64 0, .int .i64 0, .int .i64 0, .int .u64 0, .int .u64 0]) 5 40 Tryz.underlying56 hI hz0 hz1 hz2 rfl (by decide) (.slice (some ⟨g1, 0, none⟩) n cp1) n (rt m) (by simp [Act.eval]) (World.ownsRow.alloc (w := w7.drew) HO7.out _) ⟨w7.heap.size, 0, none⟩ 1 1 [.int .i64 id, .int .i64 (lv : Int), .int .i64 sl, .int .u64 sa, .int .u64 sd] (by simp [Act.eval]) rfl HN.out (by simp [Value.oneCell']) (by unfold maxLen; omega) (by omega) (by simp [World.drew]; omega) ?_); intro v2 w8 hown8 hg8 hnil8; obtain ⟨g2, cp2, rfl⟩ := ownsRow_succ hown8; obtain ⟨⟨b0, b1, bf0, bf1⟩, ⟨k0, k1, k2, k3⟩, ⟨e0, e1, e2, e3⟩, hfr, hr8, hc8⟩ := HW.out _ _ hown8 hg8; have f0 := hfr 0; have f1 := hfr 1; have f2 := hfr 2; have f3 := hfr 3; have HO8 := Lib.hid hown8; have HG8 := Lib.hid hg8; clear hown8 hg8 hnil8 hc8 hfr)
    all_goals
      go_wp2_with fail
      go_meet
      case rel => exact ⟨rfl, HFin.out _ _ _ HO8.out HG8.out⟩
end
end Go.Proofs.YtnndofeomakpiaaGreatDoor
