/-
  The document's answer for scans: its row of holdouts; Word, Count, Ended, Look.
  The document's answer for scans: Look.
-/
import Derived.Test.YtjoaigadlpndcaaGreatDoorMgF
namespace Go.Proofs.YtjoaigadlpndcaaGreatDoor
open Go.RowKit

theorem infoB : (Tryz.prog.info? 4).map (fun i => (i.zero, i.size, i.bytes)) = some (some (.bool false), 1, 1) := by kernel_rfl
/-- The cells of a row of Bools. -/
def bls (p : Nat → Bool) (k : Nat) : List Value := (List.range k).map fun i => .bool (p i)
theorem bls_len (p : Nat → Bool) (k : Nat) : (bls p k).length = k := by simp [bls]
theorem bls_at (p : Nat → Bool) {i k : Nat} (h : i < k) : (bls p k)[i]? = some (.bool (p i)) := by simp [bls, h]
theorem bls_succ (p : Nat → Bool) (k : Nat) : bls p (k + 1) = bls p k ++ [.bool (p k)] := by simp [bls, List.range_succ]
theorem bls_one (p : Nat → Bool) (k : Nat) : ∀ u ∈ bls p k, u.oneCell' = true := by
  intro u hu
  obtain ⟨i, _, rfl⟩ := List.mem_map.1 hu
  rfl
theorem bls_set (p : Nat → Bool) {r : Nat} (_ : r < 64) : (bls p 64).set r (.bool false) = bls (rmv p (r : Int)) 64 := by
  apply List.ext_getElem?
  intro i
  by_cases hi : i < 64
  · rw [bls_at _ hi]
    by_cases e : r = i
    · subst e
      rw [List.getElem?_set_self (by rw [bls_len]; exact hi)]
      simp [rmv]
    · rw [List.getElem?_set_ne e, bls_at _ hi]
      have e2 : ¬ (i : Int) = (r : Int) := by omega
      simp [rmv, e2]
  · rw [List.getElem?_eq_none (by rw [List.length_set, bls_len]; omega), List.getElem?_eq_none (by rw [bls_len]; omega)]
theorem bls_congr {p q : Nat → Bool} {k : Nat} (h : ∀ i, i < k → p i = q i) : bls p k = bls q k := by
  unfold bls
  exact List.map_congr_left fun i hi => by rw [h i (List.mem_range.1 hi)]

/-- Holdouts in a row of 64 Bools that lies behind D. -/
structure RB (w : World) (D g cap : Nat) (p : Nat → Bool) : Prop where
  row : w.ownsRow D 4 1 (.slice (some ⟨g, 0, none⟩) 64 cap) 64 (bls p 64)
section
variable {w w' : World} {D g cap : Nat} {p : Nat → Bool}
theorem RB.at (h : RB w D g cap p) {i : Nat} (hi : i < 64) : w.cell? ⟨g, i, none⟩ = some (.bool (p i)) := by
  obtain ⟨g', e, _, _, _, hc⟩ := own_cells h.row i (by omega)
  cases e
  rw [hc i (by omega), bls_at _ hi]
theorem RB.lo (h : RB w D g cap p) : D ≤ g ∧ g < w.heap.size := by
  obtain ⟨g', e, h1, h2, _⟩ := own_cells h.row 0 (by decide)
  cases e
  exact ⟨h1, h2⟩
theorem RB.away {S : List Nat} (h : RB w D g cap p) (hc : Ch S w w') (hS : g ∉ S) : RB w' D g cap p := by
  obtain ⟨h1, h2⟩ := h.row
  refine ⟨h1, ?_⟩
  rcases h2 with ⟨h2, _⟩ | ⟨g', cap', cur, e, hb, hg, r⟩
  · cases h2
  · cases e
    exact .inr ⟨g, cap, cur, rfl, hb, (hc.block g (Array.getElem?_eq_some_iff.1 hg).1 hS).trans hg, r⟩
theorem RB.quiet (h : RB w D g cap p) (hc : Ch [] w w') : RB w' D g cap p := h.away hc (by simp)
theorem RB.mono {D' : Nat} (h : RB w D g cap p) (hD : D' ≤ D) : RB w D' g cap p := ⟨own_mono h.row hD⟩
end
/-- The answer's scan, as a value. -/
abbrev rval (t : Int) (P g cap : Nat) : Value := .agg #[.int .i64 t, .int .i64 (P : Int), .slice (some ⟨g, 0, none⟩) 64 cap]
theorem cells_three (w : World) (x y z : Value) (t : TypeId) : (w.alloc (.cells #[x, y, z] t)).cell? ⟨w.heap.size, 0, none⟩ = some x ∧ (w.alloc (.cells #[x, y, z] t)).cell? ⟨w.heap.size, 1, none⟩ = some y ∧ (w.alloc (.cells #[x, y, z] t)).cell? ⟨w.heap.size, 2, none⟩ = some z :=
  ⟨by rw [World.cell?_alloc_at _ _ _ _ rfl]; rfl, by rw [World.cell?_alloc_at _ _ _ _ rfl]; rfl, by rw [World.cell?_alloc_at _ _ _ _ rfl]; rfl⟩

set_option maxHeartbeats 1000000 in
theorem rcount_any {w : World} {D g cap : Nat} {p : Nat → Bool} (h : RB w D g cap p) (t : Int) (P : Nat) {v : Nat} (hv : cntN p 64 = v) :
    Calls Tryz.prog 40 #[rval t P g cap] w fun e w' => e = .returned (.int .i64 (v : Int)) ∧ Ch [] w w' := by
  subst hv
  have H := Lib.hid (h.quiet ((Ch.refl [] w).alloc (.cells #[.int .i64 t, .int .i64 (P : Int), .slice (some ⟨g, 0, none⟩) 64 cap] 34)))
  have HC := Lib.hid ((Ch.refl [] w).alloc (.cells #[.int .i64 t, .int .i64 (P : Int), .slice (some ⟨g, 0, none⟩) 64 cap] 34))
  have k3 := (cells_three w (.int .i64 t) (.int .i64 (P : Int)) (.slice (some ⟨g, 0, none⟩) 64 cap) 34).2.2
  clear h
  go_enter Tryz.func40, Tryz.ntmps40
  go_wp2_with fail
  obtain ⟨B, hB⟩ : ∃ B, B = w.heap.size := ⟨_, rfl⟩
  obtain ⟨w1, hw1⟩ : ∃ W, W = w.alloc (.cells #[.int .i64 t, .int .i64 (P : Int), .slice (some ⟨g, 0, none⟩) 64 cap] 34) := ⟨_, rfl⟩
  rw [← hw1] at H HC k3 ⊢
  rw [← hB] at k3 ⊢
  clear hB hw1
  go_loop [3, 4] (fun v i => ∃ k : Nat, k ≤ 64 ∧ i = .int .i64 (k : Int) ∧ v = .int .i64 ((cntN p k : Nat) : Int)) (fun _ i => 64 - (intOf i).toNat)
  case atStart => exact ⟨0, by decide, rfl, rfl⟩
  case round =>
    obtain ⟨k, hk, rfl, rfl⟩ := hrel
    by_cases hlt : k < 64
    · have c0 := H.out.at hlt
      have hlt' : (k : Int) < 64 := by omega
      have HS := Lib.hid (cntN_succ p k)
      have hle := cntN_le p k
      generalize cntN p k = v at *
      have hw1 : IntKind.i64.wrap ((v : Int) + 1) = (v : Int) + 1 := IntWalk.i64_in _ (by omega)
      cases hp : p k with
      | true =>
        rw [hp] at c0 HS
        clear hp
        go_wp2
        go_round
        case rel => exact ⟨k + 1, by omega, by go_num, by rw [HS.out]; rfl⟩
        case measure => simp [intOf]; omega
      | false =>
        rw [hp] at c0 HS
        clear hp
        go_wp2
        go_round
        case rel => exact ⟨k + 1, by omega, by go_num, by rw [HS.out]; rfl⟩
        case measure => simp [intOf]; omega
    · obtain rfl : k = 64 := by omega
      clear hlt
      go_wp2
      go_ret
      exact ⟨rfl, HC.out⟩

set_option maxHeartbeats 1000000 in
theorem rword_any {w : World} {D g cap : Nat} {p : Nat → Bool} (h : RB w D g cap p) (t : Int) (P : Nat) {m : Nat} (hm : mskN p = m) :
    Calls Tryz.prog 50 #[rval t P g cap] w fun e w' => e = .returned (.int .u64 (m : Int)) ∧ Ch [] w w' := by
  have HA := Lib.hid ((dwnN_all p).trans hm)
  have H := Lib.hid (h.quiet ((Ch.refl [] w).alloc (.cells #[.int .i64 t, .int .i64 (P : Int), .slice (some ⟨g, 0, none⟩) 64 cap] 34)))
  have HC := Lib.hid ((Ch.refl [] w).alloc (.cells #[.int .i64 t, .int .i64 (P : Int), .slice (some ⟨g, 0, none⟩) 64 cap] 34))
  have k3 := (cells_three w (.int .i64 t) (.int .i64 (P : Int)) (.slice (some ⟨g, 0, none⟩) 64 cap) 34).2.2
  clear h hm
  go_enter Tryz.func50, Tryz.ntmps50
  go_wp2_with fail
  obtain ⟨B, hB⟩ : ∃ B, B = w.heap.size := ⟨_, rfl⟩
  obtain ⟨w1, hw1⟩ : ∃ W, W = w.alloc (.cells #[.int .i64 t, .int .i64 (P : Int), .slice (some ⟨g, 0, none⟩) 64 cap] 34) := ⟨_, rfl⟩
  rw [← hw1] at H HC k3 ⊢
  rw [← hB] at k3 ⊢
  clear hB hw1
  go_loop [3, 4] (fun v i => ∃ j : Nat, j ≤ 64 ∧ i = .int .i64 (63 - (j : Int)) ∧ v = .int .u64 ((dwnN p j : Nat) : Int)) (fun _ i => (intOf i + 1).toNat)
  case atStart => exact ⟨0, by decide, rfl, rfl⟩
  case round =>
    obtain ⟨j, hj, rfl, rfl⟩ := hrel
    by_cases hlt : j < 64
    · obtain ⟨k, hk⟩ : ∃ k : Nat, k = 63 - j := ⟨_, rfl⟩
      have hki : (63 : Int) - (j : Int) = (k : Int) := by omega
      have hk64 : k < 64 := by omega
      have c0 := H.out.at hk64
      obtain ⟨M, hM⟩ : ∃ M, M = dwnN p j := ⟨_, rfl⟩
      have hww := u64_twice (M := M) (by rw [hM]; exact dwnN_lt _ j) hlt
      have hsucc : dwnN p (j + 1) = M * 2 + (if p k = true then 1 else 0) := by rw [hM, hk]; rfl
      obtain ⟨Q, hQ⟩ : ∃ Q, Q = M * 2 := ⟨_, rfl⟩
      rw [← hQ] at hww hsucc
      obtain ⟨hw1, hw2⟩ := hww
      obtain ⟨Q1, hQ1⟩ : ∃ Q1, Q1 = Q + 1 := ⟨_, rfl⟩
      rw [← hQ1] at hw2
      have HQ1 := Lib.hid hQ1
      rw [← hM]
      have HSu := Lib.hid hsucc
      have hk64' : (k : Int) < 64 := by omega
      have hge : decide ((k : Int) ≥ 0) = true := decide_eq_true (by omega)
      have hsub : IntKind.i64.wrap ((k : Int) - 1) = (k : Int) - 1 := IntWalk.i64_in _ (by omega)
      have hki2 : (63 : Int) - ((j + 1 : Nat) : Int) = (k : Int) - 1 := by omega
      have HK := Lib.hid hki2
      rw [hki]
      clear hsucc hki hki2 hM hk hQ hQ1
      cases hp : p k with
      | true =>
        rw [hp] at c0 HSu
        clear hp
        go_wp2
        go_round
        case rel => exact ⟨j + 1, by omega, by rw [HK.out], by rw [HSu.out, HQ1.out]; rfl⟩
        case measure => simp [intOf]
      | false =>
        rw [hp] at c0 HSu
        clear hp
        go_wp2
        go_round
        case rel => exact ⟨j + 1, by omega, by rw [HK.out], by rw [HSu.out]; rfl⟩
        case measure => simp [intOf]
    · obtain rfl : j = 64 := by omega
      clear hlt
      go_wp2
      go_ret
      exact ⟨by rw [← HA.out]; rfl, HC.out⟩

set_option maxHeartbeats 1000000 in
theorem rended_any {w : World} {D g cap : Nat} {m : Value} {l : List (Nat × Bool)} (hr : RD w D m l) (hl : l.length ≤ 900) (t : Int) (P : Nat) (r : Int) {b : Bool} (hb : endF t (runS l) r = b) :
    Calls Tryz.prog 69 #[rval t P g cap, m, .int .i64 r] w fun e w' => e = .returned (.bool b) ∧ Ch [] w w' := by
  have hal := (Ch.refl [] w).alloc (.cells #[.int .i64 t, .int .i64 (P : Int), .slice (some ⟨g, 0, none⟩) 64 cap] 34)
  have HS := Lib.hid (rstamps_any (hr.quiet hal) (by omega) r)
  have HC := Lib.hid hal
  have HB := Lib.hid hb
  obtain ⟨a, mc, rfl⟩ := hr.form
  unfold endF endB at HB
  generalize l.length = n at *
  generalize sOf (runS l) r = s at *
  generalize (runS l).n = q at *
  have k0 := (cells_three w (.int .i64 t) (.int .i64 (P : Int)) (.slice (some ⟨g, 0, none⟩) 64 cap) 34).1
  clear hr hal hb
  go_enter Tryz.func69, Tryz.ntmps69
  go_wp2_with fail
  obtain ⟨B, hB⟩ : ∃ B, B = w.heap.size := ⟨_, rfl⟩
  obtain ⟨w1, hw1⟩ : ∃ W, W = w.alloc (.cells #[.int .i64 t, .int .i64 (P : Int), .slice (some ⟨g, 0, none⟩) 64 cap] 34) := ⟨_, rfl⟩
  rw [← hw1] at HS HC k0 ⊢
  rw [← hB] at k0 ⊢
  clear hB hw1
  with_reducible refine HS.out.mono ?_
  rintro e w2 ⟨rfl, hc⟩
  have k1 := (hc.cell (p := ⟨B, 0, none⟩) (cell_lt k0) (by simp)).trans k0
  have HC2 := Lib.hid (HC.out.trans hc)
  clear hc k0 HS
  by_cases h0 : s = 0
  · subst h0
    go_wp2_with fail
    go_ret
    exact ⟨by rw [← HB.out]; rfl, HC2.out⟩
  · have h1 : (s == 0) = false := by simpa using h0
    rw [decide_eq_false h0, Bool.false_or] at HB
    clear h0
    go_wp2_with fail
    go_ret
    exact ⟨by rw [← HB.out]; rfl, HC2.out⟩
end Go.Proofs.YtjoaigadlpndcaaGreatDoor
namespace Go.Proofs.YtjoaigadlpndcaaGreatDoor
open Go.RowKit

/-- Three cells of a block. -/
structure Tri (w : World) (B : Nat) (x y z : Value) : Prop where
  c0 : w.cell? ⟨B, 0, none⟩ = some x
  c1 : w.cell? ⟨B, 1, none⟩ = some y
  c2 : w.cell? ⟨B, 2, none⟩ = some z
  fr : ∀ k, w.frozen? ⟨B, k, none⟩ = false
section
variable {w w' : World} {B : Nat} {x y z : Value}
theorem Tri.new (w : World) (x y z : Value) (t : TypeId) : Tri (w.alloc (.cells #[x, y, z] t)) w.heap.size x y z :=
  ⟨by rw [World.cell?_alloc_at _ _ _ _ rfl]; rfl, by rw [World.cell?_alloc_at _ _ _ _ rfl]; rfl, by rw [World.cell?_alloc_at _ _ _ _ rfl]; rfl, fun k => World.frozen?_alloc_new w _ _ _⟩
theorem Tri.lt (h : Tri w B x y z) : B < w.heap.size := cell_lt h.c0
theorem Tri.ch {S : List Nat} (h : Tri w B x y z) (hc : Ch S w w') (hS : B ∉ S) : Tri w' B x y z :=
  ⟨(hc.cell (p := ⟨B, 0, none⟩) h.lt hS).trans h.c0, (hc.cell (p := ⟨B, 1, none⟩) h.lt hS).trans h.c1, (hc.cell (p := ⟨B, 2, none⟩) h.lt hS).trans h.c2, fun k => (hc.frozen (p := ⟨B, k, none⟩) h.lt hS).trans (h.fr k)⟩
theorem Tri.set (h : Tri w B x y z) (x' y' z' : Value) : Tri (((w.setCell ⟨B, 0, none⟩ x').setCell ⟨B, 1, none⟩ y').setCell ⟨B, 2, none⟩ z') B x' y' z' := by
  have h0 := setCell_same (u := x') h.c0
  have h1 := setCell_other (u := x') h.c1 (p := ⟨B, 0, none⟩) (addr_ne_off (by omega))
  have h2 := setCell_other (u := x') h.c2 (p := ⟨B, 0, none⟩) (addr_ne_off (by omega))
  have i0 := setCell_other (u := y') h0 (p := ⟨B, 1, none⟩) (addr_ne_off (by omega))
  have i1 := setCell_same (u := y') h1
  have i2 := setCell_other (u := y') h2 (p := ⟨B, 1, none⟩) (addr_ne_off (by omega))
  exact ⟨setCell_other i0 (addr_ne_off (by omega)), setCell_other i1 (addr_ne_off (by omega)), setCell_same i2, fun k => by simpa using h.fr k⟩
theorem ch_set3 {w W : World} {B : Nat} (h : Ch [] w W) (hB : w.heap.size ≤ B) (x y z : Value) : Ch [] w (((W.setCell ⟨B, 0, none⟩ x).setCell ⟨B, 1, none⟩ y).setCell ⟨B, 2, none⟩ z) :=
  chSetNew (chSetNew (chSetNew h hB x) hB y) hB z
theorem Tri.quiet (h : Tri w B x y z) (hc : Ch [] w w') : Tri w' B x y z := h.ch hc (by simp)
end

set_option maxRecDepth 100000 in
set_option maxHeartbeats 2000000 in
theorem rlook_no {w : World} {D g cap : Nat} {p : Nat → Bool} (h : RB w D g cap p) {m : Value} {l : List (Nat × Bool)} (hr : RD w D m l) (hl : l.length ≤ 900) (t : Int) (P : Nat) {r : Int} (hb : lookB (endF t (runS l)) p r = false) :
    Calls Tryz.prog 60 #[rval t P g cap, m, .int .i64 r] w fun e w' => ∃ g' cap', e = .returned (.tuple #[rval t P g' cap', .bool false]) ∧ RB w' D g' cap' p ∧ (g' = g ∨ w.heap.size ≤ g') ∧ Ch [] w w' := by
  have H := Lib.hid h
  have HR := Lib.hid hr
  have HL := Lib.hid hl
  obtain ⟨a, mc, rfl⟩ := hr.form
  obtain ⟨n, hn⟩ : ∃ n, n = l.length := ⟨_, rfl⟩
  rw [← hn] at HR ⊢
  by_cases hr0 : r < 0
  · clear h hr hl hn hb
    go_enter Tryz.func60, Tryz.ntmps60
    go_wp2_with fail
    refine bodyPost_ret (v := .tuple #[rval t P g cap, .bool false]) ?_ rfl ?_
    · simp [results, Tryz.f60, go_sem]
    · exact ⟨g, cap, rfl, H.out.quiet (((Ch.refl [] w).alloc _).alloc _), .inl rfl, ((Ch.refl [] w).alloc _).alloc _⟩
  · by_cases hr1 : r < 64
    · obtain ⟨k, rfl⟩ : ∃ k : Nat, r = (k : Int) := ⟨r.toNat, by omega⟩
      have hk : k < 64 := by omega
      have hk63 : decide ((k : Int) > 63) = false := decide_eq_false (by omega)
      have hk63' : k ≤ 63 := by omega
      have hal : Ch [] w ((w.alloc (.cells #[.int .i64 t, .int .i64 (P : Int), .slice (some ⟨g, 0, none⟩) 64 cap] 34)).alloc (.cells #[.int .i64 0, .int .i64 0, .slice none 0 0] 34)) := ((Ch.refl [] w).alloc _).alloc _
      have c0 := (h.quiet hal).at hk
      unfold lookB at hb
      rw [decide_eq_true (show 0 ≤ (k : Int) ∧ (k : Int) < 64 by omega), Bool.true_and, Int.toNat_natCast] at hb
      cases hp : p k with
      | false =>
        rw [hp] at c0
        clear h hr hl hn hb hal hp hr0 hr1
        go_enter Tryz.func60, Tryz.ntmps60
        go_wp2_with fail
        refine bodyPost_ret (v := .tuple #[rval t P g cap, .bool false]) ?_ rfl ?_
        · simp [results, Tryz.f60, go_sem]
        · exact ⟨g, cap, rfl, H.out.quiet (((Ch.refl [] w).alloc _).alloc _), .inl rfl, ((Ch.refl [] w).alloc _).alloc _⟩
      | true =>
        rw [hp] at c0 hb
        rw [Bool.true_and] at hb
        have C1 := Lib.hid (rended_any (g := g) (cap := cap) (HR.out.quiet hal) HL.out t P (k : Int) hb)
        have T1 := Lib.hid ((Tri.new w (.int .i64 t) (.int .i64 (P : Int)) (.slice (some ⟨g, 0, none⟩) 64 cap) 34).quiet ((Ch.refl [] _).alloc (.cells #[.int .i64 0, .int .i64 0, .slice none 0 0] 34)))
        have T2 := Tri.new (w.alloc (.cells #[.int .i64 t, .int .i64 (P : Int), .slice (some ⟨g, 0, none⟩) 64 cap] 34)) (.int .i64 0) (.int .i64 0) (.slice none 0 0) 34
        rw [World.size_alloc] at T2
        have T2 := Lib.hid T2
        have HC := Lib.hid hal
        clear h hr hl hn hb hp hr0 hr1 hal
        go_enter Tryz.func60, Tryz.ntmps60
        go_wp2_with fail
        with_reducible refine C1.out.mono ?_
        rintro e w2 ⟨rfl, hc⟩
        have HC2 := Lib.hid (HC.out.trans hc)
        have t1 := T1.out.quiet hc
        have t2 := T2.out.quiet hc
        have T3 := Lib.hid (t2.set (.int .i64 t) (.int .i64 (P : Int)) (.slice (some ⟨g, 0, none⟩) 64 cap))
        have HC3 := Lib.hid (ch_set3 HC2.out (show w.heap.size ≤ w.heap.size + 1 by omega) (.int .i64 t) (.int .i64 (P : Int)) (.slice (some ⟨g, 0, none⟩) 64 cap))
        obtain ⟨a0, a1, a2, -⟩ := t1
        obtain ⟨b0, b1, b2, bf⟩ := t2
        have f0 := bf 0
        have f1 := bf 1
        have f2 := bf 2
        clear hc C1 T1 T2 HC bf
        go_wp2_with fail
        refine bodyPost_ret (v := .tuple #[rval t P g cap, .bool false]) ?_ rfl ?_
        · have k0 := T3.out.c0
          have k1 := T3.out.c1
          have k2 := T3.out.c2
          simp [results, Tryz.f60, go_sem, k0, k1, k2]
        · exact ⟨g, cap, rfl, H.out.quiet HC3.out, .inl rfl, HC3.out⟩
    · have hk63 : decide (r > 63) = true := decide_eq_true (by omega)
      clear h hr hl hn hb hr1
      go_enter Tryz.func60, Tryz.ntmps60
      go_wp2_with fail
      refine bodyPost_ret (v := .tuple #[rval t P g cap, .bool false]) ?_ rfl ?_
      · simp [results, Tryz.f60, go_sem]
      · exact ⟨g, cap, rfl, H.out.quiet (((Ch.refl [] w).alloc _).alloc _), .inl rfl, ((Ch.refl [] w).alloc _).alloc _⟩

set_option maxRecDepth 100000 in
set_option maxHeartbeats 2000000 in
theorem rlook_yes {w : World} {D g cap : Nat} {p : Nat → Bool} (h : RB w D g cap p) {m : Value} {l : List (Nat × Bool)} (hr : RD w D m l) (hl : l.length ≤ 900) (hD : D ≤ w.heap.size) (t : Int) (P : Nat) {r : Int} (hb : lookB (endF t (runS l)) p r = true) :
    Calls Tryz.prog 60 #[rval t P g cap, m, .int .i64 r] w fun e w' => ∃ g' cap', e = .returned (.tuple #[rval t P g' cap', .bool true]) ∧ RB w' D g' cap' (rmv p r) ∧ (g' = g ∨ w.heap.size ≤ g') ∧ Ch [] w w' := by
  obtain ⟨i0, hI, hz0, hz1, hz2⟩ := info_parts infoB
  have H := Lib.hid h
  have HR := Lib.hid hr
  have HL := Lib.hid hl
  have HD := Lib.hid hD
  obtain ⟨a, mc, rfl⟩ := hr.form
  obtain ⟨n, hn⟩ : ∃ n, n = l.length := ⟨_, rfl⟩
  rw [← hn] at HR ⊢
  unfold lookB at hb
  simp only [Bool.and_eq_true, decide_eq_true_eq] at hb
  obtain ⟨⟨hr0, hr1⟩, hp, he⟩ := hb
  obtain ⟨k, rfl⟩ : ∃ k : Nat, r = (k : Int) := ⟨r.toNat, by omega⟩
  rw [Int.toNat_natCast] at hp
  have hk : k < 64 := by omega
  have hk63 : decide ((k : Int) > 63) = false := decide_eq_false (by omega)
  have hk63' : k ≤ 63 := by omega
  have hal : Ch [] w ((w.alloc (.cells #[.int .i64 t, .int .i64 (P : Int), .slice (some ⟨g, 0, none⟩) 64 cap] 34)).alloc (.cells #[.int .i64 0, .int .i64 0, .slice none 0 0] 34)) := ((Ch.refl [] w).alloc _).alloc _
  have c0 := (h.quiet hal).at hk
  rw [hp] at c0
  have C1 := Lib.hid (rended_any (g := g) (cap := cap) (HR.out.quiet hal) HL.out t P (k : Int) he)
  have T1 := Lib.hid ((Tri.new w (.int .i64 t) (.int .i64 (P : Int)) (.slice (some ⟨g, 0, none⟩) 64 cap) 34).quiet ((Ch.refl [] _).alloc (.cells #[.int .i64 0, .int .i64 0, .slice none 0 0] 34)))
  have T2 := Tri.new (w.alloc (.cells #[.int .i64 t, .int .i64 (P : Int), .slice (some ⟨g, 0, none⟩) 64 cap] 34)) (.int .i64 0) (.int .i64 0) (.slice none 0 0) 34
  rw [World.size_alloc] at T2
  replace T2 := Lib.hid T2
  have HC := Lib.hid hal
  clear h hr hl hn hp he hr0 hr1 hal hD
  go_enter Tryz.func60, Tryz.ntmps60
  go_wp2_with fail
  with_reducible refine C1.out.mono ?_
  rintro e w2 ⟨rfl, hc⟩
  have HC2 := Lib.hid (HC.out.trans hc)
  have T1 := Lib.hid (T1.out.quiet hc)
  have T2 := Lib.hid (T2.out.quiet hc)
  have a2 := (T1.out.quiet ((Ch.refl [] w2).alloc (.cells #[] 4))).c2
  have HB2 := Lib.hid (H.out.quiet HC2.out)
  have HX := Lib.hid (show w.heap.size + 1 < w2.heap.size from T2.out.lt)
  clear hc C1 HC
  go_wp2_with (at_builtin; go_must (refine wpList_append_row rfl _ _ 32 rfl w2.heap.size 4 i0 (.bool false) 1 1 Tryz.underlying32 hI hz0 hz1 hz2 rfl (by decide) (.slice (some ⟨w2.heap.size, 0, none⟩) 0 0) 0 [] rfl ?c0 ?c1 D (.slice (some ⟨g, 0, none⟩) 64 cap) 64 (bls p 64) rfl ?c2 (bls_one p 64) ?c3 ?c4 ?c5 ?_))
  case c0 => exact World.ownsRow_lit w2 #[] 0 (Nat.le_refl _) (Nat.zero_le _) rfl
  case c1 => intro e; cases e
  case c2 => exact World.ownsRow.alloc HB2.out.row _
  case c3 => unfold maxLen; decide
  case c4 => decide
  case c5 => simp
  intro v1 w3 hown1 hgrow1 hne1
  have hc1 : Ch [] w2 w3 := ((Ch.refl [] w2).alloc (.cells #[] 4)).kept hgrow1 (fun r e => by simp [Value.ownBlock] at e; omega)
  obtain ⟨g1, cp1, rfl⟩ := own_some hown1 hne1
  have hown2 : w3.ownsRow w2.heap.size 4 1 (.slice (some ⟨g1, 0, none⟩) 64 cp1) 64 (bls p 64) := by simpa using hown1
  obtain ⟨g1', eg, hg1, hg2, hgf, hgc⟩ := own_cells hown2 k (by omega)
  cases eg
  have d0 := hgc k (by omega)
  rw [bls_at _ hk] at d0
  have df := hgf k
  have HO := own_set hown2 k (.bool false) (by omega)
  rw [bls_set _ hk] at HO
  have HO := Lib.hid HO
  have T1 := Lib.hid (T1.out.quiet hc1)
  have T2 := Lib.hid (T2.out.quiet hc1)
  have HC3 := Lib.hid (HC2.out.trans hc1)
  have HG := Lib.hid (show D ≤ w2.heap.size ∧ w.heap.size + 1 < g1 ∧ w.heap.size ≤ g1 by have := HC2.out.size; have := HD.out; have := HX.out; omega)
  clear hown1 hgrow1 hne1 hc1 hown2 hgf hgc hg1 hg2 a2 HB2 HC2
  obtain ⟨w4, hw4⟩ : ∃ W, W = w3.setCell ⟨g1, k, none⟩ (.bool false) := ⟨_, rfl⟩
  have hc4 : Ch [g1] w3 w4 := by rw [hw4]; exact (Ch.refl [g1] w3).setCell (by simp) _
  have hne : w.heap.size + 1 ≠ g1 ∧ w.heap.size ≠ g1 := by have := HG.out.2.1; omega
  have t1 := T1.out.ch hc4 (by simpa using hne.2)
  have t2 := T2.out.ch hc4 (by simpa using hne.1)
  have T3 := Lib.hid (t2.set (.int .i64 t) (.int .i64 (P : Int)) (.slice (some ⟨g1, 0, none⟩) 64 cp1))
  have hcc : Ch [] w w4 := HC3.out.fresh hc4 (by simpa using HG.out.2.2)
  have HC4 := Lib.hid (ch_set3 hcc (show w.heap.size ≤ w.heap.size + 1 by omega) (.int .i64 t) (.int .i64 (P : Int)) (.slice (some ⟨g1, 0, none⟩) 64 cp1))
  have HCr := Lib.hid (show Ch [w.heap.size + 1] w4 (((w4.setCell ⟨w.heap.size + 1, 0, none⟩ (.int .i64 t)).setCell ⟨w.heap.size + 1, 1, none⟩ (.int .i64 (P : Int))).setCell ⟨w.heap.size + 1, 2, none⟩ (.slice (some ⟨g1, 0, none⟩) 64 cp1)) from ((((Ch.refl _ w4).setCell (by simp) _).setCell (by simp) _).setCell (by simp) _))
  obtain ⟨a0, a1, a2, -⟩ := t1
  obtain ⟨b0, b1, b2, bf⟩ := t2
  have f0 := bf 0
  have f1 := bf 1
  have f2 := bf 2
  rw [← hw4] at HO
  rw [hw4] at a0 a1 a2 b0 b1 b2 f0 f1 f2
  clear bf hc4 T1 T2 HC3 hcc hne
  go_wp2_with fail
  rw [← hw4]
  refine bodyPost_ret (v := .tuple #[rval t P g1 cp1, .bool true]) ?_ rfl ?_
  · have k0 := T3.out.c0
    have k1 := T3.out.c1
    have k2 := T3.out.c2
    simp [results, Tryz.f60, go_sem, k0, k1, k2]
  · exact ⟨g1, cp1, rfl, (RB.mk (own_mono HO.out (by have := HG.out.1; omega))).away HCr.out (by have := HG.out.2.1; simp; omega), .inr HG.out.2.2, HC4.out⟩
theorem rlook_any {w : World} {D g cap : Nat} {p : Nat → Bool} (h : RB w D g cap p) {m : Value} {l : List (Nat × Bool)} (hr : RD w D m l) (hl : l.length ≤ 900) (hD : D ≤ w.heap.size) (t : Int) (P : Nat) (r : Int) {b : Bool} (hb : lookB (endF t (runS l)) p r = b) :
    Calls Tryz.prog 60 #[rval t P g cap, m, .int .i64 r] w fun e w' => ∃ g' cap', e = .returned (.tuple #[rval t P g' cap', .bool b]) ∧ RB w' D g' cap' (if b = true then rmv p r else p) ∧ (g' = g ∨ w.heap.size ≤ g') ∧ Ch [] w w' := by
  cases b
  · exact rlook_no h hr hl t P hb
  · exact rlook_yes h hr hl hD t P hb
end Go.Proofs.YtjoaigadlpndcaaGreatDoor
