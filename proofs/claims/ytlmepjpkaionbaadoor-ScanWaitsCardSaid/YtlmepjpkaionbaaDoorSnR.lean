/-
  The document's answer for scans: its row of holdouts; Word, Count, Ended, Look.
-/
import Derived.Test.YtlmepjpkaionbaaDoorSnK
namespace Go.Proofs.YtlmepjpkaionbaaDoor
open Go.RowKit

theorem infoB : (Tryd.prog.info? 4).map (fun i => (i.zero, i.size, i.bytes)) = some (some (.bool false), 1, 1) := by kernel_rfl
/-- The cells of a row of Bools. -/
def bls (p : Nat → Bool) (k : Nat) : List Value := (List.range k).map fun i => .bool (p i)
theorem bls_len (p : Nat → Bool) (k : Nat) : (bls p k).length = k := by simp [bls]
theorem bls_at (p : Nat → Bool) {i k : Nat} (h : i < k) : (bls p k)[i]? = some (.bool (p i)) := by simp [bls, h]
theorem bls_succ (p : Nat → Bool) (k : Nat) : bls p (k + 1) = bls p k ++ [.bool (p k)] := by simp [bls, List.range_succ]
theorem bls_one (p : Nat → Bool) (k : Nat) : ∀ u ∈ bls p k, u.oneCell' = true := by
  intro u hu
  obtain ⟨i, _, rfl⟩ := List.mem_map.1 hu
  rfl
theorem bls_set (p : Nat → Bool) {r : Nat} (_ : r < 64) : (bls p 64).set r (.bool false) = bls (rmv p (r : Int)) 64 := by
  apply List.ext_getElem?
  intro i
  by_cases hi : i < 64
  · rw [bls_at _ hi]
    by_cases e : r = i
    · subst e
      rw [List.getElem?_set_self (by rw [bls_len]; exact hi)]
      simp [rmv]
    · rw [List.getElem?_set_ne e, bls_at _ hi]
      have e2 : ¬ (i : Int) = (r : Int) := by omega
      simp [rmv, e2]
  · rw [List.getElem?_eq_none (by rw [List.length_set, bls_len]; omega), List.getElem?_eq_none (by rw [bls_len]; omega)]
theorem bls_congr {p q : Nat → Bool} {k : Nat} (h : ∀ i, i < k → p i = q i) : bls p k = bls q k := by
  unfold bls
  exact List.map_congr_left fun i hi => by rw [h i (List.mem_range.1 hi)]

/-- Holdouts in a row of 64 Bools that lies behind D. -/
structure RB (w : World) (D g cap : Nat) (p : Nat → Bool) : Prop where
  row : w.ownsRow D 4 1 (.slice (some ⟨g, 0, none⟩) 64 cap) 64 (bls p 64)
section
variable {w w' : World} {D g cap : Nat} {p : Nat → Bool}
theorem RB.at (h : RB w D g cap p) {i : Nat} (hi : i < 64) : w.cell? ⟨g, i, none⟩ = some (.bool (p i)) := by
  obtain ⟨g', e, _, _, _, hc⟩ := own_cells h.row i (by omega)
  cases e
  rw [hc i (by omega), bls_at _ hi]
theorem RB.lo (h : RB w D g cap p) : D ≤ g ∧ g < w.heap.size := by
  obtain ⟨g', e, h1, h2, _⟩ := own_cells h.row 0 (by decide)
  cases e
  exact ⟨h1, h2⟩
theorem RB.away {S : List Nat} (h : RB w D g cap p) (hc : Ch S w w') (hS : g ∉ S) : RB w' D g cap p := by
  obtain ⟨h1, h2⟩ := h.row
  refine ⟨h1, ?_⟩
  rcases h2 with ⟨h2, _⟩ | ⟨g', cap', cur, e, hb, hg, r⟩
  · cases h2
  · cases e
    exact .inr ⟨g, cap, cur, rfl, hb, (hc.block g (Array.getElem?_eq_some_iff.1 hg).1 hS).trans hg, r⟩
theorem RB.quiet (h : RB w D g cap p) (hc : Ch [] w w') : RB w' D g cap p := h.away hc (by simp)
theorem RB.mono {D' : Nat} (h : RB w D g cap p) (hD : D' ≤ D) : RB w D' g cap p := ⟨own_mono h.row hD⟩
end
/-- The answer's scan, as a value. -/
abbrev rval (t : Int) (P g cap : Nat) : Value := .agg #[.int .i64 t, .int .i64 (P : Int), .slice (some ⟨g, 0, none⟩) 64 cap]
theorem cells_three (w : World) (x y z : Value) (t : TypeId) : (w.alloc (.cells #[x, y, z] t)).cell? ⟨w.heap.size, 0, none⟩ = some x ∧ (w.alloc (.cells #[x, y, z] t)).cell? ⟨w.heap.size, 1, none⟩ = some y ∧ (w.alloc (.cells #[x, y, z] t)).cell? ⟨w.heap.size, 2, none⟩ = some z :=
  ⟨by rw [World.cell?_alloc_at _ _ _ _ rfl]; rfl, by rw [World.cell?_alloc_at _ _ _ _ rfl]; rfl, by rw [World.cell?_alloc_at _ _ _ _ rfl]; rfl⟩

set_option maxHeartbeats 1000000 in
theorem rcount_any {w : World} {D g cap : Nat} {p : Nat → Bool} (h : RB w D g cap p) (t : Int) (P : Nat) {v : Nat} (hv : cntN p 64 = v) :
    Calls Tryd.prog 15 #[rval t P g cap] w fun e w' => e = .returned (.int .i64 (v : Int)) ∧ Ch [] w w' := by
  subst hv
  have H := Lib.hid (h.quiet ((Ch.refl [] w).alloc (.cells #[.int .i64 t, .int .i64 (P : Int), .slice (some ⟨g, 0, none⟩) 64 cap] 36)))
  have HC := Lib.hid ((Ch.refl [] w).alloc (.cells #[.int .i64 t, .int .i64 (P : Int), .slice (some ⟨g, 0, none⟩) 64 cap] 36))
  have k3 := (cells_three w (.int .i64 t) (.int .i64 (P : Int)) (.slice (some ⟨g, 0, none⟩) 64 cap) 36).2.2
  clear h
  go_enter Tryd.func15, Tryd.ntmps15
  go_wp2_with fail
  obtain ⟨B, hB⟩ : ∃ B, B = w.heap.size := ⟨_, rfl⟩
  obtain ⟨w1, hw1⟩ : ∃ W, W = w.alloc (.cells #[.int .i64 t, .int .i64 (P : Int), .slice (some ⟨g, 0, none⟩) 64 cap] 36) := ⟨_, rfl⟩
  rw [← hw1] at H HC k3 ⊢
  rw [← hB] at k3 ⊢
  clear hB hw1
  go_loop [3, 4] (fun v i => ∃ k : Nat, k ≤ 64 ∧ i = .int .i64 (k : Int) ∧ v = .int .i64 ((cntN p k : Nat) : Int)) (fun _ i => 64 - (intOf i).toNat)
  case atStart => exact ⟨0, by decide, rfl, rfl⟩
  case round =>
    obtain ⟨k, hk, rfl, rfl⟩ := hrel
    by_cases hlt : k < 64
    · have c0 := H.out.at hlt
      have hlt' : (k : Int) < 64 := by omega
      have HS := Lib.hid (cntN_succ p k)
      have hle := cntN_le p k
      generalize cntN p k = v at *
      have hw1 : IntKind.i64.wrap ((v : Int) + 1) = (v : Int) + 1 := IntWalk.i64_in _ (by omega)
      cases hp : p k with
      | true =>
        rw [hp] at c0 HS
        clear hp
        go_wp2
        go_round
        case rel => exact ⟨k + 1, by omega, by go_num, by rw [HS.out]; rfl⟩
        case measure => simp [intOf]; omega
      | false =>
        rw [hp] at c0 HS
        clear hp
        go_wp2
        go_round
        case rel => exact ⟨k + 1, by omega, by go_num, by rw [HS.out]; rfl⟩
        case measure => simp [intOf]; omega
    · obtain rfl : k = 64 := by omega
      clear hlt
      go_wp2
      go_ret
      exact ⟨rfl, HC.out⟩

set_option maxHeartbeats 1000000 in
theorem rword_any {w : World} {D g cap : Nat} {p : Nat → Bool} (h : RB w D g cap p) (t : Int) (P : Nat) {m : Nat} (hm : mskN p = m) :
    Calls Tryd.prog 12 #[rval t P g cap] w fun e w' => e = .returned (.int .u64 (m : Int)) ∧ Ch [] w w' := by
  have HA := Lib.hid ((dwnN_all p).trans hm)
  have H := Lib.hid (h.quiet ((Ch.refl [] w).alloc (.cells #[.int .i64 t, .int .i64 (P : Int), .slice (some ⟨g, 0, none⟩) 64 cap] 36)))
  have HC := Lib.hid ((Ch.refl [] w).alloc (.cells #[.int .i64 t, .int .i64 (P : Int), .slice (some ⟨g, 0, none⟩) 64 cap] 36))
  have k3 := (cells_three w (.int .i64 t) (.int .i64 (P : Int)) (.slice (some ⟨g, 0, none⟩) 64 cap) 36).2.2
  clear h hm
  go_enter Tryd.func12, Tryd.ntmps12
  go_wp2_with fail
  obtain ⟨B, hB⟩ : ∃ B, B = w.heap.size := ⟨_, rfl⟩
  obtain ⟨w1, hw1⟩ : ∃ W, W = w.alloc (.cells #[.int .i64 t, .int .i64 (P : Int), .slice (some ⟨g, 0, none⟩) 64 cap] 36) := ⟨_, rfl⟩
  rw [← hw1] at H HC k3 ⊢
  rw [← hB] at k3 ⊢
  clear hB hw1
  go_loop [3, 4] (fun v i => ∃ j : Nat, j ≤ 64 ∧ i = .int .i64 (63 - (j : Int)) ∧ v = .int .u64 ((dwnN p j : Nat) : Int)) (fun _ i => (intOf i + 1).toNat)
  case atStart => exact ⟨0, by decide, rfl, rfl⟩
  case round =>
    obtain ⟨j, hj, rfl, rfl⟩ := hrel
    by_cases hlt : j < 64
    · obtain ⟨k, hk⟩ : ∃ k : Nat, k = 63 - j := ⟨_, rfl⟩
      have hki : (63 : Int) - (j : Int) = (k : Int) := by omega
      have hk64 : k < 64 := by omega
      have c0 := H.out.at hk64
      obtain ⟨M, hM⟩ : ∃ M, M = dwnN p j := ⟨_, rfl⟩
      have hww := u64_twice (M := M) (by rw [hM]; exact dwnN_lt _ j) hlt
      have hsucc : dwnN p (j + 1) = M * 2 + (if p k = true then 1 else 0) := by rw [hM, hk]; rfl
      obtain ⟨Q, hQ⟩ : ∃ Q, Q = M * 2 := ⟨_, rfl⟩
      rw [← hQ] at hww hsucc
      obtain ⟨hw1, hw2⟩ := hww
      obtain ⟨Q1, hQ1⟩ : ∃ Q1, Q1 = Q + 1 := ⟨_, rfl⟩
      rw [← hQ1] at hw2
      have HQ1 := Lib.hid hQ1
      rw [← hM]
      have HSu := Lib.hid hsucc
      have hk64' : (k : Int) < 64 := by omega
      have hge : decide ((k : Int) ≥ 0) = true := decide_eq_true (by omega)
      have hsub : IntKind.i64.wrap ((k : Int) - 1) = (k : Int) - 1 := IntWalk.i64_in _ (by omega)
      have hki2 : (63 : Int) - ((j + 1 : Nat) : Int) = (k : Int) - 1 := by omega
      have HK := Lib.hid hki2
      rw [hki]
      clear hsucc hki hki2 hM hk hQ hQ1
      cases hp : p k with
      | true =>
        rw [hp] at c0 HSu
        clear hp
        go_wp2
        go_round
        case rel => exact ⟨j + 1, by omega, by rw [HK.out], by rw [HSu.out, HQ1.out]; rfl⟩
        case measure => simp [intOf]
      | false =>
        rw [hp] at c0 HSu
        clear hp
        go_wp2
        go_round
        case rel => exact ⟨j + 1, by omega, by rw [HK.out], by rw [HSu.out]; rfl⟩
        case measure => simp [intOf]
    · obtain rfl : j = 64 := by omega
      clear hlt
      go_wp2
      go_ret
      exact ⟨by rw [← HA.out]; rfl, HC.out⟩

set_option maxHeartbeats 1000000 in
theorem rended_any {w : World} {D g cap : Nat} {m : Value} {l : List (Nat × Bool)} (hr : RD w D m l) (hl : l.length ≤ 900) (t : Int) (P : Nat) (r : Int) {b : Bool} (hb : endF t (runS l) r = b) :
    Calls Tryd.prog 36 #[rval t P g cap, m, .int .i64 r] w fun e w' => e = .returned (.bool b) ∧ Ch [] w w' := by
  have hal := (Ch.refl [] w).alloc (.cells #[.int .i64 t, .int .i64 (P : Int), .slice (some ⟨g, 0, none⟩) 64 cap] 36)
  have HS := Lib.hid (rstamps_any (hr.quiet hal) (by omega) r)
  have HC := Lib.hid hal
  have HB := Lib.hid hb
  obtain ⟨a, mc, rfl⟩ := hr.form
  unfold endF endB at HB
  generalize l.length = n at *
  generalize sOf (runS l) r = s at *
  generalize (runS l).n = q at *
  have k0 := (cells_three w (.int .i64 t) (.int .i64 (P : Int)) (.slice (some ⟨g, 0, none⟩) 64 cap) 36).1
  clear hr hal hb
  go_enter Tryd.func36, Tryd.ntmps36
  go_wp2_with fail
  obtain ⟨B, hB⟩ : ∃ B, B = w.heap.size := ⟨_, rfl⟩
  obtain ⟨w1, hw1⟩ : ∃ W, W = w.alloc (.cells #[.int .i64 t, .int .i64 (P : Int), .slice (some ⟨g, 0, none⟩) 64 cap] 36) := ⟨_, rfl⟩
  rw [← hw1] at HS HC k0 ⊢
  rw [← hB] at k0 ⊢
  clear hB hw1
  with_reducible refine HS.out.mono ?_
  rintro e w2 ⟨rfl, hc⟩
  have k1 := (hc.cell (p := ⟨B, 0, none⟩) (cell_lt k0) (by simp)).trans k0
  have HC2 := Lib.hid (HC.out.trans hc)
  clear hc k0 HS
  by_cases h0 : s = 0
  · subst h0
    go_wp2_with fail
    go_ret
    exact ⟨by rw [← HB.out]; rfl, HC2.out⟩
  · have h1 : (s == 0) = false := by simpa using h0
    rw [decide_eq_false h0, Bool.false_or] at HB
    clear h0
    go_wp2_with fail
    go_ret
    exact ⟨by rw [← HB.out]; rfl, HC2.out⟩
end Go.Proofs.YtlmepjpkaionbaaDoor
