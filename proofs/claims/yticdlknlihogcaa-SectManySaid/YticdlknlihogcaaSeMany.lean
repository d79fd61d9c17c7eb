/-
  SectMany: several that enter at once.
-/
import Derived.Test.YticdlknlihogcaaSeV
namespace Go.Proofs.Yticdlknlihogcaa
open Go.RowKit

theorem intsAt_take {w : World} {a : Option Addr} {zs : List Int} (h : Mk.IntsAt w a zs) (k : Nat) : Mk.IntsAt w a (zs.take k) := by
  rcases h with rfl | ⟨b, off, rfl, hc⟩
  · exact .inl (by simp)
  · refine .inr ⟨b, off, rfl, fun i hi => ?_⟩
    rw [List.length_take] at hi
    rw [hc i (by omega), List.getElem?_take_of_lt (by omega)]
theorem intsAt_lt {w : World} {a : Option Addr} {zs : List Int} (h : Mk.IntsAt w a zs) {b : Nat} (hb : w.heap.size ≤ b) : zs = [] ∨ ∀ y, a = some y → y.block ≠ b := by
  by_cases h0 : zs = []
  · exact .inl h0
  · refine .inr fun y hy => ?_
    rcases h with h | ⟨g, off, e, hc⟩
    · exact absurd h h0
    · rw [e] at hy
      cases hy
      have := cell_lt (hc 0 (List.length_pos_iff.2 h0))
      simp only at this ⊢
      omega

set_option maxHeartbeats 2000000 in
theorem many_law (a : Option Addr) (len cap : Nat) (zs0 : List Int) (w : World) (hn : len = zs0.length) (hlc : len ≤ cap) (_ : cap ≤ 9223372036854775807) (hz : Mk.IntsAt w a zs0) :
    Calls Try.prog 6 #[.slice a len cap] w fun e w' => e = .returned (.bool true) ∧ Below w.heap.size w w' := by
  obtain ⟨n, hmin, hnn, hn80⟩ : ∃ n : Nat, (if (80 : Int) < (len : Int) then (80 : Int) else (len : Int)) = (n : Int) ∧ n ≤ len ∧ n ≤ 80 := by
    by_cases h : (80 : Int) < (len : Int)
    · exact ⟨80, by rw [if_pos h]; rfl, by omega, by omega⟩
    · exact ⟨len, by rw [if_neg h], by omega, by omega⟩
  obtain ⟨zs, hzs⟩ : ∃ zs, zs = zs0.take n := ⟨_, rfl⟩
  have hzl : zs.length = n := by rw [hzs, List.length_take]; omega
  have HI := Lib.hid (show Mk.IntsAt w a zs from by rw [hzs]; exact intsAt_take hz n)
  have HZl := Lib.hid hzl
  have hlen : (n : Int) ≤ (cap : Int) := by omega
  have hneg : decide ((n : Int) < 0) = false := decide_eq_false (by omega)
  have hz := secZ_zero w
  have H0 := Lib.hid (SL.new w (Ch.refl [] w) 25)
  clear hzs hzl hn hnn
  go_enter Try.func6, Try.ntmps6
  go_wp2_with fail
  obtain ⟨b, hb⟩ : ∃ b, b = w.heap.size := ⟨_, rfl⟩
  obtain ⟨w1, hw1⟩ : ∃ W, W = w.alloc (.cells secZ 25) := ⟨_, rfl⟩
  rw [← hw1, ← hb] at H0 ⊢
  have HBw := Lib.hid (show w.heap.size ≤ b by omega)
  clear hz hw1 hb hmin hneg hlen
  go_loopw [4, 5, 6] (fun m e i wr => ∃ (k : Nat) (ds : List (Nat × Bool)) (err : Int), k ≤ n ∧ i = .int .i64 (k : Int) ∧ e = .int .i64 err ∧ RD wr (b + 1) m ds ∧ ds.length ≤ k ∧ SL w wr b SS.zero ∧ enterL SS.zero (zs.take k) = (err, runS ds)) (fun _ _ i _ => n - (intOf i).toNat)
  case atStart => exact ⟨0, [], 0, Nat.zero_le _, rfl, rfl, RD.nil _ _, by simp, H0.out, rfl⟩
  case round =>
    rename_i m _ _
    obtain ⟨k, ds, err, hk, rfl, rfl, hrd, hdl, hl, hel⟩ := hrel
    clear H0
    by_cases hgo : k < n ∧ err = 0
    · obtain ⟨hlt, rfl⟩ := hgo
      rcases intsAt_ch HI.out hl.ch (.inr (by simp)) with h0 | ⟨g, off, rfl, hcc⟩
      · exfalso; have := HZl.out; rw [h0] at this; simp at this; omega
      · have hcc := hcc k (by rw [HZl.out]; exact hlt)
        obtain ⟨z, hz⟩ : ∃ z, z = zs[k]?.getD 0 := ⟨_, rfl⟩
        rw [← hz] at hcc
        have ht : zs.take (k + 1) = zs.take k ++ [z] := by
          rw [List.take_succ_eq_append_getElem (by rw [HZl.out]; exact hlt), hz, List.getElem?_eq_getElem (by rw [HZl.out]; exact hlt)]
          rfl
        have hsn := enterL_snoc hel z
        rw [← ht, ← runS_in] at hsn
        have C1 := Lib.hid (renter_any hrd (by omega) hl.s.lt z)
        have hdl2 := deedsIn_len ds z
        obtain ⟨p, cp, rfl⟩ := hrd.form
        generalize ds.length = dl at *
        have HT := Lib.hid hsn
        have HL := Lib.hid hl
        have HD := Lib.hid (show (deedsIn ds z).length ≤ k + 1 by omega)
        clear hrd hdl hl hel hz ht hsn hdl2
        go_wp2_with fail
        with_reducible refine C1.out.mono ?_
        rintro e w2 ⟨m2, rfl, hrd2, hc2⟩
        have HR2 := Lib.hid hrd2
        have HL2 := Lib.hid (HL.out.quiet hc2)
        clear hrd2 hc2 C1
        go_wp2_with fail
        go_roundw
        case rel => exact ⟨k + 1, deedsIn ds z, _, by omega, by go_num, rfl, HR2.out, HD.out, HL2.out, HT.out⟩
        case measure => simp [intOf]; omega
    · have hfin : enterL SS.zero zs = (err, runS ds) := by
        by_cases hkn : k = n
        · rw [List.take_of_length_le (by rw [HZl.out]; omega)] at hel; exact hel
        · have := enterL_stop hel (fun h0 => hgo ⟨by omega, h0⟩) (zs.drop k)
          rwa [List.take_append_drop] at this
      have hcond : ((k : Int) < (n : Int) ∧ (err == 0) = false) ∨ ¬ (k : Int) < (n : Int) := by
        by_cases hkn : (k : Int) < (n : Int)
        · refine .inl ⟨hkn, ?_⟩
          have : err ≠ 0 := fun h0 => hgo ⟨by omega, h0⟩
          simpa using this
        · exact .inr hkn
      obtain ⟨p, cp, rfl⟩ := hrd.form
      have HF := Lib.hid hfin
      have HR := Lib.hid hrd
      have HL := Lib.hid hl
      have HD := Lib.hid (show ds.length ≤ 900 by omega)
      have hg := GS.zero.enters zs
      rw [hfin] at hg
      have HG := Lib.hid hg.1
      obtain ⟨dl, hdl2⟩ : ∃ d, d = ds.length := ⟨_, rfl⟩
      rw [← hdl2] at HR ⊢
      clear hgo hrd hdl hl hel hfin hg hk hdl2
      rcases hcond with ⟨hc1, hc2⟩ | hc1
      all_goals
        go_wp2_with fail
        with_reducible refine (known_any _).mono ?_
        rintro e w2 ⟨rfl, hk2⟩
        have HL2 := Lib.hid (HL.out.quiet hk2)
        have HR2 := Lib.hid (HR.out.quiet hk2)
        have C1 := Lib.hid (HL2.out.enterL (cap := cap) HZl.out (by show (0 : Int) + (n : Int) ≤ 1000000; omega) (intsAt_ch HI.out HL2.out.ch (.inr (by simp))) (intsAt_lt HI.out HBw.out) HF.out)
        clear hk2 HL HR
        go_wp2_with fail
        with_reducible refine C1.out.mono ?_
        rintro e w3 ⟨rfl, hl3, hc3⟩
        have C2 := Lib.hid (hl3.in (m := mskN (inP (runS ds))) rfl)
        have HR3 := Lib.hid (HR2.out.aside hc3 (Nat.lt_succ_self b))
        clear hl3 hc3 C1 HR2 HL2
        go_wp2_with fail
        with_reducible refine C2.out.mono ?_
        rintro e w4 ⟨rfl, hl4, hc4⟩
        have C3 := Lib.hid (rin_any (HR3.out.quiet hc4) HD.out (-1))
        rw [refP_in HG.out] at C3
        have HL4 := Lib.hid hl4
        generalize mskN (inP (runS ds)) = mm at *
        clear hl4 hc4 C2 HR3
        go_wp2_with fail
        with_reducible refine C3.out.mono ?_
        rintro e w5 ⟨rfl, hc5⟩
        go_wp2_with fail
        go_ret
        exact ⟨rfl, (HL4.out.ch.trans hc5).below _ (by simp) (Nat.le_refl _)⟩
end Go.Proofs.Yticdlknlihogcaa
