/-
  SectPlays: whoever enters and leaves.
-/
import Derived.Test.YticdlknlihogcaaSeT
import Derived.Test.YticdlknlihogcaaSeMany
import Derived.Test.YticdlknlihogcaaSeNests
namespace Go.Proofs.Yticdlknlihogcaa
open Go.RowKit

set_option maxRecDepth 100000 in
set_option maxHeartbeats 4000000 in
theorem plays_law (a : Option Addr) (len cap : Nat) (t : Int) (w : World) (_ : len ≤ 9223372036854775807) (ha : ActsAt w a len) :
    Calls Try.prog 3 #[.slice a len cap, .int .i64 t] w fun e w' => e = .returned (.bool true) ∧ Below w.heap.size w w' := by
  have HAc := Lib.hid ha
  have hz := secZ_zero w
  have H0 := Lib.hid (SL.new w (Ch.refl [] w) 25)
  clear ha
  go_enter Try.func3, Try.ntmps3
  go_wp2_with fail
  obtain ⟨b, hb⟩ : ∃ b, b = w.heap.size := ⟨_, rfl⟩
  obtain ⟨w1, hw1⟩ : ∃ W, W = w.alloc (.cells secZ 25) := ⟨_, rfl⟩
  rw [← hw1, ← hb] at H0 ⊢
  clear hz hw1 hb
  go_loopw [6, 7] (fun m i wr => ∃ (k : Nat) (ds : List (Nat × Bool)), k ≤ 40 ∧ i = .int .i64 (k : Int) ∧ RD wr (b + 1) m ds ∧ ds.length ≤ k ∧ SL w wr b (runS ds)) (fun _ i _ => 40 - (intOf i).toNat)
  case atStart => exact ⟨0, [], by decide, rfl, RD.nil _ _, by simp, H0.out⟩
  case round =>
    rename_i m _
    obtain ⟨k, ds, hk, rfl, hrd, hdl, hl⟩ := hrel
    clear H0
    by_cases hgo : k < len ∧ k < 40
    · obtain ⟨hlt, hlt4⟩ := hgo
      rcases HAc.out.ch hl.ch with h0 | ⟨g, off, rfl, hcc⟩
      · exfalso; omega
      · obtain ⟨R, O, q0, q1⟩ := hcc k hlt
        have hlt' : (k : Int) < (len : Int) := by omega
        have hxn : (runS ds).n ≤ 100000 := by have := (near_run ds).n1; omega
        cases O with
        | false =>
          have C1 := Lib.hid (renter_any hrd (by omega) hl.s.lt R)
          obtain ⟨ds2, hds2⟩ : ∃ d, d = deedsIn ds R := ⟨_, rfl⟩
          have hds : enterS (runS ds) R = runS ds2 := by rw [hds2, runS_in]
          have hl2 : ds2.length ≤ ds.length + 1 := by rw [hds2]; exact deedsIn_len ds R
          rw [← hds2] at C1
          obtain ⟨p, cp, rfl⟩ := hrd.form
          have HL := Lib.hid hl
          have HXn := Lib.hid hxn
          generalize ds.length = dl0 at *
          clear hrd hl hds2 hcc hxn
          go_wp2_with fail
          with_reducible refine C1.out.mono ?_
          rintro e w2 ⟨m2, rfl, hr2, hc2⟩
          obtain ⟨p2, cp2, rfl⟩ := hr2.form
          have C1 := Lib.hid ((HL.out.quiet hc2).enter R HXn.out (e := enterE (runS ds) R) rfl 3)
          have HR2 := Lib.hid hr2
          generalize enterE (runS ds) R = ee at *
          clear hc2 hr2 HL HXn
          go_wp2_with fail
          with_reducible refine C1.out.mono ?_
          rintro e w3 ⟨rfl, h3, hc3⟩
          have hr2 := HR2.out
          rw [hds] at h3
          obtain ⟨y, hy⟩ : ∃ y, y = runS ds2 := ⟨_, rfl⟩
          rw [← hy] at h3
          replace hds := hy
          clear hy HR2
          have H3 := Lib.hid h3
          have HR3 := Lib.hid (hr2.aside hc3 (Nat.lt_succ_self b))
          have HX := Lib.hid hds
          obtain ⟨dl, hdl2⟩ : ∃ d, d = ds2.length := ⟨_, rfl⟩
          have HDL := Lib.hid (show ds2.length ≤ 900 by omega)
          have HDL2 := Lib.hid (show ds2.length ≤ k + 1 by omega)
          rw [← hdl2] at HR3 ⊢
          have C3 := Lib.hid (rstamps_any HR3.out (by have := HDL.out; omega) R)
          rw [← HX.out] at C3
          clear h3 hr2 hc3 C1 hds hdl2 hl2
          go_wp2_with fail
          with_reducible refine C3.out.mono ?_
          rintro e w4 ⟨rfl, hc4⟩
          have HR4 := Lib.hid (HR3.out.quiet hc4)
          have H4 := Lib.hid (H3.out.quiet hc4)
          have D1 := Lib.hid (H4.out.stamp rfl)
          have D2 := Lib.hid (H4.out.depth R rfl)
          have D3 := Lib.hid (rdepth_any HR4.out (by have := HDL.out; omega) R)
          have D4 := Lib.hid (H4.out.since R rfl)
          rw [← HX.out] at D3
          clear hc4 C3 H3 HR3
          generalize dOf y R = dv at *
          generalize sOf y R = sv at *
          generalize y.n = nv at *
          go_wp2_with fail
          with_reducible refine D1.out.mono ?_
          rintro e w' ⟨rfl, rfl⟩
          go_wp2_with fail
          with_reducible refine D2.out.mono ?_
          rintro e w' ⟨rfl, rfl⟩
          go_wp2_with fail
          with_reducible refine D3.out.mono ?_
          rintro e w' ⟨rfl, rfl⟩
          go_wp2_with fail
          with_reducible refine D4.out.mono ?_
          rintro e w' ⟨rfl, rfl⟩
          go_wp2_with fail
          go_roundw
          case rel => exact ⟨k + 1, ds2, by omega, by go_num, HR4.out, HDL2.out, by rw [← HX.out]; exact H4.out⟩
          case measure => simp [intOf]; omega
        | true =>
          have C1 := Lib.hid (rexit_any hrd (by omega) hl.s.lt R)
          obtain ⟨ds2, hds2⟩ : ∃ d, d = deedsOut ds R := ⟨_, rfl⟩
          have hds : exitS (runS ds) R = runS ds2 := by rw [hds2, runS_out]
          have hl2 : ds2.length ≤ ds.length + 1 := by rw [hds2]; exact deedsOut_len ds R
          rw [← hds2] at C1
          obtain ⟨p, cp, rfl⟩ := hrd.form
          have HL := Lib.hid hl
          generalize ds.length = dl0 at *
          clear hrd hl hds2 hcc hxn
          go_wp2_with fail
          with_reducible refine C1.out.mono ?_
          rintro e w2 ⟨m2, rfl, hr2, hc2⟩
          obtain ⟨p2, cp2, rfl⟩ := hr2.form
          have C1 := Lib.hid ((HL.out.quiet hc2).exit R (u := exitB (runS ds) R) (e := exitE (runS ds) R) rfl rfl)
          have HR2 := Lib.hid hr2
          generalize exitE (runS ds) R = ee at *
          generalize exitB (runS ds) R = eb at *
          clear hc2 hr2 HL
          go_wp2_with fail
          with_reducible refine C1.out.mono ?_
          rintro e w3 ⟨rfl, h3, hc3⟩
          have hr2 := HR2.out
          rw [hds] at h3
          obtain ⟨y, hy⟩ : ∃ y, y = runS ds2 := ⟨_, rfl⟩
          rw [← hy] at h3
          replace hds := hy
          clear hy HR2
          have H3 := Lib.hid h3
          have HR3 := Lib.hid (hr2.aside hc3 (Nat.lt_succ_self b))
          have HX := Lib.hid hds
          obtain ⟨dl, hdl2⟩ : ∃ d, d = ds2.length := ⟨_, rfl⟩
          have HDL := Lib.hid (show ds2.length ≤ 900 by omega)
          have HDL2 := Lib.hid (show ds2.length ≤ k + 1 by omega)
          rw [← hdl2] at HR3 ⊢
          have C3 := Lib.hid (rstamps_any HR3.out (by have := HDL.out; omega) R)
          rw [← HX.out] at C3
          clear h3 hr2 hc3 C1 hds hdl2 hl2
          go_wp2_with fail
          with_reducible refine C3.out.mono ?_
          rintro e w4 ⟨rfl, hc4⟩
          have HR4 := Lib.hid (HR3.out.quiet hc4)
          have H4 := Lib.hid (H3.out.quiet hc4)
          have D1 := Lib.hid (H4.out.stamp rfl)
          have D2 := Lib.hid (H4.out.depth R rfl)
          have D3 := Lib.hid (rdepth_any HR4.out (by have := HDL.out; omega) R)
          have D4 := Lib.hid (H4.out.since R rfl)
          rw [← HX.out] at D3
          clear hc4 C3 H3 HR3
          generalize dOf y R = dv at *
          generalize sOf y R = sv at *
          generalize y.n = nv at *
          go_wp2_with fail
          with_reducible refine D1.out.mono ?_
          rintro e w' ⟨rfl, rfl⟩
          go_wp2_with fail
          with_reducible refine D2.out.mono ?_
          rintro e w' ⟨rfl, rfl⟩
          go_wp2_with fail
          with_reducible refine D3.out.mono ?_
          rintro e w' ⟨rfl, rfl⟩
          go_wp2_with fail
          with_reducible refine D4.out.mono ?_
          rintro e w' ⟨rfl, rfl⟩
          go_wp2_with fail
          go_roundw
          case rel => exact ⟨k + 1, ds2, by omega, by go_num, HR4.out, HDL2.out, by rw [← HX.out]; exact H4.out⟩
          case measure => simp [intOf]; omega
    · have hcond : ((k : Int) < (len : Int) ∧ ¬ (k : Int) < 40) ∨ ¬ (k : Int) < (len : Int) := by
        by_cases hkn : (k : Int) < (len : Int)
        · exact .inl ⟨hkn, by omega⟩
        · exact .inr hkn
      obtain ⟨p, cp, rfl⟩ := hrd.form
      have HR0 := Lib.hid hrd
      have HL0 := Lib.hid hl
      have HD := Lib.hid (show ds.length ≤ 900 by omega)
      obtain ⟨dl, hdl2⟩ : ∃ d, d = ds.length := ⟨_, rfl⟩
      rw [← hdl2] at HR0 ⊢
      have HRI := Lib.hid (refP_in hl.g)
      by_cases h0 : 0 ≤ t
      · have C1 := Lib.hid (hl.open t rfl)
        have HEq := Lib.hid (refP_open hl.g h0)
        have hge : decide (t ≥ 0) = true := decide_eq_true h0
        have hlt0 : decide (t < 0) = false := decide_eq_false (by omega)
        clear hgo hrd hdl hl hk hdl2 h0
        rcases hcond with ⟨hc1, hc2⟩ | hc1
        all_goals
          go_wp2_with fail
          with_reducible refine C1.out.mono ?_
          rintro e w2 ⟨rfl, h2, hc2⟩
          have HR2 := Lib.hid (HR0.out.quiet hc2)
          have C3 := Lib.hid (rin_any HR2.out HD.out t)
          rw [HEq.out] at C3
          have HL1 := Lib.hid h2
          generalize mskN (openP (runS ds) t) = om at *
          clear h2 hc2 C1 HR0 HL0 HEq
          go_wp2_with fail
          with_reducible refine C3.out.mono ?_
          rintro e w3 ⟨rfl, hc3⟩
          have HL2 := Lib.hid (HL1.out.quiet hc3)
          have HR2 := Lib.hid (HR2.out.quiet hc3)
          clear hc3 C3 HL1
          go_wp2_with fail
          with_reducible refine (known_any _).mono ?_
          rintro e w6 ⟨rfl, hk6⟩
          have C4 := Lib.hid ((HL2.out.quiet hk6).in (m := mskN (inP (runS ds))) rfl)
          have HR6 := Lib.hid (HR2.out.quiet hk6)
          clear hk6 HL2 HR2
          go_wp2_with fail
          with_reducible refine C4.out.mono ?_
          rintro e w7 ⟨rfl, h7, hc7⟩
          have C5 := Lib.hid (rin_any (HR6.out.quiet hc7) HD.out (-1))
          rw [HRI.out] at C5
          have H7 := Lib.hid h7
          clear h7 hc7 C4 HR6 HRI
          go_wp2_with fail
          with_reducible refine C5.out.mono ?_
          rintro e w8 ⟨rfl, hc8⟩
          go_wp2_with fail
          go_ret
          exact ⟨rfl, (H7.out.ch.trans hc8).below _ (by simp) (Nat.le_refl _)⟩
      · have C1 := Lib.hid (hl.open t (open_neg hl.g (by omega)))
        have hge : decide (t ≥ 0) = false := decide_eq_false h0
        have hlt0 : decide (t < 0) = true := decide_eq_true (by omega)
        clear hgo hrd hdl hl hk hdl2 h0
        rcases hcond with ⟨hc1, hc2⟩ | hc1
        all_goals
          go_wp2_with fail
          with_reducible refine C1.out.mono ?_
          rintro e w2 ⟨rfl, h2, hc2⟩
          have HL2 := Lib.hid h2
          have HR2 := Lib.hid (HR0.out.quiet hc2)
          clear h2 hc2 C1 HR0 HL0
          go_wp2_with fail
          with_reducible refine (known_any _).mono ?_
          rintro e w6 ⟨rfl, hk6⟩
          have C4 := Lib.hid ((HL2.out.quiet hk6).in (m := mskN (inP (runS ds))) rfl)
          have HR6 := Lib.hid (HR2.out.quiet hk6)
          clear hk6 HL2 HR2
          go_wp2_with fail
          with_reducible refine C4.out.mono ?_
          rintro e w7 ⟨rfl, h7, hc7⟩
          have C5 := Lib.hid (rin_any (HR6.out.quiet hc7) HD.out (-1))
          rw [HRI.out] at C5
          have H7 := Lib.hid h7
          clear h7 hc7 C4 HR6 HRI
          go_wp2_with fail
          with_reducible refine C5.out.mono ?_
          rintro e w8 ⟨rfl, hc8⟩
          go_wp2_with fail
          go_ret
          exact ⟨rfl, (H7.out.ch.trans hc8).below _ (by simp) (Nat.le_refl _)⟩
end Go.Proofs.Yticdlknlihogcaa
