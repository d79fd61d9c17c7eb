/-
  SectStays: a section stays open till its own reader ends it.
-/
import Derived.Test.YticdlknlihogcaaSeT
import Derived.Test.YticdlknlihogcaaSeMany
import Derived.Test.YticdlknlihogcaaSeNests
namespace Go.Proofs.Yticdlknlihogcaa
open Go.RowKit

theorem without_one {M : Nat} (hM : M < 18446744073709551616) (r : Int) (w : World) (t : TypeId) :
    Calls Try.prog 22 #[.int .u64 (M : Int), .slice (some ⟨w.heap.size, 0, none⟩) 1 1] (w.alloc (.cells #[.int .i64 r] t)) fun e w' => e = .returned (.int .u64 ((Mk.withoutN M [r] : Nat) : Int)) ∧ w.alloc (.cells #[.int .i64 r] t) = w' :=
  Mk.without_any M hM (some ⟨w.heap.size, 0, none⟩) 1 [r] _ (by simp) (intsAt_one (cell_new w _ _).1)

set_option maxHeartbeats 2000000 in
theorem stays_law (a : Option Addr) (len cap : Nat) (zs : List Int) (a1 : Option Addr) (len1 cap1 : Nat) (w : World) (hn : len = zs.length) (_ : len ≤ cap) (_ : cap ≤ 9223372036854775807) (hz : Mk.IntsAt w a zs) (_ : len1 ≤ 9223372036854775807) (ha1 : ActsAt w a1 len1) :
    Calls Try.prog 5 #[.slice a len cap, .slice a1 len1 cap1] w fun e w' => e = .returned (.bool true) ∧ Below w.heap.size w w' := by
  have HI := Lib.hid hz
  have HZl := Lib.hid hn
  have HAc := Lib.hid ha1
  have hz := secZ_zero w
  have H0 := Lib.hid (SL.new w (Ch.refl [] w) 25)
  clear hn ha1
  go_enter Try.func5, Try.ntmps5
  go_wp2_with fail
  obtain ⟨b, hb⟩ : ∃ b, b = w.heap.size := ⟨_, rfl⟩
  obtain ⟨w1, hw1⟩ : ∃ W, W = w.alloc (.cells secZ 25) := ⟨_, rfl⟩
  rw [← hw1, ← hb] at H0 ⊢
  clear hz hw1 hb
  go_loopw [6] (fun i wr => ∃ (k : Nat) (x : SS), k ≤ 40 ∧ i = .int .i64 (k : Int) ∧ SL w wr b x ∧ x.n ≤ (k : Int)) (fun i _ => 40 - (intOf i).toNat)
  case atStart => exact ⟨0, SS.zero, by decide, rfl, H0.out, by decide⟩
  case round =>
    obtain ⟨k, x, hk, rfl, hl, hxn⟩ := hrel
    clear H0
    by_cases hgo : k < len ∧ k < 40
    · obtain ⟨hlt, hlt4⟩ := hgo
      rcases intsAt_ch HI.out hl.ch (.inr (by simp)) with h0 | ⟨g, off, rfl, hcc⟩
      · exfalso; have := HZl.out; rw [h0] at this; simp at this; omega
      · have hcc := hcc k (by rw [← HZl.out]; exact hlt)
        generalize zs[k]?.getD 0 = z at hcc
        have C1 := Lib.hid (hl.enter z (by omega) (e := enterE x z) rfl 3)
        have HX := Lib.hid (show (enterS x z).n ≤ ((k + 1 : Nat) : Int) from by have := (enter_n x z).2; omega)
        have hlt' : (k : Int) < (len : Int) := by omega
        clear hl hxn
        go_wp2_with fail
        with_reducible refine C1.out.mono ?_
        rintro e w2 ⟨rfl, h2, -⟩
        have HL2 := Lib.hid h2
        clear h2 C1
        go_wp2_with fail
        go_roundw
        case rel => exact ⟨k + 1, enterS x z, by omega, by go_num, HL2.out, HX.out⟩
        case measure => simp [intOf]; omega
    · have hcond : ((k : Int) < (len : Int) ∧ ¬ (k : Int) < 40) ∨ ¬ (k : Int) < (len : Int) := by
        by_cases hkn : (k : Int) < (len : Int)
        · exact .inl ⟨hkn, by omega⟩
        · exact .inr hkn
      obtain ⟨t, ht⟩ : ∃ t, t = x.n := ⟨_, rfl⟩
      obtain ⟨M, hM⟩ : ∃ M, M = mskN (openP x t) := ⟨_, rfl⟩
      have C1 := Lib.hid (hl.stamp ht.symm)
      have C2 := Lib.hid (hl.open t hM.symm)
      have HIn := Lib.hid (show mskN (inP x) = M from by rw [hM, ht, open_all hl.g])
      have HX := Lib.hid (show x.n ≤ 40 ∧ t = x.n ∧ M = mskN (openP x t) from ⟨by omega, ht, hM⟩)
      clear hgo hl hxn ht hM hk
      rcases hcond with ⟨hc1, hc2⟩ | hc1
      all_goals
        go_wp2_with fail
        with_reducible refine C1.out.mono ?_
        rintro e w' ⟨rfl, rfl⟩
        go_wp2_with fail
        with_reducible refine C2.out.mono ?_
        rintro e w2 ⟨rfl, h2, -⟩
        have C3 := Lib.hid (h2.in HIn.out)
        clear h2 C1 C2 HIn
        go_wp2_with fail
        with_reducible refine C3.out.mono ?_
        rintro e w3 ⟨rfl, h3, -⟩
        have H3 := Lib.hid h3
        clear h3 C3 hc1
        go_wp2_with fail
        go_loopw [8, 9] (fun m i wq => ∃ (k : Nat) (y : SS), k ≤ 40 ∧ i = .int .i64 (k : Int) ∧ SL w wq b y ∧ y.n ≤ 40 + (k : Int) ∧ t ≤ y.n ∧ m = .int .u64 ((mskN (openP y t) : Nat) : Int)) (fun _ i _ => 40 - (intOf i).toNat)
        case atStart => exact ⟨0, x, by decide, rfl, H3.out, by have := HX.out.1; omega, by have := HX.out.2.1; omega, by rw [← HX.out.2.2]⟩
        case round =>
          rename_i wq
          obtain ⟨k, y, hk, rfl, hl, hyn, hty, rfl⟩ := hrel
          clear H3 HX
          by_cases hgo : k < len1 ∧ k < 40
          · obtain ⟨hlt, hlt4⟩ := hgo
            rcases HAc.out.ch hl.ch with h0 | ⟨g, off, rfl, hcc⟩
            · exfalso; omega
            · obtain ⟨R, O, q0, q1⟩ := hcc k hlt
              have hlt' : (k : Int) < (len1 : Int) := by omega
              obtain ⟨M', hM'⟩ : ∃ M, M = mskN (openP y t) := ⟨_, rfl⟩
              rw [← hM']
              have HB := Lib.hid (And.intro hyn hty)
              have HG := Lib.hid hl.g
              have HM := Lib.hid hM'
              have Q0 := Lib.hid (show w.cell? ⟨g, off + k * 2, none⟩ = some (.int .i64 R) from by
                rcases HAc.out with h0 | ⟨g', off', e, h⟩
                · omega
                · cases e
                  obtain ⟨R', O', p0, -⟩ := h k hlt
                  exact (hl.ch.cell (p := ⟨g, off + k * 2, none⟩) (cell_lt p0) (by simp)).symm.trans q0)
              clear hcc hyn hty hM'
              cases O with
              | false =>
                have C1 := Lib.hid (hl.enter R (by have := HB.out.1; omega) (e := enterE y R) rfl 3)
                clear hl
                go_wp2_with fail
                with_reducible refine C1.out.mono ?_
                rintro e w2 ⟨rfl, h2, -⟩
                have HEq := Lib.hid (show mskN (openP (enterS y R) t) = M' from by rw [open_enter HG.out HB.out.2, ← HM.out])
                have C2 := Lib.hid (h2.open t (m := M') HEq.out)
                have HN2 := Lib.hid (show (enterS y R).n ≤ 40 + (k : Int) + 1 ∧ t ≤ (enterS y R).n from by have h1 := enter_n y R; have h2 := HB.out; omega)
                clear h2 C1 HB
                go_wp2_with fail
                with_reducible refine C2.out.mono ?_
                rintro e w3 ⟨rfl, h3, -⟩
                have HL3 := Lib.hid h3
                clear h3 C2
                go_wp2_with fail
                go_roundw
                case rel => exact ⟨k + 1, (enterS y R), by omega, by go_num, HL3.out, by have := HN2.out.1; omega, HN2.out.2, by rw [HEq.out]⟩
                case measure => simp [intOf]; omega
              | true =>
                obtain ⟨u, hu⟩ : ∃ u, exitB y R = u := ⟨_, rfl⟩
                have C1 := Lib.hid (hl.exit R hu (e := exitE y R) rfl)
                clear hl
                cases u with
                | false =>
                  go_wp2_with fail
                  with_reducible refine C1.out.mono ?_
                  rintro e w2 ⟨rfl, h2, -⟩
                  have HEq := Lib.hid (show mskN (openP (exitS y R) t) = M' from by rw [open_exit HG.out hu, ← HM.out])
                  clear hu
                  have C2 := Lib.hid (h2.open t (m := M') HEq.out)
                  have HN2 := Lib.hid (show (exitS y R).n ≤ 40 + (k : Int) + 1 ∧ t ≤ (exitS y R).n from by have h1 := exit_n y R; have h2 := HB.out; omega)
                  clear h2 C1 HB
                  go_wp2_with fail
                  with_reducible refine C2.out.mono ?_
                  rintro e w3 ⟨rfl, h3, -⟩
                  have HL3 := Lib.hid h3
                  clear h3 C2
                  go_wp2_with fail
                  go_roundw
                  case rel => exact ⟨k + 1, (exitS y R), by omega, by go_num, HL3.out, by have := HN2.out.1; omega, HN2.out.2, by rw [HEq.out]⟩
                  case measure => simp [intOf]; omega
                | true =>
                  have C4 := Lib.hid (without_one (M := M') (by rw [HM.out]; exact mskN_lt _) R)
                  have HEq := Lib.hid (show mskN (openP (exitS y R) t) = Mk.withoutN M' [R] from by rw [open_end hu, ← HM.out])
                  clear hu
                  go_wp2_with fail
                  with_reducible refine C1.out.mono ?_
                  rintro e w2 ⟨rfl, h2, -⟩
                  have q2 := (h2.ch.cell (p := ⟨g, off + k * 2, none⟩) (cell_lt Q0.out) (by simp)).trans Q0.out
                  replace h2 := h2.alloc (.cells #[.int .i64 R] 3)
                  have C4 := Lib.hid (C4.out w2 3)
                  go_wp2_with fail
                  with_reducible refine C4.out.mono ?_
                  rintro e w' ⟨rfl, rfl⟩
                  obtain ⟨M2, hM2⟩ : ∃ M2, M2 = Mk.withoutN M' [R] := ⟨_, rfl⟩
                  rw [← hM2] at HEq ⊢
                  clear C4 hM2 q2
                  generalize w2.alloc (.cells #[.int .i64 R] 3) = w2a at *
                  have C2 := Lib.hid (h2.open t (m := M2) HEq.out)
                  have HN2 := Lib.hid (show (exitS y R).n ≤ 40 + (k : Int) + 1 ∧ t ≤ (exitS y R).n from by have h1 := exit_n y R; have h2 := HB.out; omega)
                  clear h2 C1 HB
                  go_wp2_with fail
                  with_reducible refine C2.out.mono ?_
                  rintro e w3 ⟨rfl, h3, -⟩
                  have HL3 := Lib.hid h3
                  clear h3 C2
                  go_wp2_with fail
                  go_roundw
                  case rel => exact ⟨k + 1, (exitS y R), by omega, by go_num, HL3.out, by have := HN2.out.1; omega, HN2.out.2, by rw [HEq.out]⟩
                  case measure => simp [intOf]; omega
          · have hcond2 : ((k : Int) < (len1 : Int) ∧ ¬ (k : Int) < 40) ∨ ¬ (k : Int) < (len1 : Int) := by
              by_cases hkn : (k : Int) < (len1 : Int)
              · exact .inl ⟨hkn, by omega⟩
              · exact .inr hkn
            have HC := Lib.hid hl.ch
            clear hgo hl hyn hty hk
            rcases hcond2 with ⟨hc1, hc2⟩ | hc1
            all_goals
              go_wp2_with fail
              with_reducible refine (known_any _).mono ?_
              rintro e w4 ⟨rfl, hk4⟩
              go_wp2_with fail
              go_ret
              exact ⟨rfl, (HC.out.trans hk4).below _ (by simp) (Nat.le_refl _)⟩
end Go.Proofs.Yticdlknlihogcaa
