/-
  ScanPlays: whatever readers do, each poll, each look, and who is left.
-/
import Derived.Maps.RangeWalk
import Derived.Test.YtlmepjpkaionbaaDoorSnU
import Derived.Test.YtlmepjpkaionbaaDoorSnNil
namespace Go.Proofs.YtlmepjpkaionbaaDoor
open Go.RowKit Go.Maps Go.BigFrame

set_option maxRecDepth 100000 in
set_option maxHeartbeats 4000000 in
theorem plays_law (a : Option Addr) (len cap0 : Nat) (a2 : Option Addr) (len2 cap2 : Nat) (w : World) (hT : Mk.Tab w) (_ : len ≤ 9223372036854775807) (ha : ActsAt w a len) (_ : len2 ≤ 9223372036854775807) (ha2 : Acts4At w a2 len2) :
    Calls Tryd.prog 3 #[.slice a len cap0, .slice a2 len2 cap2] w fun e w' => e = .returned (.bool true) ∧ Below w.heap.size w w' := by
  have HAc := Lib.hid ha
  have HA2 := Lib.hid ha2
  have HT := Lib.hid hT
  have hz := secZ_zero w
  have H0 := Lib.hid (SL.new w (Ch.refl [] w) 26)
  clear ha ha2 hT
  go_enter Tryd.func3, Tryd.ntmps3
  go_wp2_with fail
  obtain ⟨b, hb⟩ : ∃ b, b = w.heap.size := ⟨_, rfl⟩
  obtain ⟨w1, hw1⟩ : ∃ W, W = w.alloc (.cells secZ 26) := ⟨_, rfl⟩
  rw [← hw1, ← hb] at H0 ⊢
  clear hz hw1 hb
  go_loopw [6, 7] (fun m i wr => ∃ (k : Nat) (ds : List (Nat × Bool)), k ≤ 40 ∧ i = .int .i64 (k : Int) ∧ RD wr (b + 1) m ds ∧ ds.length ≤ k ∧ SL w wr b (runS ds)) (fun _ i _ => 40 - (intOf i).toNat)
  case atStart => exact ⟨0, [], by decide, rfl, RD.nil _ _, by simp, H0.out⟩
  case round =>
    rename_i m _
    obtain ⟨k, ds, hk, rfl, hrd, hdl, hl⟩ := hrel
    clear H0
    by_cases hgo : k < len ∧ k < 40
    · obtain ⟨hlt, hlt4⟩ := hgo
      rcases HAc.out.ch hl.ch with h0 | ⟨g, off, rfl, hcc⟩
      · exfalso; omega
      · obtain ⟨R, O, q0, q1⟩ := hcc k hlt
        have hlt' : (k : Int) < (len : Int) := by omega
        have hxn : (runS ds).n ≤ 100000 := by have := (near_run ds).n1; omega
        have C1 := Lib.hid (do_any hl hxn hrd (by omega) (by have := hl.s.lt; omega) (Nat.lt_succ_self b) R O)
        have hdn := doD_len ds R O
        have HN := Lib.hid (show (doD ds R O).length ≤ k + 1 by omega)
        obtain ⟨mp, mc, rfl⟩ := hrd.form
        obtain ⟨dl, hdl2⟩ : ∃ d, d = ds.length := ⟨_, rfl⟩
        rw [← hdl2] at C1 ⊢
        clear hl hxn hcc hdn hrd hdl hdl2
        go_wp2_with fail
        with_reducible refine C1.out.mono ?_
        rintro e w2 ⟨m2, rfl, hr2, -, h2, -⟩
        rw [← doD_run] at h2
        obtain ⟨mp2, mc2, rfl⟩ := hr2.form
        have H2 := Lib.hid h2
        have HR2 := Lib.hid hr2
        clear h2 hr2 C1
        go_wp2_with fail
        go_roundw
        case rel => exact ⟨k + 1, doD ds R O, by omega, by go_num, HR2.out, HN.out, H2.out⟩
        case measure => simp [intOf]; omega
    · have hcond : ((k : Int) < (len : Int) ∧ ¬ (k : Int) < 40) ∨ ¬ (k : Int) < (len : Int) := by
        by_cases hkn : (k : Int) < (len : Int)
        · exact .inl ⟨hkn, by omega⟩
        · exact .inr hkn
      have C1 := Lib.hid (hl.scan HT.out)
      have HRd := Lib.hid hrd
      have HDl := Lib.hid (show ds.length ≤ 40 by omega)
      obtain ⟨mp, mc, rfl⟩ := hrd.form
      obtain ⟨dl, hdl2⟩ : ∃ d, d = ds.length := ⟨_, rfl⟩
      rw [← hdl2] at HRd ⊢
      have HLt := Lib.hid (fun k e => (HRd.out.row.lt k e).2)
      have HDe := Lib.hid hdl2
      clear hgo hk hrd hdl hl hdl2
      rcases hcond with ⟨hc1, hc2⟩ | hc1
      all_goals
        go_wp2_with fail
        with_reducible refine C1.out.mono ?_
        rintro e w2 ⟨c, rfl, h2, hlo2, hc2'⟩
        have C2 := Lib.hid (rnew_any (HRd.out.quiet hc2') (by have := HDl.out; omega))
        have HX := Lib.hid h2
        have HRd2 := Lib.hid (HRd.out.quiet hc2')
        have HSz := Lib.hid (show wr.heap.size ≤ c ∧ b < w2.heap.size ∧ c < w2.heap.size ∧ w.heap.size ≤ w2.heap.size from ⟨hlo2, h2.l.s.lt, h2.n.lt, h2.l.ch.size⟩)
        obtain ⟨t, ht⟩ : ∃ t, t = (runS ds).n := ⟨_, rfl⟩
        rw [← ht] at C2 HX
        clear h2 hlo2 hc2' C1 HRd ht
        go_wp2_with fail
        with_reducible refine C2.out.mono ?_
        rintro e w3 ⟨g, cap, rfl, hrb3, hc3⟩
        obtain ⟨X, hX⟩ : ∃ X, X = w3.heap.size := ⟨_, rfl⟩
        obtain ⟨w4, hw4⟩ : ∃ W, W = w3.alloc (.cells #[.int .i64 t, .int .i64 0, .slice (some ⟨g, 0, none⟩) 64 cap] 36) := ⟨_, rfl⟩
        have hal : Ch [] w3 w4 := by rw [hw4]; exact (Ch.refl [] w3).alloc _
        have hbs : BS w w4 b c X (.slice mp dl mc) ds t (inP (runS ds)) 0 g cap := by
          have h1 := HSz.out
          have h2 := hrb3.lo
          have h3 := hc3.size
          refine ⟨HX.out.quiet (hc3.trans hal), by rw [hw4, hX]; exact Tri.new _ _ _ _ _, (hrb3.quiet hal).mono (by omega), HRd2.out.quiet (hc3.trans hal), by omega, fun k e => ?_, by omega⟩
          have := HLt.out k e
          omega
        have HBS := Lib.hid hbs
        clear hal hbs hrb3 hc3 C2 HX HRd2 HSz HLt
        go_wp2_with fail
        rw [← hw4, ← hX]
        clear hw4 hX
        obtain ⟨pm, hpm⟩ : ∃ pm, mskN (inP (runS ds)) = pm := ⟨_, rfl⟩
        obtain ⟨G, f', hf1, hf2⟩ := worlds_of w4
        have hx0 : ∀ g : G, (f' g).cell? ⟨X, 0, none⟩ = some (.int .i64 t) := fun g => (HBS.out.quiet (hf1 g)).tri.c0
        have hx1 : ∀ g : G, (f' g).cell? ⟨X, 1, none⟩ = some (.int .i64 0) := fun g => (HBS.out.quiet (hf1 g)).tri.c1
        have hx2 : ∀ g' : G, (f' g').cell? ⟨X, 2, none⟩ = some (.slice (some ⟨g, 0, none⟩) 64 cap) := fun g => (HBS.out.quiet (hf1 g)).tri.c2
        have hne : Nonempty G := ⟨(hf2 w4 (Ch.refl _ _)).choose⟩
        have HX1 := Lib.hid hf1
        have HX2 := Lib.hid hf2
        have HG1 := Lib.hid (fun g : G => (HBS.out.quiet (hf1 g)).xl.left hpm)
        have HG2 := Lib.hid (fun g' : G => (show Calls Tryd.prog 12 #[.agg #[.int .i64 t, .int .i64 0, .slice (some ⟨g, 0, none⟩) 64 cap]] (f' g') (fun e w' => e = .returned (.int .u64 (pm : Int)) ∧ Ch [] (f' g') w') from rword_any (HBS.out.quiet (hf1 g')).rb t 0 hpm))
        have HG6 := Lib.hid (fun g : G => (HBS.out.quiet (hf1 g)).xl.began rfl)
        have HQ := Ch.refl [] w4
        clear hf1 hf2 hpm
        refine wp_region_worlds f' (by kernel_rfl) (by kernel_rfl) (HX2.out _ HQ.drew) ?_
        repeat (go_big_quiet_step (first
          | (with_reducible refine (HG1.out _).mono ?_; rintro r w' ⟨rfl, rfl⟩; exact ⟨rfl, _, rfl⟩)
          | (with_reducible refine (HG2.out _).mono ?_; rintro r w' ⟨rfl, hcw⟩; exact ⟨rfl, HX2.out w' ((HX1.out _).trans hcw)⟩)
          | (with_reducible refine (HG6.out _).mono ?_; rintro r w' ⟨rfl, rfl⟩; exact ⟨rfl, _, rfl⟩)))
        refine wpQuiet_nil ?_
        rintro _ ⟨gz, rfl⟩
        have HZ := Lib.hid (HBS.out.quiet (HX1.out gz))
        generalize f' gz = wz at *
        clear hx0 hx1 hx2 hne HQ HG1 HG2 HG6 HX1 HX2 HBS
        go_wp2_with fail
        go_loopw [6, 10] (fun m i wr => ∃ (k : Nat) (ds : List (Nat × Bool)) (p : Nat → Bool) (P g cap : Nat), k ≤ 40 ∧ i = .int .i64 (k : Int) ∧ ds.length ≤ 40 + k ∧ BS w wr b c X m ds t p P g cap) (fun _ i _ => 40 - (intOf i).toNat)
        case atStart => exact ⟨0, ds, _, 0, g, cap, by decide, rfl, by have := HDl.out; omega, HZ.out⟩
        case round =>
          rename_i m _
          obtain ⟨j, es, p, P, g', cap', hj, rfl, hel, hbs⟩ := hrel
          clear HZ HDl HDe
          by_cases hgo : j < len2 ∧ j < 40
          · obtain ⟨hlt, hlt4⟩ := hgo
            rcases HA2.out.ch hbs.xl.l.ch with h0 | ⟨go, off, rfl, hcc⟩
            · exfalso; omega
            · obtain ⟨K, R, O, N, q0, q1, q2, q3⟩ := hcc j hlt
              have hlt' : (j : Int) < (len2 : Int) := by omega
              have hxn : (runS es).n ≤ 100000 := by have := (near_run es).n1; omega
              obtain ⟨mp1, mc1, rfl⟩ := hbs.rd.form
              obtain ⟨dl1, hdl1⟩ : ∃ d, d = es.length := ⟨_, rfl⟩
              rw [← hdl1] at hbs ⊢
              have u0 : 0 ≤ IntKind.u64.wrap K ∧ IntKind.u64.wrap K < 18446744073709551616 := by rw [IntKind.wrap_u64]; omega
              obtain ⟨U, hU⟩ : ∃ U, IntKind.u64.wrap K = U := ⟨_, rfl⟩
              rw [hU] at u0
              obtain ⟨u1, u2⟩ := u0
              have hel2 : es.length ≤ 80 := by omega
              have HEl := Lib.hid (show es.length ≤ 80 ∧ dl1 = es.length ∧ (runS es).n ≤ 100000 ∧ es.length ≤ 40 + j from ⟨hel2, hdl1, hxn, hel⟩)
              obtain ⟨w5, hw5⟩ : ∃ W, W = wr.alloc (.cells #[.int .i64 K, .int .i64 R, .bool O, .int .i64 N] 44) := ⟨_, rfl⟩
              have hal : Ch [] wr w5 := by rw [hw5]; exact (Ch.refl [] wr).alloc _
              have hqd : Qd w5 wr.heap.size K R O N := by rw [hw5]; exact Qd.new _ _ _ _ _ _
              have HBS := Lib.hid (hbs.quiet hal)
              obtain ⟨A, hA⟩ : ∃ A, A = wr.heap.size := ⟨_, rfl⟩
              rw [← hA] at hqd
              have HQd := Lib.hid hqd
              have HAf := Lib.hid (show A ≠ b ∧ A ≠ c ∧ A ≠ X by have := hbs.size; omega)
              have HA := Lib.hid hA
              have HW5 := Lib.hid hw5
              clear hbs hxn hel hel2 hdl1 hal hqd hcc hA hw5
              rcases (show U % 3 = 0 ∨ U % 3 = 1 ∨ U % 3 = 2 by omega) with h3 | h3 | h3
              · have C1 := Lib.hid (do_any HBS.out.xl.l HEl.out.2.2.1 HBS.out.rd (by have := HEl.out.1; omega) (by have := HBS.out.size; omega) (Nat.lt_succ_self b) R O)
                go_wp2_with fail
                rw [← HW5.out]
                with_reducible refine C1.out.mono ?_
                rintro e w6 ⟨m6, rfl, hr6, hm6, hl6, hc6⟩
                rw [← doD_run] at hl6
                have hbs6 := HBS.out.did hr6 hm6 hl6 hc6
                have HDL := Lib.hid (show (doD es R O).length ≤ 40 + (j + 1) by have := doD_len es R O; have := HEl.out.2.2.2; omega)
                obtain ⟨mp2, mc2, rfl⟩ := hr6.form
                obtain ⟨es2, hes2⟩ : ∃ e, e = doD es R O := ⟨_, rfl⟩
                rw [← hes2] at hbs6 HDL ⊢
                obtain ⟨dl2, hdl2⟩ : ∃ d, d = es2.length := ⟨_, rfl⟩
                rw [← hdl2] at hbs6 ⊢
                clear hr6 hm6 hl6 hc6 hes2 hdl2 C1 HBS HQd q0 q1 q2 q3 h3
                have HBS := Lib.hid hbs6
                clear hbs6
                obtain ⟨pm, hpm⟩ : ∃ pm, mskN p = pm := ⟨_, rfl⟩
                obtain ⟨pv, hpv⟩ : ∃ pv, cntN p 64 = pv := ⟨_, rfl⟩
                have hpd : decide (cntN p 64 = 0) = ((pv : Int) == 0) := by rw [hpv, Bool.eq_iff_iff, decide_eq_true_eq, beq_iff_eq]; omega
                obtain ⟨G, f', hf1, hf2⟩ := worlds_of w6
                have hx0 : ∀ g : G, (f' g).cell? ⟨X, 0, none⟩ = some (.int .i64 t) := fun g => (HBS.out.quiet (hf1 g)).tri.c0
                have hx1 : ∀ g : G, (f' g).cell? ⟨X, 1, none⟩ = some (.int .i64 (P : Int)) := fun g => (HBS.out.quiet (hf1 g)).tri.c1
                have hx2 : ∀ g : G, (f' g).cell? ⟨X, 2, none⟩ = some (.slice (some ⟨g', 0, none⟩) 64 cap') := fun g => (HBS.out.quiet (hf1 g)).tri.c2
                have hne : Nonempty G := ⟨(hf2 w6 (Ch.refl _ _)).choose⟩
                have HX1 := Lib.hid hf1
                have HX2 := Lib.hid hf2
                have HG1 := Lib.hid (fun g : G => (HBS.out.quiet (hf1 g)).xl.left hpm)
                have HG2 := Lib.hid (fun g : G => rword_any (HBS.out.quiet (hf1 g)).rb t P hpm)
                have HG3 := Lib.hid (fun g : G => (HBS.out.quiet (hf1 g)).xl.place rfl)
                have HG4 := Lib.hid (fun g : G => (HBS.out.quiet (hf1 g)).xl.done hpd)
                have HG5 := Lib.hid (fun g : G => rcount_any (HBS.out.quiet (hf1 g)).rb t P hpv)
                have HG6 := Lib.hid (fun g : G => (HBS.out.quiet (hf1 g)).xl.began rfl)
                have HQ := Ch.refl [] w6
                clear hf1 hf2 hpm hpv hpd
                go_wp2_with fail
                refine wp_region_worlds f' (by kernel_rfl) (by kernel_rfl) (HX2.out _ HQ.drew) ?_
                repeat (go_big_quiet_step (first
                  | (with_reducible refine (HG1.out _).mono ?_; rintro r w' ⟨rfl, rfl⟩; exact ⟨rfl, _, rfl⟩)
                  | (with_reducible refine (HG2.out _).mono ?_; rintro r w' ⟨rfl, hcw⟩; exact ⟨rfl, HX2.out w' ((HX1.out _).trans hcw)⟩)
                  | (with_reducible refine (HG3.out _).mono ?_; rintro r w' ⟨rfl, rfl⟩; exact ⟨rfl, _, rfl⟩)
                  | (with_reducible refine (HG4.out _).mono ?_; rintro r w' ⟨rfl, rfl⟩; exact ⟨rfl, _, rfl⟩)
                  | (with_reducible refine (HG5.out _).mono ?_; rintro r w' ⟨rfl, hcw⟩; exact ⟨rfl, HX2.out w' ((HX1.out _).trans hcw)⟩)
                  | (with_reducible refine (HG6.out _).mono ?_; rintro r w' ⟨rfl, rfl⟩; exact ⟨rfl, _, rfl⟩)))
                refine wpQuiet_nil ?_
                rintro _ ⟨gz, rfl⟩
                have HZ := Lib.hid (HBS.out.quiet (HX1.out gz))
                generalize f' gz = wz at *
                clear hx0 hx1 hx2 hne HQ HG1 HG2 HG3 HG4 HG5 HG6 HX1 HX2 HBS
                go_wp2_with fail
                go_roundw
                case rel => exact ⟨j + 1, _, _, _, _, _, by omega, by go_num, HDL.out, HZ.out⟩
                case measure => simp [intOf]; omega
              · have C1 := Lib.hid (rpoll_any HBS.out.rb HBS.out.rd (by have := HEl.out.1; omega) (by have := HBS.out.size; omega) t HBS.out.xl.lt N)
                have x0 := HBS.out.tri.c0
                have x1 := HBS.out.tri.c1
                have x2 := HBS.out.tri.c2
                rw [HW5.out] at x0 x1 x2
                go_wp2_with fail
                rw [← HW5.out, ← HA.out]
                with_reducible refine C1.out.mono ?_
                rintro e w6 ⟨g6, cap6, rfl, hrb6, hg6, hc6⟩
                obtain ⟨P6, hP6⟩ : ∃ P6, P6 = pollP P p N := ⟨_, rfl⟩
                obtain ⟨p6, hp6⟩ : ∃ p6, p6 = pollL (endF t (runS es)) P p N := ⟨_, rfl⟩
                rw [← hP6]
                rw [← hp6] at hrb6
                have HDL := Lib.hid (show es.length ≤ 40 + (j + 1) by have := HEl.out.2.2.2; omega)
                have ht6 := HBS.out.tri.quiet hc6
                have hfar := HBS.out.far hg6
                obtain ⟨w7, hw7⟩ : ∃ W, W = ((w6.setCell ⟨X, 0, none⟩ (.int .i64 t)).setCell ⟨X, 1, none⟩ (.int .i64 (P6 : Int))).setCell ⟨X, 2, none⟩ (.slice (some ⟨g6, 0, none⟩) 64 cap6) := ⟨_, rfl⟩
                have hc7 : Ch [X] w6 w7 := by rw [hw7]; exact (((Ch.refl _ w6).setCell (by simp) _).setCell (by simp) _).setCell (by simp) _
                have ht7 := ht6.set (.int .i64 t) (.int .i64 (P6 : Int)) (.slice (some ⟨g6, 0, none⟩) 64 cap6)
                rw [← hw7] at ht7
                have hne := HBS.out.ne
                have hxl7 : XL w w7 b c (runS es) t p P := (HBS.out.xl.quiet hc6).turn hc7 (by simp; omega) (by simp; omega) (by simpa using HBS.out.lx)
                have hrb7 : RB w7 (b + 1) g6 cap6 p6 := hrb6.away hc7 (by simpa using hfar.1)
                have hqd7 : Qd w7 A K R O N := (HQd.out.ch hc6 (by simp)).ch hc7 (by simpa using HAf.out.2.2)
                obtain ⟨v, hv⟩ : ∃ v, cntN p6 64 = v := ⟨_, rfl⟩
                have C2 := Lib.hid ((hxl7.quiet (Ch.refl [] w7).drew).poll N hp6.symm hP6.symm hv)
                have hd7 : Ch [] w7 w7.drew := (Ch.refl [] w7).drew
                have HRb7 := Lib.hid (fun w8 (h : Ch [c] w7.drew w8) => rcount_any ((hrb7.quiet hd7).away h (by simpa using hfar.2)) t P6 hv)
                have HT7 := Lib.hid ht7
                have HNx := Lib.hid (fun (w8 w9 : World) (h8 : XL w w8 b c (runS es) t p6 P6) (k8 : Ch [c] w7.drew w8) (k9 : Ch [] w8 w9) => HBS.out.next ((((hc6.mono (T := [c, X]) (by simp)).trans (hc7.mono (by simp))).trans (hd7.mono (by simp))).trans ((k8.mono (by simp)).trans (k9.mono (by simp)))) (h8.quiet k9) (((ht7.quiet hd7).ch k8 (by simp; omega)).quiet k9) ((((hrb7.quiet hd7).away k8 (by simpa using hfar.2))).quiet k9) (fun i _ => rfl) hg6)
                obtain ⟨y0, y1, y2, yf⟩ := ht6
                have yf0 := yf 0
                have yf1 := yf 1
                have yf2 := yf 2
                have d0 : w7.drew.cell? ⟨X, 0, none⟩ = some (.int .i64 t) := ht7.c0
                have d1 : w7.drew.cell? ⟨X, 1, none⟩ = some (.int .i64 (P6 : Int)) := ht7.c1
                have d2 : w7.drew.cell? ⟨X, 2, none⟩ = some (.slice (some ⟨g6, 0, none⟩) 64 cap6) := ht7.c2
                have d3 : w7.drew.cell? ⟨A, 3, none⟩ = some (.int .i64 N) := hqd7.c3
                have HW7 := Lib.hid hw7
                have HNe := Lib.hid hne.2.1
                clear hrb6 hg6 hc6 hP6 hp6 hfar hc7 hne hxl7 hrb7 hqd7 hd7 hw7 hv ht7 yf C1 HBS HQd q0 q1 q2 q3 h3 x0 x1 x2 HW5 HA
                go_wp2_with fail
                rw [← HW7.out]
                clear HW7 y0 y1 y2 yf0 yf1 yf2
                go_region_with (first
                  | (with_reducible refine C2.out.mono ?_; rintro e w8 ⟨rfl, h8, hc8⟩; have hz8 := HT7.out.drew.ch hc8 (by simpa using HNe.out); have z0 := hz8.c0; have z1 := hz8.c1; have z2 := hz8.c2; have C3 := Lib.hid (HRb7.out w8 hc8); have HX8 := Lib.hid h8; have HC8 := Lib.hid hc8; clear h8 hc8 hz8)
                  | (with_reducible refine C3.out.mono ?_; rintro e w9 ⟨rfl, hc9⟩; have HC9 := Lib.hid hc9; clear hc9)
                  | fail)
                all_goals
                  clear z0 z1 z2 d0 d1 d2 d3 C2 HRb7 HT7 HNe C3
                  have HBS := Lib.hid (HNx.out _ _ HX8.out HC8.out HC9.out)
                  clear HNx HX8 HC8 HC9
                  simp only [Act.put, List.getElem_toArray, List.getElem_cons_succ, List.getElem_cons_zero, List.setIfInBounds_toArray, List.set_cons_zero, List.set_cons_succ]
                  obtain ⟨pm, hpm⟩ : ∃ pm, mskN p6 = pm := ⟨_, rfl⟩
                  obtain ⟨pv, hpv⟩ : ∃ pv, cntN p6 64 = pv := ⟨_, rfl⟩
                  have hpd : decide (cntN p6 64 = 0) = ((pv : Int) == 0) := by rw [hpv, Bool.eq_iff_iff, decide_eq_true_eq, beq_iff_eq]; omega
                  obtain ⟨G, f', hf1, hf2⟩ := worlds_of w9
                  have hx0 : ∀ g : G, (f' g).cell? ⟨X, 0, none⟩ = some (.int .i64 t) := fun g => (HBS.out.quiet (hf1 g)).tri.c0
                  have hx1 : ∀ g : G, (f' g).cell? ⟨X, 1, none⟩ = some (.int .i64 (P6 : Int)) := fun g => (HBS.out.quiet (hf1 g)).tri.c1
                  have hx2 : ∀ g : G, (f' g).cell? ⟨X, 2, none⟩ = some (.slice (some ⟨g6, 0, none⟩) 64 cap6) := fun g => (HBS.out.quiet (hf1 g)).tri.c2
                  have hne : Nonempty G := ⟨(hf2 w9 (Ch.refl _ _)).choose⟩
                  have HX1 := Lib.hid hf1
                  have HX2 := Lib.hid hf2
                  have HG1 := Lib.hid (fun g : G => (HBS.out.quiet (hf1 g)).xl.left hpm)
                  have HG2 := Lib.hid (fun g : G => rword_any (HBS.out.quiet (hf1 g)).rb t P6 hpm)
                  have HG3 := Lib.hid (fun g : G => (HBS.out.quiet (hf1 g)).xl.place rfl)
                  have HG4 := Lib.hid (fun g : G => (HBS.out.quiet (hf1 g)).xl.done hpd)
                  have HG5 := Lib.hid (fun g : G => rcount_any (HBS.out.quiet (hf1 g)).rb t P6 hpv)
                  have HG6 := Lib.hid (fun g : G => (HBS.out.quiet (hf1 g)).xl.began rfl)
                  have HQ := Ch.refl [] w9
                  clear hf1 hf2 hpm hpv hpd
                  go_wp2_with fail
                  refine wp_region_worlds f' (by kernel_rfl) (by kernel_rfl) (HX2.out _ HQ.drew) ?_
                  repeat (go_big_quiet_step (first
                    | (with_reducible refine (HG1.out _).mono ?_; rintro r w' ⟨rfl, rfl⟩; exact ⟨rfl, _, rfl⟩)
                    | (with_reducible refine (HG2.out _).mono ?_; rintro r w' ⟨rfl, hcw⟩; exact ⟨rfl, HX2.out w' ((HX1.out _).trans hcw)⟩)
                    | (with_reducible refine (HG3.out _).mono ?_; rintro r w' ⟨rfl, rfl⟩; exact ⟨rfl, _, rfl⟩)
                    | (with_reducible refine (HG4.out _).mono ?_; rintro r w' ⟨rfl, rfl⟩; exact ⟨rfl, _, rfl⟩)
                    | (with_reducible refine (HG5.out _).mono ?_; rintro r w' ⟨rfl, hcw⟩; exact ⟨rfl, HX2.out w' ((HX1.out _).trans hcw)⟩)
                    | (with_reducible refine (HG6.out _).mono ?_; rintro r w' ⟨rfl, rfl⟩; exact ⟨rfl, _, rfl⟩)))
                  refine wpQuiet_nil ?_
                  rintro _ ⟨gz, rfl⟩
                  have HZ := Lib.hid (HBS.out.quiet (HX1.out gz))
                  generalize f' gz = wz at *
                  clear hx0 hx1 hx2 hne HQ HG1 HG2 HG3 HG4 HG5 HG6 HX1 HX2 HBS
                  go_wp2_with fail
                  go_roundw
                  case rel => exact ⟨j + 1, _, _, _, _, _, by omega, by go_num, HDL.out, HZ.out⟩
                  case measure => simp [intOf]; omega
              · have C1 := Lib.hid (rlook_any HBS.out.rb HBS.out.rd (by have := HEl.out.1; omega) (by have := HBS.out.size; omega) t P R rfl)
                have x0 := HBS.out.tri.c0
                have x1 := HBS.out.tri.c1
                have x2 := HBS.out.tri.c2
                rw [HW5.out] at x0 x1 x2
                go_wp2_with fail
                rw [← HW5.out, ← HA.out]
                with_reducible refine C1.out.mono ?_
                rintro e w6 ⟨g6, cap6, rfl, hrb6, hg6, hc6⟩
                obtain ⟨E, hE⟩ : ∃ E, E = lookB (endF t (runS es)) p R := ⟨_, rfl⟩
                rw [← hE] at hrb6 ⊢
                have HDL := Lib.hid (show es.length ≤ 40 + (j + 1) by have := HEl.out.2.2.2; omega)
                have hfar := HBS.out.far hg6
                obtain ⟨p6, hp6⟩ : ∃ p6, p6 = lookL (endF t (runS es)) p R := ⟨_, rfl⟩
                have hat : ∀ i, i < 64 → (if E = true then rmv p R else p) i = p6 i := fun i hi => by rw [hE, hp6]; exact look_at _ _ _ i hi
                have hcnt : (cntN p 64 : Int) - (cntN p6 64 : Int) = if E = true then 1 else 0 := by rw [hE, hp6]; exact look_cnt _ _ _
                have hrb6 := hrb6.congr hat
                have hqt : quietL (endF t (runS es)) p [R, R] = p6 := by rw [hp6]; exact look_twice _ _ _
                obtain ⟨w7, hw7⟩ : ∃ W, W = w6.alloc (.cells #[.int .i64 t, .int .i64 (P : Int), .slice (some ⟨g6, 0, none⟩) 64 cap6] 36) := ⟨_, rfl⟩
                have hc7 : Ch [] w6 w7 := by rw [hw7]; exact (Ch.refl [] w6).alloc _
                have hB7 : Tri w7 w6.heap.size (.int .i64 t) (.int .i64 (P : Int)) (.slice (some ⟨g6, 0, none⟩) 64 cap6) := by rw [hw7]; exact Tri.new _ _ _ _ _
                obtain ⟨B, hB⟩ : ∃ B, B = w6.heap.size := ⟨_, rfl⟩
                rw [← hB] at hB7
                have hc57 := hc6.trans hc7
                have hq7 := HQd.out.ch hc57 (by simp)
                have hsz7 : B + 1 = w7.heap.size := by rw [hw7, hB]; simp
                have hcl : Ch [] w7 (w7.alloc (.cells #[.int .i64 R, .int .i64 R] 3)) := (Ch.refl [] w7).alloc _
                have hbs := HBS.out.size
                have C2 := ((HBS.out.quiet (hc57.trans hcl)).xl.looks (a := some ⟨w7.heap.size, 0, none⟩) (cap := 2) (n := 2) (zs := [R, R]) rfl (by decide) (intsAt_two w7 R R _) (.inr fun y e => by cases e; have := hc57.size; simp only; omega) hqt)
                obtain ⟨nv, hnv⟩ : ∃ nv : Int, nv = if E = true then 1 else 0 := ⟨_, rfl⟩
                rw [hcnt, ← hnv] at C2
                have HNx := Lib.hid (fun (w9 : World) (h9 : XL w w9 b c (runS es) t p6 P) (k9 : Ch [c] (w7.alloc (.cells #[.int .i64 R, .int .i64 R] 3)) w9) =>
                  (show Tri w9 B (.int .i64 t) (.int .i64 (P : Int)) (.slice (some ⟨g6, 0, none⟩) 64 cap6) ∧ Tri w9 X (.int .i64 t) (.int .i64 (P : Int)) (.slice (some ⟨g', 0, none⟩) 64 cap') ∧ BS w (((w9.setCell ⟨X, 0, none⟩ (.int .i64 t)).setCell ⟨X, 1, none⟩ (.int .i64 (P : Int))).setCell ⟨X, 2, none⟩ (.slice (some ⟨g6, 0, none⟩) 64 cap6)) b c X (.slice mp1 dl1 mc1) es t p6 P g6 cap6 from by
                    have hne := HBS.out.ne
                    have ht9 := (HBS.out.tri.quiet (hc57.trans hcl)).ch k9 (by simpa using hne.2.1)
                    have hcX : Ch [X] w9 (((w9.setCell ⟨X, 0, none⟩ (.int .i64 t)).setCell ⟨X, 1, none⟩ (.int .i64 (P : Int))).setCell ⟨X, 2, none⟩ (.slice (some ⟨g6, 0, none⟩) 64 cap6)) := (((Ch.refl _ w9).setCell (by simp) _).setCell (by simp) _).setCell (by simp) _
                    refine ⟨(hB7.quiet hcl).ch k9 (by have := hc6.size; simp; omega), ht9, HBS.out.next ((((hc57.trans hcl).mono (by simp)).trans (k9.mono (by simp))).trans (hcX.mono (by simp))) (h9.turn hcX (by simp; omega) (by simp; omega) (by simpa using HBS.out.lx)) (ht9.set _ _ _) (((hrb6.quiet (hc7.trans hcl)).away k9 (by simpa using hfar.2)).away hcX (by simpa using hfar.1)) (fun i _ => rfl) hg6⟩))
                have q1' := hq7.c1
                rw [hw7] at q1'
                replace C2 := Lib.hid C2
                have HW7 := Lib.hid hw7
                have HB := Lib.hid hB
                have HS7 := Lib.hid hsz7
                clear hE hrb6 hg6 hc6 hfar hp6 hat hcnt hqt hc7 hB7 hB hc57 hq7 hsz7 hcl hbs hw7 C1 HBS HQd q0 q1 q2 q3 h3 x0 x1 x2 HW5 HA
                cases E
                all_goals
                  first
                    | obtain rfl : nv = 0 := hnv
                    | obtain rfl : nv = 1 := hnv
                  go_wp2_with fail
                  rw [← HB.out, HS7.out, ← HW7.out]
                  with_reducible refine C2.out.mono ?_
                  rintro e w9 ⟨rfl, h9, k9⟩
                  obtain ⟨⟨tb0, tb1, tb2, -⟩, ⟨tx0, tx1, tx2, txf⟩, hbs9⟩ := HNx.out w9 h9 k9
                  have txf0 := txf 0
                  have txf1 := txf 1
                  have txf2 := txf 2
                  obtain ⟨w10, hw10⟩ : ∃ W, W = ((w9.setCell ⟨X, 0, none⟩ (.int .i64 t)).setCell ⟨X, 1, none⟩ (.int .i64 (P : Int))).setCell ⟨X, 2, none⟩ (.slice (some ⟨g6, 0, none⟩) 64 cap6) := ⟨_, rfl⟩
                  rw [← hw10] at hbs9
                  have HBS := Lib.hid hbs9
                  have HW10 := Lib.hid hw10
                  clear h9 k9 hbs9 hw10 C2 HNx txf HB HS7 HW7 q1'
                  go_wp2_with fail
                  rw [← HW10.out]
                  clear HW10 tb0 tb1 tb2 tx0 tx1 tx2 txf0 txf1 txf2
                  obtain ⟨pm, hpm⟩ : ∃ pm, mskN p6 = pm := ⟨_, rfl⟩
                  obtain ⟨pv, hpv⟩ : ∃ pv, cntN p6 64 = pv := ⟨_, rfl⟩
                  have hpd : decide (cntN p6 64 = 0) = ((pv : Int) == 0) := by rw [hpv, Bool.eq_iff_iff, decide_eq_true_eq, beq_iff_eq]; omega
                  obtain ⟨G, f', hf1, hf2⟩ := worlds_of w10
                  have hx0 : ∀ g : G, (f' g).cell? ⟨X, 0, none⟩ = some (.int .i64 t) := fun g => (HBS.out.quiet (hf1 g)).tri.c0
                  have hx1 : ∀ g : G, (f' g).cell? ⟨X, 1, none⟩ = some (.int .i64 (P : Int)) := fun g => (HBS.out.quiet (hf1 g)).tri.c1
                  have hx2 : ∀ g : G, (f' g).cell? ⟨X, 2, none⟩ = some (.slice (some ⟨g6, 0, none⟩) 64 cap6) := fun g => (HBS.out.quiet (hf1 g)).tri.c2
                  have hne : Nonempty G := ⟨(hf2 w10 (Ch.refl _ _)).choose⟩
                  have HX1 := Lib.hid hf1
                  have HX2 := Lib.hid hf2
                  have HG1 := Lib.hid (fun g : G => (HBS.out.quiet (hf1 g)).xl.left hpm)
                  have HG2 := Lib.hid (fun g : G => rword_any (HBS.out.quiet (hf1 g)).rb t P hpm)
                  have HG3 := Lib.hid (fun g : G => (HBS.out.quiet (hf1 g)).xl.place rfl)
                  have HG4 := Lib.hid (fun g : G => (HBS.out.quiet (hf1 g)).xl.done hpd)
                  have HG5 := Lib.hid (fun g : G => rcount_any (HBS.out.quiet (hf1 g)).rb t P hpv)
                  have HG6 := Lib.hid (fun g : G => (HBS.out.quiet (hf1 g)).xl.began rfl)
                  have HQ := Ch.refl [] w10
                  clear hf1 hf2 hpm hpv hpd
                  skip
                  refine wp_region_worlds f' (by kernel_rfl) (by kernel_rfl) (HX2.out _ HQ.drew) ?_
                  repeat (go_big_quiet_step (first
                    | (with_reducible refine (HG1.out _).mono ?_; rintro r w' ⟨rfl, rfl⟩; exact ⟨rfl, _, rfl⟩)
                    | (with_reducible refine (HG2.out _).mono ?_; rintro r w' ⟨rfl, hcw⟩; exact ⟨rfl, HX2.out w' ((HX1.out _).trans hcw)⟩)
                    | (with_reducible refine (HG3.out _).mono ?_; rintro r w' ⟨rfl, rfl⟩; exact ⟨rfl, _, rfl⟩)
                    | (with_reducible refine (HG4.out _).mono ?_; rintro r w' ⟨rfl, rfl⟩; exact ⟨rfl, _, rfl⟩)
                    | (with_reducible refine (HG5.out _).mono ?_; rintro r w' ⟨rfl, hcw⟩; exact ⟨rfl, HX2.out w' ((HX1.out _).trans hcw)⟩)
                    | (with_reducible refine (HG6.out _).mono ?_; rintro r w' ⟨rfl, rfl⟩; exact ⟨rfl, _, rfl⟩)))
                  refine wpQuiet_nil ?_
                  rintro _ ⟨gz, rfl⟩
                  have HZ := Lib.hid (HBS.out.quiet (HX1.out gz))
                  generalize f' gz = wz at *
                  clear hx0 hx1 hx2 hne HQ HG1 HG2 HG3 HG4 HG5 HG6 HX1 HX2 HBS
                  go_wp2_with fail
                  go_roundw
                  case rel => exact ⟨j + 1, _, _, _, _, _, by omega, by go_num, HDL.out, HZ.out⟩
                  case measure => simp [intOf]; omega
          · have hcond2 : ((j : Int) < (len2 : Int) ∧ ¬ (j : Int) < 40) ∨ ¬ (j : Int) < (len2 : Int) := by
              by_cases hkn : (j : Int) < (len2 : Int)
              · exact .inl ⟨hkn, by omega⟩
              · exact .inr hkn
            have C1 := Lib.hid (known_any wr (tab_ch HT.out hbs.xl.l.ch (by simp)))
            have HCf := Lib.hid hbs.xl.l.ch
            obtain ⟨mp1, mc1, rfl⟩ := hbs.rd.form
            generalize es.length = dl1 at *
            clear hgo hbs hel hj
            rcases hcond2 with ⟨hd1, hd2⟩ | hd1
            all_goals
              go_wp2_with fail
              with_reducible refine C1.out.mono ?_
              rintro e w6 ⟨rfl, hc6⟩
              go_wp2_with fail
              go_ret
              exact ⟨rfl, (HCf.out.trans hc6).below _ (by simp) (Nat.le_refl _)⟩
end Go.Proofs.YtlmepjpkaionbaaDoor
