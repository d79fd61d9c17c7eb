/-
  ScanWaits: a scan that is done left no section open that was when it began.
-/
import Derived.Test.YtlmepjpkaionbaaDoorSeT
import Derived.Test.YtlmepjpkaionbaaDoorSnNil
namespace Go.Proofs.YtlmepjpkaionbaaDoor
open Go.RowKit

theorem msk_at {p : Nat → Bool} {i : Nat} (hi : i < 64) : (mskN p).testBit i = p i := by rw [mskN_test, decide_eq_true hi, Bool.true_and]
theorem open_do {x : SS} (h : GS x) {t : Int} (ht : t ≤ x.n) (r : Int) (o : Bool) {i : Nat} (hi : i < 64) (hp : openP (doS x r o) t i = true) : openP x t i = true := by
  have h1 : (mskN (openP (doS x r o) t)).testBit i = true := by rw [msk_at hi, hp]
  rw [← msk_at (p := openP x t) hi]
  cases o with
  | false =>
    have e := open_enter h ht r
    rw [← e]
    exact h1
  | true =>
    cases hb : exitB x r with
    | false =>
      have e := open_exit h (t := t) hb
      rw [← e]
      exact h1
    | true =>
      have e := open_end (t := t) hb
      have h2 : (mskN (openP (exitS x r) t)).testBit i = true := h1
      rw [e, without_test (mskN_lt _)] at h2
      rw [Bool.and_eq_true] at h2
      exact h2.1
theorem open_live {x : SS} (h : GS x) {t : Int} {i : Nat} (hi : i < 64) (hp : openP x t i = true) : endF t x (i : Int) = false := by
  have h1 := openP_iff.1 hp
  have h2 := (h.op i).1 h1.1
  unfold endF endB
  rw [sOf_nat x hi, decide_eq_false (by omega), decide_eq_false (by omega)]
  rfl
theorem GS.do {x : SS} (h : GS x) (r : Int) (o : Bool) : GS (doS x r o) := by
  cases o
  · exact h.enter r
  · exact h.exit r
theorem sub_and {p q : Nat → Bool} (h : ∀ i, i < 64 → p i = true → q i = true) {m k : Nat} (hm : mskN q = m) (hk : mskN p = k) : bits BinOp.and IntKind.u64 (m : Int) (k : Int) = (k : Int) := by
  rw [← hm, ← hk, u64_and_nat _ _ (mskN_lt q) (mskN_lt p)]
  congr 1
  apply Nat.eq_of_testBit_eq
  intro i
  rw [Nat.testBit_and, mskN_test, mskN_test]
  by_cases hi : i < 64
  · have := h i hi
    cases hp : p i <;> cases hq : q i <;> simp_all
  · rw [decide_eq_false hi]; rfl
theorem sub_zero {p q : Nat → Bool} (h : ∀ i, i < 64 → p i = true → q i = true) (hq : cntN q 64 = 0) : mskN p = 0 := mskN_none fun i hi => by
  cases hp : p i
  · rfl
  · have := cntN_zero.1 hq i hi
    rw [h i hi hp] at this
    cases this

set_option maxRecDepth 100000 in
set_option maxHeartbeats 4000000 in
theorem waits_law (a : Option Addr) (len cap : Nat) (a2 : Option Addr) (len2 cap2 : Nat) (n : Int) (w : World) (hT : Mk.Tab w) (_ : len ≤ 9223372036854775807) (ha : ActsAt w a len) (_ : len2 ≤ 9223372036854775807) (ha2 : ActsAt w a2 len2) :
    Calls Tryd.prog 4 #[.slice a len cap, .slice a2 len2 cap2, .int .i64 n] w fun e w' => e = .returned (.bool true) ∧ Below w.heap.size w w' := by
  have HAc := Lib.hid ha
  have HA2 := Lib.hid ha2
  have HT := Lib.hid hT
  have hz := secZ_zero w
  have H0 := Lib.hid (SL.new w (Ch.refl [] w) 26)
  have u0 : 0 ≤ IntKind.u64.wrap n ∧ IntKind.u64.wrap n < 18446744073709551616 := by rw [IntKind.wrap_u64]; omega
  obtain ⟨U, hU⟩ : ∃ U, IntKind.u64.wrap n = U := ⟨_, rfl⟩
  rw [hU] at u0
  have HU := Lib.hid (And.intro hU u0)
  clear ha ha2 hT u0 hU
  go_enter Tryd.func4, Tryd.ntmps4
  go_wp2_with fail
  obtain ⟨b, hb⟩ : ∃ b, b = w.heap.size := ⟨_, rfl⟩
  obtain ⟨w1, hw1⟩ : ∃ W, W = w.alloc (.cells secZ 26) := ⟨_, rfl⟩
  rw [← hw1, ← hb] at H0 ⊢
  clear hz hw1 hb
  go_loopw [8] (fun i wr => ∃ (k : Nat) (x : SS), k ≤ 40 ∧ i = .int .i64 (k : Int) ∧ x.n ≤ k ∧ SL w wr b x) (fun i _ => 40 - (intOf i).toNat)
  case atStart => exact ⟨0, SS.zero, by decide, rfl, by decide, H0.out⟩
  case round =>
    obtain ⟨k, x, hk, rfl, hxn, hl⟩ := hrel
    clear H0
    by_cases hgo : k < len ∧ k < 40
    · obtain ⟨hlt, hlt4⟩ := hgo
      rcases HAc.out.ch hl.ch with h0 | ⟨g, off, rfl, hcc⟩
      · exfalso; omega
      · obtain ⟨R, O, q0, q1⟩ := hcc k hlt
        have hlt' : (k : Int) < (len : Int) := by omega
        have C1 := Lib.hid (do_any hl (by omega) (RD.nil wr (b + 1)) (by simp) (by have := hl.s.lt; omega) (Nat.lt_succ_self b) R O)
        have hdn := (do_n x R O).2
        have HN := Lib.hid (show (doS x R O).n ≤ ((k + 1 : Nat) : Int) by omega)
        clear hl hxn hcc hdn
        go_wp2_with fail
        with_reducible refine C1.out.mono ?_
        rintro e w2 ⟨m2, rfl, -, -, h2, -⟩
        have H2 := Lib.hid h2
        clear h2 C1
        go_wp2_with fail
        go_roundw
        case rel => exact ⟨k + 1, doS x R O, by omega, by go_num, HN.out, H2.out⟩
        case measure => simp [intOf]; omega
    · have hcond : ((k : Int) < (len : Int) ∧ ¬ (k : Int) < 40) ∨ ¬ (k : Int) < (len : Int) := by
        by_cases hkn : (k : Int) < (len : Int)
        · exact .inl ⟨hkn, by omega⟩
        · exact .inr hkn
      have C1 := Lib.hid (hl.scan HT.out)
      have HXn := Lib.hid (show x.n ≤ 40 by omega)
      have HL := Lib.hid hl
      clear hgo hk hxn hl
      rcases hcond with ⟨hc1, hc2⟩ | hc1
      all_goals
        go_wp2_with fail
        with_reducible refine C1.out.mono ?_
        rintro e w2 ⟨c, rfl, h2, hlo2, hc2'⟩
        have C2 := Lib.hid (h2.l.stamp rfl)
        have H2 := Lib.hid h2
        clear h2 hlo2 hc2' C1 HL
        obtain ⟨hU, u0, u1⟩ := HU.out
        obtain ⟨N, hn0, hn1, hn2⟩ : ∃ N : Nat, 1 + U % 64 = (N : Int) ∧ 1 ≤ N ∧ N ≤ 64 := ⟨(1 + U % 64).toNat, by omega⟩
        go_wp2_with fail
        with_reducible refine C2.out.mono ?_
        rintro e w' ⟨rfl, rfl⟩
        go_wp2_with fail
        clear hU u0 u1 hn0 C2
        obtain ⟨t, ht⟩ : ∃ t, t = x.n := ⟨_, rfl⟩
        rw [← ht] at H2 ⊢
        have HTx := Lib.hid (show t ≤ x.n ∧ x.n ≤ 40 by have := HXn.out; omega)
        clear ht HXn
        go_loopw [11] (fun i wr => ∃ (k : Nat) (y : SS) (p : Nat → Bool) (P : Nat), k ≤ 60 ∧ i = .int .i64 (k : Int) ∧ y.n ≤ 40 + (k : Int) ∧ t ≤ y.n ∧ XL w wr b c y t p P ∧ ∀ i, i < 64 → openP y t i = true → p i = true) (fun i _ => 60 - (intOf i).toNat)
        case atStart => exact ⟨0, x, inP x, 0, by decide, rfl, by have := HTx.out; omega, HTx.out.1, H2.out, fun i _ hi => inP_iff.2 (openP_iff.1 hi).1⟩
        case round =>
          obtain ⟨j, y, p, P, hj, rfl, hyn, hty, hx, hsub⟩ := hrel
          clear H2 HTx
          by_cases hgo : j < len2 ∧ j < 60
          · obtain ⟨hlt, hlt6⟩ := hgo
            rcases HA2.out.ch hx.l.ch with h0 | ⟨g, off, rfl, hcc⟩
            · exfalso; omega
            · obtain ⟨R, O, q0, q1⟩ := hcc j hlt
              have hlt' : (j : Int) < (len2 : Int) := by omega
              have C1 := Lib.hid (do_any hx.l (by omega) (RD.nil wr (b + 1)) (by simp) (by have := hx.l.s.lt; omega) (Nat.lt_succ_self b) R O)
              have hdn := do_n y R O
              have HN := Lib.hid (show (doS y R O).n ≤ 40 + ((j + 1 : Nat) : Int) ∧ t ≤ (doS y R O).n by omega)
              have HSub := Lib.hid (fun (i : Nat) (hi : i < 64) (h : openP (doS y R O) t i = true) => hsub i hi (open_do hx.l.g hty R O hi h))
              have HX := Lib.hid hx
              clear hx hyn hty hsub hcc hdn
              go_wp2_with fail
              with_reducible refine C1.out.mono ?_
              rintro e w3 ⟨m3, rfl, -, -, h3, hc3⟩
              have h4 := HX.out.sect h3 hc3
              have HG := Lib.hid h3.g
              obtain ⟨y', hy'⟩ : ∃ y', y' = doS y R O := ⟨_, rfl⟩
              rw [← hy'] at h4 HN HSub HG
              obtain ⟨p', hp'⟩ : ∃ p', p' = pollL (endF t y') P p (N : Int) := ⟨_, rfl⟩
              obtain ⟨P', hP'⟩ : ∃ P', P' = pollP P p (N : Int) := ⟨_, rfl⟩
              have C2 := Lib.hid (h4.poll (N : Int) hp'.symm hP'.symm rfl)
              have HSub' := Lib.hid (fun (i : Nat) (hi : i < 64) (h : openP y' t i = true) => (show p' i = true from by rw [hp']; exact pollL_stays (HSub.out i hi h) (open_live HG.out hi h)))
              clear h3 hc3 h4 hy' hp' hP' HX C1 HSub
              go_wp2_with fail
              with_reducible refine C2.out.mono ?_
              rintro e w4 ⟨rfl, h5, -⟩
              obtain ⟨om, hom⟩ : ∃ om, mskN (openP y' t) = om := ⟨_, rfl⟩
              have C3 := Lib.hid (h5.l.open t hom)
              have H5 := Lib.hid h5
              clear h5 C2
              go_wp2_with fail
              with_reducible refine C3.out.mono ?_
              rintro e w5 ⟨rfl, -, hc6⟩
              have h6 := H5.out.quiet hc6
              have H6 := Lib.hid h6
              obtain ⟨pm, hpm⟩ : ∃ pm, mskN p' = pm := ⟨_, rfl⟩
              have hand := sub_and HSub'.out hpm hom
              have C5 := Lib.hid (h6.left hpm)
              have hne : ((om : Int) != (om : Int)) = false := by simp
              by_cases hd : cntN p' 64 = 0
              · have C4 := Lib.hid (h6.done (d := true) (decide_eq_true hd))
                have hz0 : ((om : Int) != 0) = false := by rw [show om = 0 by rw [← hom]; exact sub_zero HSub'.out hd]; rfl
                clear hom hpm hd h6 hc6 H5 C3
                go_wp2_with fail
                with_reducible refine C4.out.mono ?_
                rintro e w' ⟨rfl, rfl⟩
                go_wp2_with fail
                with_reducible refine C5.out.mono ?_
                rintro e w' ⟨rfl, rfl⟩
                go_wp2_with fail
                go_roundw
                case rel => exact ⟨j + 1, y', p', P', by omega, by go_num, HN.out.1, HN.out.2, H6.out, HSub'.out⟩
                case measure => simp [intOf]; omega
              · have C4 := Lib.hid (h6.done (d := false) (decide_eq_false hd))
                clear hom hpm hd h6 hc6 H5 C3
                go_wp2_with fail
                with_reducible refine C4.out.mono ?_
                rintro e w' ⟨rfl, rfl⟩
                go_wp2_with fail
                with_reducible refine C5.out.mono ?_
                rintro e w' ⟨rfl, rfl⟩
                go_wp2_with fail
                go_roundw
                case rel => exact ⟨j + 1, y', p', P', by omega, by go_num, HN.out.1, HN.out.2, H6.out, HSub'.out⟩
                case measure => simp [intOf]; omega
          · have hcond : ((j : Int) < (len2 : Int) ∧ ¬ (j : Int) < 60) ∨ ¬ (j : Int) < (len2 : Int) := by
              by_cases hkn : (j : Int) < (len2 : Int)
              · exact .inl ⟨hkn, by omega⟩
              · exact .inr hkn
            have C1 := Lib.hid (known_any wr (tab_ch HT.out hx.l.ch (by simp)))
            have HC := Lib.hid hx.l.ch
            clear hgo hx hsub hyn hty hj
            rcases hcond with ⟨hc1, hc2⟩ | hc1
            all_goals
              go_wp2_with fail
              with_reducible refine C1.out.mono ?_
              rintro e w6 ⟨rfl, hc6⟩
              go_wp2_with fail
              go_ret
              exact ⟨rfl, (HC.out.trans hc6).below _ (by simp) (Nat.le_refl _)⟩
end Go.Proofs.YtlmepjpkaionbaaDoor
