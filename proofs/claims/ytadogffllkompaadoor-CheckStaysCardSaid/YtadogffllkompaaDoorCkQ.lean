/-
  CheckHelpers, CheckPlaces, CheckSleeps: the laws' walks.
-/
import Derived.Test.YtadogffllkompaaDoorCkO
namespace Go.Proofs.YtadogffllkompaaDoor
open Go.RowKit

attribute [local go_sem] Oper.semAt_some

set_option maxRecDepth 10000 in
set_option maxHeartbeats 8000000 in
theorem helpers_law {id : Int} (hid : fit id) {w : World} (hT : Tb w) : Calls Tryd.prog 3 #[.int .i64 id] w fun e w' => e = .returned (.bool true) ∧ Ch [] w w' := by
  have HT := Lib.hid hT
  have HH := Lib.hid (fun (z : Int) (W : World) (h : Ch [] w W) => (help_any z (HT.out.ch h)).mono (fun e w' k => show e = .returned (hV z) ∧ Ch [] W w' from ⟨k.1, by obtain ⟨_, n, rfl⟩ := k; exact (Ch.refl [] W).drewN n⟩))
  have HR := Lib.hid (fun (z : Int) (h : fit z) (W : World) => rhelp_any h W)
  have HK := Lib.hid (fun (W : World) (h : Ch [] w W) => known_any (HT.out.ch h))
  unfold hV at HH HR
  have HI := Lib.hid hid
  clear hT hid
  go_enter Tryd.func3, Tryd.ntmps3
  go_wp2_with fail
  go_loopw [3] (fun i wr => ∃ z : Int, i = .int .i64 z ∧ -2 ≤ z ∧ z ≤ 70 ∧ Ch [] w wr) (fun i _ => (70 - intOf i).toNat)
  case atStart => exact ⟨-2, rfl, by omega, by omega, Ch.refl _ _⟩
  case round =>
    obtain ⟨z, rfl, h0, h1, hc⟩ := hrel
    have HC := Lib.hid hc
    by_cases h2 : z < 70
    · have HHz := Lib.hid (HH.out z wr HC.out)
      have HRz := Lib.hid (HR.out z ⟨by omega, by omega⟩)
      generalize hnm z = s at *
      generalize har z = v at *
      generalize hlp z = q at *
      clear hc
      go_wp2_with fail
      with_reducible refine HHz.out.mono ?_
      rintro e w1 ⟨rfl, hc1⟩
      have HC1 := Lib.hid (HC.out.trans hc1)
      clear hc1
      go_wp2_with fail
      with_reducible refine (HRz.out _).mono ?_
      rintro e w2 ⟨rfl, hc2⟩
      have HC2 := Lib.hid (HC1.out.trans hc2)
      clear hc2
      go_wp2_with fail
      go_roundw
      case rel => exact ⟨z + 1, by go_num, by omega, by omega, HC2.out⟩
      case measure => simp [intOf]; omega
    · have HHz := Lib.hid (HH.out id wr HC.out)
      have HRz := Lib.hid (HR.out id HI.out)
      generalize hnm id = s at *
      generalize har id = v at *
      generalize hlp id = q at *
      clear hc
      go_wp2_with fail
      with_reducible refine HHz.out.mono ?_
      rintro e w1 ⟨rfl, hc1⟩
      have HC1 := Lib.hid (HC.out.trans hc1)
      clear hc1
      go_wp2_with fail
      with_reducible refine (HRz.out _).mono ?_
      rintro e w2 ⟨rfl, hc2⟩
      have HC2 := Lib.hid (HC1.out.trans hc2)
      have HKw := Lib.hid (HK.out _ HC2.out)
      clear hc2
      go_wp2_with fail
      with_reducible refine HKw.out.mono ?_
      rintro e w3 ⟨rfl, hc3⟩
      have HC3 := Lib.hid (HC2.out.trans hc3)
      clear hc3
      go_wp2_with fail
      go_ret
      exact ⟨rfl, HC3.out⟩

/-- A slice of the first ones. -/
theorem InsAt.take {w : World} {a : Option Addr} {L : List I5} (h : InsAt w a L) (k : Nat) : InsAt w a (L.take k) := by
  rcases h with rfl | ⟨b, off, rfl, hk⟩
  · exact .inl (by simp)
  · refine .inr ⟨b, off, rfl, fun i hi => ?_⟩
    have h2 : i < L.length := by rw [List.length_take] at hi; omega
    rw [List.getElem_take]
    exact hk i h2

set_option maxRecDepth 10000 in
set_option maxHeartbeats 8000000 in
theorem places_law {a : Option Addr} {len cap : Nat} {L0 : List I5} {sl : Bool} {w : World} (hlc : len ≤ cap) (_ : cap ≤ 9223372036854775807) (hlen : L0.length = len) (hfit0 : ∀ x ∈ L0, Fit x) (hI0 : InsAt w a L0) (hT : Tb w) :
    Calls Tryd.prog 5 #[.slice a len cap, .bool sl] w fun e w' => e = .returned (.bool true) ∧ Ch [] w w' := by
  obtain ⟨m, hmin⟩ : ∃ m : Nat, (if (70 : Int) < (len : Int) then (70 : Int) else (len : Int)) = (m : Int) := ⟨min len 70, by split <;> omega⟩
  obtain ⟨L, hLt⟩ : ∃ L, L0.take 70 = L := ⟨_, rfl⟩
  have hmm : m = min len 70 := by split at hmin <;> omega
  have hL : L.length = m := by rw [← hLt, List.length_take]; omega
  have hfit : ∀ x ∈ L, Fit x := by rw [← hLt]; exact fun x hx => hfit0 x (List.mem_of_mem_take hx)
  have hI : InsAt w a L := by rw [← hLt]; exact hI0.take 70
  have hm70 : m ≤ 70 := by omega
  have hmc : m ≤ cap := by omega
  clear hmm
  have hneg : decide ((m : Int) < 0) = false := decide_eq_false (by omega)
  have HT := Lib.hid hT
  have HR := Lib.hid (fun (W : World) (h : Ch [] w W) => rcheckp_any (cap := cap) (sl := sl) hL hfit (hI.ch h (by simp)))
  have HCd := Lib.hid (fun (W : World) (h : Ch [] w W) => show Calls Tryd.prog 11 #[.slice a m cap, .int .i64 70] W fun e w' => ∃ v, e = .returned v ∧ IR w' W.heap.size 51 v L ∧ Ch [] W w' from (code_any (cap := cap) (m := 70) hL (by omega) (hI.ch h (by simp))).mono (fun e w' k => by
    obtain ⟨v, h1, h2, h3⟩ := k
    rw [List.take_of_length_le (by omega)] at h2
    exact ⟨v, h1, h2, h3⟩))
  have HP := Lib.hid (fun (W : World) (h : Ch [] w W) (a : Option Addr) (cap : Nat) (hI : InsAt W a L) => pcheck_any (cap := cap) (sl := sl) hL hfit hI (HT.out.ch h))
  have HK := Lib.hid (fun (W : World) (h : Ch [] w W) => known_any (HT.out.ch h))
  have HL := Lib.hid hL
  generalize (res L sl).1 = p at *
  generalize (res L sl).2 = q at *
  clear hlen hfit0 hI0 hT hLt hfit hI hL
  go_enter Tryd.func5, Tryd.ntmps5
  go_wp2_with fail
  have HRw := Lib.hid (HR.out w (Ch.refl _ _))
  with_reducible refine HRw.out.mono ?_
  rintro e w1 ⟨rfl, hc1⟩
  have HC1 := Lib.hid hc1
  have HCw := Lib.hid (HCd.out w1 hc1)
  clear hc1 HRw HR
  go_wp2_with fail
  with_reducible refine HCw.out.mono ?_
  rintro e w2 ⟨v, rfl, hr2, hc2⟩
  obtain ⟨av, ac, rfl, hi2, -⟩ := hr2.form
  have HC2 := Lib.hid (HC1.out.trans hc2)
  have HPw := Lib.hid (HP.out w2 HC2.out av ac hi2)
  rw [HL.out]
  clear hc2 hr2 hi2 HCw HCd HP
  go_wp2_with fail
  with_reducible refine HPw.out.mono ?_
  rintro e w3 ⟨rfl, hc3⟩
  have HC3 := Lib.hid (HC2.out.trans hc3)
  have HKw := Lib.hid (HK.out w3 HC3.out)
  clear hc3 HPw
  go_wp2_with fail
  with_reducible refine HKw.out.mono ?_
  rintro e w4 ⟨rfl, hc4⟩
  have HC4 := Lib.hid (HC3.out.trans hc4)
  clear hc4
  go_wp2_with fail
  go_ret
  exact ⟨rfl, HC4.out⟩

/-! ### What sleeps -/
theorem lk_sleep {L : List I5} {j a : Nat} (h : lk L false j a = 0) : lk L true j a = 0 := by
  by_cases h1 : j = 1
  · subst h1
    rw [lk1] at h ⊢
    unfold wrg at h ⊢
    split at h
    · cases h
    · rename_i g1
      rw [if_neg g1]
      split at h
      · cases h
      · rename_i g2
        rw [if_neg g2]
        split at h
        · cases h
        · rw [if_neg (by simp)]
          exact h
  · unfold lk at h ⊢
    simp only [h1, if_false] at h ⊢
    exact h
/-- A program that is right, and doesn't sleep, is right if it sleeps, too. -/
theorem res_sleep {L : List I5} (h : (res L false).2 = 0) : (res L true).2 = 0 := by
  obtain ⟨h1, h2, h3⟩ := res_right h
  rw [res_ok (by omega) (fun j hj b hb => lk_sleep (h3 j hj b hb))]
/-- The other way round just if it doesn't pause. -/
theorem res_pause {L : List I5} (h : (res L true).2 = 0) : (res L false).2 = 0 ↔ Mk.hasb (calN L) 16 = false := by
  obtain ⟨h1, h2, h3⟩ := res_right h
  have hb : Mk.hasb (calN L) 16 = true ↔ ∃ x ∈ L, x.op = 72 ∧ x.i = 16 := by
    unfold Mk.hasb calN
    rw [show ((16 : Int)).toNat = 16 from rfl]
    have := cal_bit 16 L 0
    simp only [Nat.zero_testBit, Bool.false_eq_true, false_or] at this
    rw [show (decide ((0 : Int) ≤ 16 ∧ (16 : Int) < 64)) = true by decide, Bool.true_and, this]
    constructor
    · rintro ⟨x, a, b, c, d⟩; exact ⟨x, a, b, d⟩
    · rintro ⟨x, a, b, d⟩; exact ⟨x, a, b, by rw [d]; decide, d⟩
  rw [← Bool.not_eq_true, hb]
  constructor
  · intro h0 hx
    obtain ⟨x, hx, h72, h16⟩ := hx
    obtain ⟨a, ha, rfl⟩ := List.mem_iff_getElem.1 hx
    obtain ⟨_, _, g3⟩ := res_right h0
    have e1 := g3 1 (by omega) a ha
    rw [ia_at ha] at h72 h16
    rw [lk1] at e1
    unfold wrg at e1
    split at e1
    · cases e1
    · rw [if_neg (fun hh => by rw [h16] at hh; exact absurd hh.2 (by decide)), if_pos ⟨h72, h16, rfl⟩] at e1
      cases e1
  · intro hn
    rw [res_ok (by omega) (fun j hj b hb => ?_)]
    by_cases e1 : j = 1
    · subst e1
      have := h3 1 (by omega) b hb
      rw [lk1] at this ⊢
      unfold wrg at this ⊢
      split at this
      · cases this
      · rename_i g1
        rw [if_neg g1]
        split at this
        · cases this
        · rename_i g2
          rw [if_neg g2, if_neg (fun hh => hn ⟨ia L b, by rw [← ia_at hb]; exact List.getElem_mem _, hh.1, hh.2.1⟩)]
          rw [if_neg (by simp)] at this
          exact this
    · have := h3 j hj b hb
      unfold lk at this ⊢
      simp only [e1, if_false] at this ⊢
      exact this

set_option maxRecDepth 10000 in
set_option maxHeartbeats 8000000 in
theorem sleeps_law {a : Option Addr} {len cap : Nat} {L0 : List I5} {w : World} (hlen : L0.length = len) (hfit0 : ∀ x ∈ L0, Fit x) (hI0 : InsAt w a L0) (hT : Tb w) :
    Calls Tryd.prog 7 #[.slice a len cap] w fun e w' => e = .returned (.bool true) ∧ Ch [] w w' := by
  obtain ⟨L, hLt⟩ : ∃ L, L0.take 64 = L := ⟨_, rfl⟩
  obtain ⟨m, hL⟩ : ∃ m, L.length = m := ⟨_, rfl⟩
  have hm : m ≤ 64 := by rw [← hL, ← hLt, List.length_take]; omega
  have hfit : ∀ x ∈ L, Fit x := by rw [← hLt]; exact fun x hx => hfit0 x (List.mem_of_mem_take hx)
  have HT := Lib.hid hT
  have HCd := Lib.hid (show Calls Tryd.prog 11 #[.slice a len cap, .int .i64 64] w fun e w' => ∃ v, e = .returned v ∧ IR w' w.heap.size 51 v L ∧ Ch [] w w' from by rw [← hLt]; exact code_any (cap := cap) (m := 64) hlen (by omega) hI0)
  have HP := Lib.hid (fun (sl : Bool) (W : World) (h : Ch [] w W) (a : Option Addr) (cap : Nat) (hI : InsAt W a L) => pcheck_any (cap := cap) (sl := sl) hL hfit hI (HT.out.ch h))
  have HCa := Lib.hid (fun (W : World) (h : Ch [] w W) (a : Option Addr) (cap : Nat) (hI : InsAt W a L) => calls_any (cap := cap) hL (by omega) hI (HT.out.ch h))
  have HK := Lib.hid (fun (W : World) (h : Ch [] w W) => known_any (HT.out.ch h))
  have HHs := Lib.hid (fun (W : World) => Mk.has_any (calN L) 16 (cal_lt L (by decide)) W)
  have HL := Lib.hid hL
  have h1 := res_sleep (L := L)
  have h2 := res_pause (L := L)
  have HPf := Lib.hid (HP.out false)
  have HPt := Lib.hid (HP.out true)
  generalize (res L false).1 = p1 at *
  generalize (res L false).2 = q1 at *
  generalize (res L true).1 = p2 at *
  generalize (res L true).2 = q2 at *
  generalize Mk.hasb (calN L) 16 = hb at *
  generalize calN L = cn at *
  have HS := Lib.hid h1
  have HU := Lib.hid h2
  clear hlen hfit0 hI0 hT hLt hfit hL HP h1 h2
  go_enter Tryd.func7, Tryd.ntmps7
  go_wp2_with fail
  with_reducible refine HCd.out.mono ?_
  rintro e w2 ⟨v, rfl, hr2, hc2⟩
  obtain ⟨av, ac, rfl, hi2, -⟩ := hr2.form
  have HI2 := Lib.hid hi2
  have HAv := Lib.hid (show ∀ W, Ch [] w2 W → InsAt W av L from fun W h => hi2.ch h (by simp))
  have HC2 := Lib.hid hc2
  have HP1 := Lib.hid (HPf.out w2 hc2 av ac hi2)
  rw [HL.out]
  clear hc2 hr2 hi2 HCd HPf
  go_wp2_with fail
  with_reducible refine HP1.out.mono ?_
  rintro e w3 ⟨rfl, hc3⟩
  have HC3 := Lib.hid (HC2.out.trans hc3)
  have HC23 := Lib.hid hc3
  have HP2 := Lib.hid (HPt.out w3 HC3.out av ac (HAv.out w3 hc3))
  clear hc3 HP1 HPt
  go_wp2_with fail
  with_reducible refine HP2.out.mono ?_
  rintro e w4 ⟨rfl, hc4⟩
  have HC4 := Lib.hid (HC3.out.trans hc4)
  have HI4 := Lib.hid (HAv.out w4 (HC23.out.trans hc4))
  have HKw := Lib.hid (HK.out w4 HC4.out)
  clear hc4 HP2
  by_cases hq2 : q2 = 0
  · subst hq2
    have HU2 := Lib.hid (HU.out rfl)
    by_cases hq1 : q1 = 0
    · obtain rfl : hb = false := HU2.out.1 hq1
      subst hq1
      clear HU2 HU HS
      go_wp2_with fail
      with_reducible refine HKw.out.mono ?_
      rintro e w5 ⟨rfl, hc5⟩
      have HC5 := Lib.hid (HC4.out.trans hc5)
      have HCw := Lib.hid (HCa.out w5 HC5.out av ac (HI4.out.ch hc5 (by simp)))
      clear hc5
      go_wp2_with fail
      with_reducible refine HCw.out.mono ?_
      rintro e w6 ⟨rfl, hc6⟩
      have HC6 := Lib.hid (HC5.out.trans hc6)
      clear hc6
      go_wp2_with (first | (with_reducible refine (HHs.out _).mono ?_; rintro e w7 ⟨rfl, rfl⟩) | fail)
      go_ret
      exact ⟨rfl, HC6.out⟩
    · obtain rfl : hb = true := (show hb = true by
        cases hbb : hb with
        | true => rfl
        | false => exact absurd (HU2.out.2 hbb) hq1)
      have e1 : (q1 == 0) = false := by simpa using hq1
      clear hq1 HU2 HU HS
      go_wp2_with fail
      with_reducible refine HKw.out.mono ?_
      rintro e w5 ⟨rfl, hc5⟩
      have HC5 := Lib.hid (HC4.out.trans hc5)
      have HCw := Lib.hid (HCa.out w5 HC5.out av ac (HI4.out.ch hc5 (by simp)))
      clear hc5
      go_wp2_with fail
      with_reducible refine HCw.out.mono ?_
      rintro e w6 ⟨rfl, hc6⟩
      have HC6 := Lib.hid (HC5.out.trans hc6)
      clear hc6
      go_wp2_with (first | (with_reducible refine (HHs.out _).mono ?_; rintro e w7 ⟨rfl, rfl⟩) | fail)
      go_ret
      exact ⟨rfl, HC6.out⟩
  · have hq1 : ¬ q1 = 0 := fun h => hq2 (HS.out h)
    have e1 : (q1 == 0) = false := by simpa using hq1
    have e2 : (q2 != 0) = true := by simpa using hq2
    clear hq1 hq2
    go_wp2_with fail
    with_reducible refine HKw.out.mono ?_
    rintro e w5 ⟨rfl, hc5⟩
    have HC5 := Lib.hid (HC4.out.trans hc5)
    clear hc5
    go_wp2_with fail
    go_ret
    exact ⟨rfl, HC5.out⟩
end Go.Proofs.YtadogffllkompaaDoor
