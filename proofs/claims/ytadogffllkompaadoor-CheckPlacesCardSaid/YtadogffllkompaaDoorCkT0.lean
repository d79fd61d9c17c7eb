/-
  CheckStays: the law's walk.
-/
import Derived.Test.YtadogffllkompaaDoorCkS
namespace Go.Proofs.YtadogffllkompaaDoor
open Go.RowKit

attribute [local go_sem] Oper.semAt_some

set_option maxRecDepth 10000 in
set_option maxHeartbeats 16000000 in
theorem stays_law {a wa : Option Addr} {len cap wl wc : Nat} {sl : Bool} {L0 : List I5} {w : World} (hlc : len ≤ cap) (_ : cap ≤ 9223372036854775807) (_ : wl ≤ 9223372036854775807) (hW0 : BoolsAt w wa wl) (hlen : L0.length = len) (hfit0 : ∀ x ∈ L0, Fit x) (hI0 : InsAt w a L0) (hT : Tb w) :
    Calls Tryd.prog 6 #[.slice a len cap, .bool sl, .slice wa wl wc] w fun e w' => e = .returned (.bool true) ∧ Ch [] w w' := by
  obtain ⟨m, hmin⟩ : ∃ m : Nat, (if (64 : Int) < (len : Int) then (64 : Int) else (len : Int)) = (m : Int) := ⟨min len 64, by split <;> omega⟩
  obtain ⟨L, hLt⟩ : ∃ L, L0.take 64 = L := ⟨_, rfl⟩
  have hmm : m = min len 64 := by split at hmin <;> omega
  have hL : L.length = m := by rw [← hLt, List.length_take]; omega
  have hfit : ∀ x ∈ L, Fit x := by rw [← hLt]; exact fun x hx => hfit0 x (List.mem_of_mem_take hx)
  have hI : InsAt w a L := by rw [← hLt]; exact hI0.take 64
  have hm64 : m ≤ 64 := by omega
  have hmc : m ≤ cap := by omega
  clear hmm
  have hneg : decide ((m : Int) < 0) = false := decide_eq_false (by omega)
  have HT := Lib.hid hT
  have HWs := Lib.hid hW0
  have HCd := Lib.hid (show Calls Tryd.prog 11 #[.slice a len cap, .int .i64 64] w fun e w' => ∃ v, e = .returned v ∧ IR w' w.heap.size 51 v L ∧ Ch [] w w' from by rw [← hLt]; exact code_any (cap := cap) (m := 64) hlen (by omega) hI0)
  have HRc := Lib.hid (fun (W : World) (h : Ch [] w W) => rcheckp_any (cap := cap) (sl := sl) hL hfit (hI.ch h (by simp)))
  have HP := Lib.hid (fun (W : World) (h : Ch [] w W) (a : Option Addr) (cap : Nat) (hI : InsAt W a L) => pcheck_any (cap := cap) (sl := sl) hL hfit hI (HT.out.ch h))
  have HNx := Lib.hid (fun (W : World) (z : Int) (a : Option Addr) (cap : Nat) (hI : InsAt W a L) => next_any (cap := cap) (z := z) hL (by omega) hfit W hI)
  have HRe := Lib.hid (fun (W : World) (h : Ch [] w W) (a : Option Addr) (cap : Nat) (hI : InsAt W a L) => reached_any (cap := cap) hL (by omega) hfit W hI ((HT.out.ch h).tab))
  have HK := Lib.hid (fun (W : World) (h : Ch [] w W) => known_any (HT.out.ch h))
  have HRl := Lib.hid (fun (M : Nat) (h : (res L sl).2 = 0) (hM : RM L M) => right_len h hM)
  have HRn := Lib.hid (fun (x : Nat) (h : (res L sl).2 = 0) (hx : x < m) (h73 : (ia L x).op ≠ 73) => right_next hfit h (by rw [hL]; exact hx) h73)
  have HBl := Lib.hid (fun z => bhl_len L z)
  have HR1 := Lib.hid (fun (h : (res L sl).2 = 0) => (res_right h).1)
  have HL := Lib.hid hL
  generalize (res L sl).1 = p at *
  generalize (res L sl).2 = q at *
  clear hlen hfit0 hI0 hT hLt hfit hI hL hW0
  go_enter Tryd.func6, Tryd.ntmps6
  go_wp2_with fail
  with_reducible refine HCd.out.mono ?_
  rintro e w2 ⟨v, rfl, hr2, hc2⟩
  obtain ⟨av, ac, rfl, hi2, -⟩ := hr2.form
  have HC2 := Lib.hid (hc2.alloc (.cells #[.slice av m ac, .bool sl] 48))
  have HAv := Lib.hid (show ∀ W, Ch [] (w2.alloc (.cells #[.slice av m ac, .bool sl] 48)) W → InsAt W av L from fun W h => (hi2.ch ((Ch.refl [] w2).alloc _) (by simp)).ch h (by simp))
  have HX := Lib.hid (Two.new w2 (.slice av m ac) (.bool sl) 48)
  obtain ⟨w3, hw3⟩ : ∃ w3, w2.alloc (.cells #[.slice av m ac, .bool sl] 48) = w3 := ⟨_, rfl⟩
  have HW3 := Lib.hid hw3
  rw [hw3] at HC2 HAv HX
  rw [HL.out]
  have hx0 := HX.out.c0
  have hx1 := HX.out.c1
  have HP1 := Lib.hid (HP.out w3 HC2.out av ac (HAv.out w3 (Ch.refl _ _)))
  clear hc2 hr2 hi2 HCd HP hw3
  go_wp2_with fail
  rw [HW3.out]
  with_reducible refine HP1.out.mono ?_
  rintro e w4 ⟨rfl, hc4⟩
  have HC4 := Lib.hid (HC2.out.trans hc4)
  have HC34 := Lib.hid hc4
  have HX4 := Lib.hid (And.intro ((hc4.cell (p := ⟨w2.heap.size, 0, none⟩) (cell_lt hx0) (by simp)).trans hx0) ((hc4.cell (p := ⟨w2.heap.size, 1, none⟩) (cell_lt hx1) (by simp)).trans hx1))
  clear hc4 hx0 hx1 HP1
  by_cases hq : q = 0
  · subst hq
    clear hmin hneg hmc hlc HRc
    have HRl := Lib.hid (fun M => HRl.out M rfl)
    have HRn := Lib.hid (fun x => HRn.out x rfl)
    have h1m := HR1.out rfl
    rw [HL.out] at h1m
    have hx4 := HX4.out.1
    have HR6 := Lib.hid (HRe.out w4.drew HC4.out.drew av ac (HAv.out _ HC34.out.drew))
    have HLn := Lib.hid (fun (M : Nat) (hM : RM L M) (W : World) => (Mk.len_any M hM.1 W).mono (fun e w' (k : _ ∧ _) => show e = .returned (.int .i64 (m : Int)) ∧ W = w' from ⟨by rw [k.1, HRl.out M hM, HL.out], k.2⟩))
    have hs4 : w4.drew.cell? ⟨w2.heap.size, 0, none⟩ = some (.slice av m ac) := hx4
    clear HRe HRl
    go_wp2_with fail
    go_region_held (fun w' => w'.cell? ⟨w2.heap.size, 0, none⟩ = some (.slice av m ac)) (go_keep) (first
      | (go_at_call 15; with_reducible refine HR6.out.mono ?_; rintro e w5 ⟨M, hM, rfl, hc5⟩; have HM := Lib.hid hM; have HC45 := Lib.hid ((Ch.refl [] w4).drew.trans hc5); have hs5 := (hc5.cell (p := ⟨w2.heap.size, 0, none⟩) (cell_lt hs4) (by simp)).trans hs4; clear hM hc5)
      | (go_at_call 21; with_reducible refine (HLn.out _ HM.out _).mono ?_; rintro e w6 ⟨rfl, rfl⟩)
      | fail)
    simp only [Exit.then]
    have HC5 := Lib.hid (HC4.out.trans HC45.out)
    have HX5 := Lib.hid hs5
    have HA5 := Lib.hid (show ∀ W, Ch [] w5 W → InsAt W av L from fun W h => HAv.out W ((HC34.out.trans HC45.out).trans h))
    have HW5 := Lib.hid (show ∀ W, Ch [] w5 W → BoolsAt W wa wl from fun W h => HWs.out.ch (HC5.out.trans h))
    clear hs5 hs4 hx4 HR6 HLn HC34 HC45 HAv HWs
    go_wp2_with fail
    go_loopw [12, 13] (fun at' i wr => ∃ x k : Nat, at' = .int .i64 (x : Int) ∧ x < m ∧ i = .int .i64 (k : Int) ∧ k ≤ wl ∧ Ch [] w5 wr) (fun _ i _ => wl - (intOf i).toNat)
    case atStart => exact ⟨0, 0, rfl, h1m, rfl, Nat.zero_le _, Ch.refl _ _⟩
    case round =>
      obtain ⟨x, k, rfl, hxm, rfl, hk, hc⟩ := hrel
      have HC := Lib.hid hc
      have hgo : (k < wl ∧ k < 100) ∨ ¬ (k < wl ∧ k < 100) := Decidable.em _
      rcases hgo with ⟨hkw, hk1⟩ | hgo
      · have hkw' : (k : Int) < (wl : Int) := by omega
        have hk1' : (k : Int) < 100 := by omega
        have hxm' : (x : Int) < (m : Int) := by omega
        have hx0 := (hc.cell (p := ⟨w2.heap.size, 0, none⟩) (cell_lt HX5.out) (by simp)).trans HX5.out
        have HN1 := Lib.hid (HNx.out wr (x : Int) av ac (HA5.out wr hc))
        have hbl := HBl.out (x : Int)
        rcases HA5.out wr hc with h0 | ⟨b, off, rfl, hcl⟩
        · exfalso; have := HL.out; rw [h0] at this; simp at this; omega
        have hcx := (InsAt.at hcl (k := x) (by have := HL.out; omega)).c0
        rcases HW5.out wr hc with h0 | ⟨wb, wo, rfl, hwb⟩
        · omega
        obtain ⟨bx, hbx⟩ := hwb k hkw
        have HRx := Lib.hid (show (ia L x).op ≠ 73 → bhl L (x : Int) ≠ [] ∧ ∀ t ∈ bhl L (x : Int), t < m from fun h => by have := HRn.out x trivial hxm h; rw [HL.out] at this; exact this)
        have HEx := Lib.hid (show (ia L x).op = 73 → bhl L (x : Int) = [] from right_exit)
        generalize hB : bhl L (x : Int) = l at *
        generalize (ia L x).op = op at *
        clear hB hcl hwb
        go_wp2_with fail
        with_reducible refine HN1.out.mono ?_
        rintro e w6 ⟨v, rfl, ho, hc6⟩
        have HC6 := Lib.hid (HC.out.trans hc6)
        have hx6 := (hc6.cell (p := ⟨w2.heap.size, 0, none⟩) (cell_lt hx0) (by simp)).trans hx0
        have hcx6 := (hc6.cell (cell_lt hcx) (by simp)).trans hcx
        have hbx6 := (hc6.cell (cell_lt hbx) (by simp)).trans hbx
        have HKw := Lib.hid (HK.out w6 (HC5.out.trans HC6.out))
        clear hx0 hcx hbx HN1 hc6 hc
        by_cases h73 : op = 73
        · have hl := HEx.out h73
          subst h73
          subst hl
          have ho' : w6.ownsRow wr.heap.size 3 1 v 0 (ivs []) := ho
          obtain ⟨ra, rc, rfl⟩ := own_form ho'
          clear ho ho'
          go_wp2_with fail
          with_reducible refine HKw.out.mono ?_
          rintro e w7 ⟨rfl, hc7⟩
          have HC7 := Lib.hid ((HC5.out.trans HC6.out).trans hc7)
          clear hc7
          go_wp2_with fail
          go_ret
          exact ⟨rfl, HC7.out⟩
        · obtain ⟨hne, hall⟩ := HRx.out h73
          have e73 : (op == 73) = false := by simpa using h73
          clear HRx HEx h73
          match l, hne, hall, hbl, ho with
          | [], hne, _, _, _ => exact absurd rfl hne
          | [y], _, hall, _, ho =>
            have ho' : w6.ownsRow wr.heap.size 3 1 v 1 (ivs [y]) := ho
            obtain ⟨ra, rc, rfl⟩ := own_form ho'
            obtain ⟨g, rfl, -, -, -, hcl⟩ := own_cells ho' 0 (by omega)
            have r0 : w6.cell? ⟨g, 0, none⟩ = some (.int .i64 (y : Int)) := hcl 0 (by omega)
            have hym : (y : Int) < (m : Int) := by have := hall y (by simp); omega
            have hy0 : ¬ (y : Int) < 0 := by omega
            have hy1 : ¬ (m : Int) ≤ (y : Int) := by omega
            clear hcl ho ho' hall
            cases bx with
            | true =>
              go_wp2_with fail
              go_roundw
              case rel => exact ⟨y, k + 1, rfl, by omega, by go_num, by omega, HC6.out⟩
              case measure => simp [intOf]; omega
            | false =>
              go_wp2_with fail
              go_roundw
              case rel => exact ⟨y, k + 1, rfl, by omega, by go_num, by omega, HC6.out⟩
              case measure => simp [intOf]; omega
          | [y, z], _, hall, _, ho =>
            have ho' : w6.ownsRow wr.heap.size 3 1 v 2 (ivs [y, z]) := ho
            obtain ⟨ra, rc, rfl⟩ := own_form ho'
            obtain ⟨g, rfl, -, -, -, hcl⟩ := own_cells ho' 0 (by omega)
            have r0 : w6.cell? ⟨g, 0, none⟩ = some (.int .i64 (y : Int)) := hcl 0 (by omega)
            have r1 : w6.cell? ⟨g, 1, none⟩ = some (.int .i64 (z : Int)) := hcl 1 (by omega)
            have hzm : (z : Int) < (m : Int) := by have := hall z (by simp); omega
            have hz0 : ¬ (z : Int) < 0 := by omega
            have hz1 : ¬ (m : Int) ≤ (z : Int) := by omega
            have hym : (y : Int) < (m : Int) := by have := hall y (by simp); omega
            have hy0 : ¬ (y : Int) < 0 := by omega
            have hy1 : ¬ (m : Int) ≤ (y : Int) := by omega
            clear hcl ho ho' hall
            cases bx with
            | true =>
              go_wp2_with fail
              go_roundw
              case rel => exact ⟨z, k + 1, rfl, by omega, by go_num, by omega, HC6.out⟩
              case measure => simp [intOf]; omega
            | false =>
              go_wp2_with fail
              go_roundw
              case rel => exact ⟨y, k + 1, rfl, by omega, by go_num, by omega, HC6.out⟩
              case measure => simp [intOf]; omega
          | y :: z :: t :: r, _, _, hbl, _ => simp at hbl
      · have HKw := Lib.hid (HK.out wr (HC5.out.trans hc))
        clear hc
        by_cases hkw : k < wl
        · have hkw' : (k : Int) < (wl : Int) := by omega
          have hk1' : ¬ (k : Int) < 100 := by omega
          clear hgo hkw
          go_wp2_with fail
          with_reducible refine HKw.out.mono ?_
          rintro e w7 ⟨rfl, hc7⟩
          have HC7 := Lib.hid ((HC5.out.trans HC.out).trans hc7)
          clear hc7
          go_wp2_with fail
          go_ret
          exact ⟨rfl, HC7.out⟩
        · have hkw' : ¬ (k : Int) < (wl : Int) := by omega
          clear hgo hkw
          go_wp2_with fail
          with_reducible refine HKw.out.mono ?_
          rintro e w7 ⟨rfl, hc7⟩
          have HC7 := Lib.hid ((HC5.out.trans HC.out).trans hc7)
          clear hc7
          go_wp2_with fail
          go_ret
          exact ⟨rfl, HC7.out⟩
  · have hqb : (q != 0) = true := by simpa using hq
    have HRw := Lib.hid (HRc.out w4 HC4.out)
    clear hq HRc
    go_wp2_with fail
    with_reducible refine HRw.out.mono ?_
    rintro e w5 ⟨rfl, hc5⟩
    have HC5 := Lib.hid (HC4.out.trans hc5)
    have HKw := Lib.hid (HK.out w5 HC5.out)
    clear hc5 HRw
    go_wp2_with fail
    with_reducible refine HKw.out.mono ?_
    rintro e w6 ⟨rfl, hc6⟩
    have HC6 := Lib.hid (HC5.out.trans hc6)
    clear hc6
    go_wp2_with fail
    go_ret
    exact ⟨rfl, HC6.out⟩
end Go.Proofs.YtadogffllkompaaDoor
