/-
  CheckNext: the law's walk.
-/
import Derived.Test.YtadogffllkompaaDoorCkQ
namespace Go.Proofs.YtadogffllkompaaDoor
open Go.RowKit

attribute [local go_sem] Oper.semAt_some

/-- A row of numbers, as Same reads it. -/
theorem row_ints {w : World} {B : Nat} {v : Value} {l : List Nat} (h : w.ownsRow B 3 1 v l.length (ivs l)) : ∃ a cap, v = .slice a (l.map (fun i : Nat => (i : Int))).length cap ∧ Mk.IntsAt w a (l.map (fun i : Nat => (i : Int))) := by
  rw [List.length_map]
  by_cases h0 : l = []
  · subst h0
    obtain ⟨a, cap, rfl⟩ := own_form h
    exact ⟨a, cap, rfl, .inl rfl⟩
  · have hl : 0 < l.length := List.length_pos_iff.2 h0
    obtain ⟨a, cap, rfl⟩ := own_form h
    obtain ⟨g, rfl, hb, hs, _, hc⟩ := own_cells h 0 (by omega)
    refine ⟨_, cap, rfl, .inr ⟨g, 0, rfl, fun i hi => ?_⟩⟩
    rw [List.length_map] at hi
    rw [Nat.zero_add, hc i (by omega)]
    simp [ivs, hi]
theorem same_rows {w : World} {B1 B2 : Nat} {v1 v2 : Value} {l : List Nat} (hl : l.length ≤ 1000) (h1 : w.ownsRow B1 3 1 v1 l.length (ivs l)) (h2 : w.ownsRow B2 3 1 v2 l.length (ivs l)) :
    Calls Tryd.prog 12 #[v1, v2] w fun e w' => e = .returned (.bool true) ∧ Ch [] w w' := by
  obtain ⟨a1, c1, rfl, i1⟩ := row_ints h1
  obtain ⟨a2, c2, rfl, i2⟩ := row_ints h2
  refine (Mk.same_eq a1 a2 c1 c2 _ w (by rw [List.length_map]; omega) i1 i2).mono ?_
  rintro e w' ⟨rfl, n, rfl⟩
  exact ⟨rfl, (Ch.refl [] w).drewN n⟩
/-- Which helpers are named, as booleans. -/
def HB (L : List I5) (bs : List Bool) : Prop := bs.length = 64 ∧ ∀ t, bs.getD t false = true ↔ ∃ x ∈ L, x.op = 72 ∧ hlp x.i = true ∧ x.i = (t : Int)
theorem HB.word {L : List I5} {bs : List Bool} (h : HB L bs) : Mk.wordN bs = calN L := by
  apply Nat.eq_of_testBit_eq
  intro t
  rw [Bool.eq_iff_iff, wordN_bit, h.2 t]
  unfold calN
  rw [cal_bit]
  simp
theorem HB.nil : HB [] (List.replicate 64 false) := by
  refine ⟨by simp, fun t => ?_⟩
  rw [List.getD_eq_getElem?_getD, List.getElem?_replicate]
  split <;> simp
theorem HB.skip {L : List I5} {bs : List Bool} {x : I5} (h : HB L bs) (hx : ¬ (x.op = 72 ∧ hlp x.i = true)) : HB (L ++ [x]) bs := by
  refine ⟨h.1, fun t => ?_⟩
  rw [h.2 t]
  constructor
  · rintro ⟨y, a, b⟩; exact ⟨y, by simp [a], b⟩
  · rintro ⟨y, a, b, c, d⟩
    rcases List.mem_append.1 a with a | a
    · exact ⟨y, a, b, c, d⟩
    · obtain rfl : y = x := by simpa using a
      exact absurd ⟨b, c⟩ hx
theorem HB.put {L : List I5} {bs : List Bool} {x : I5} {k : Nat} (h : HB L bs) (hk : x.i = (k : Int)) (hx : x.op = 72 ∧ hlp x.i = true) (hk64 : k < 64) : HB (L ++ [x]) (bs.set k true) := by
  refine ⟨by simpa using h.1, fun t => ?_⟩
  rw [getD_set_bool _ _ _ (by rw [h.1]; exact hk64)]
  simp only [Bool.or_eq_true, decide_eq_true_eq]
  rw [h.2 t]
  constructor
  · rintro (rfl | ⟨y, a, b⟩)
    · exact ⟨x, by simp, hx.1, hx.2, hk⟩
    · exact ⟨y, by simp [a], b⟩
  · rintro ⟨y, a, b, c, d⟩
    rcases List.mem_append.1 a with a | a
    · exact .inr ⟨y, a, b, c, d⟩
    · obtain rfl : y = x := by simpa using a
      left; omega

set_option maxRecDepth 10000 in
set_option maxHeartbeats 16000000 in
theorem next_law {a : Option Addr} {len cap : Nat} {L0 : List I5} {at' : Int} {w : World} (hlc : len ≤ cap) (_ : cap ≤ 9223372036854775807) (hlen : L0.length = len) (hfit0 : ∀ x ∈ L0, Fit x) (hI0 : InsAt w a L0) (hT : Tb w) :
    Calls Tryd.prog 4 #[.slice a len cap, .int .i64 at'] w fun e w' => e = .returned (.bool true) ∧ Ch [] w w' := by
  obtain ⟨m, hmin⟩ : ∃ m : Nat, (if (70 : Int) < (len : Int) then (70 : Int) else (len : Int)) = (m : Int) := ⟨min len 70, by split <;> omega⟩
  obtain ⟨L, hLt⟩ : ∃ L, L0.take 70 = L := ⟨_, rfl⟩
  have hmm : m = min len 70 := by split at hmin <;> omega
  have hL : L.length = m := by rw [← hLt, List.length_take]; omega
  have hfit : ∀ x ∈ L, Fit x := by rw [← hLt]; exact fun x hx => hfit0 x (List.mem_of_mem_take hx)
  have hI : InsAt w a L := by rw [← hLt]; exact hI0.take 70
  have hm70 : m ≤ 70 := by omega
  have hmc : m ≤ cap := by omega
  clear hmm
  have hneg : decide ((m : Int) < 0) = false := decide_eq_false (by omega)
  have HT := Lib.hid hT
  have HI := Lib.hid hI
  have HCd := Lib.hid (fun (W : World) (h : Ch [] w W) => show Calls Tryd.prog 11 #[.slice a m cap, .int .i64 70] W fun e w' => ∃ v, e = .returned v ∧ IR w' W.heap.size 51 v L ∧ Ch [] W w' from (code_any (cap := cap) (m := 70) hL (by omega) (hI.ch h (by simp))).mono (fun e w' k => by
    obtain ⟨v, h1, h2, h3⟩ := k
    rw [List.take_of_length_le (by omega)] at h2
    exact ⟨v, h1, h2, h3⟩))
  have HNx := Lib.hid (fun (W : World) (z : Int) (a : Option Addr) (cap : Nat) (hI : InsAt W a L) => next_any (cap := cap) (z := z) hL (by omega) hfit W hI)
  have HRn := Lib.hid (fun (W : World) (h : Ch [] w W) (z : Int) => show Calls Tryd.prog 14 #[.slice a m cap, .int .i64 z] W fun e w' => ∃ v, e = .returned v ∧ w'.ownsRow W.heap.size 3 1 v (bhl L z).length (ivs (bhl L z)) ∧ Ch [] W w' from by
    have := rnext_any (cap := cap) (z := z) hL (by omega) (hI.ch h (by simp))
    rw [rnl_eq (by omega) hfit] at this
    exact this)
  have HRe := Lib.hid (fun (W : World) (h : Ch [] w W) (a : Option Addr) (cap : Nat) (hI : InsAt W a L) => reached_any (cap := cap) hL (by omega) hfit W hI ((HT.out.ch h).tab))
  have HRr := Lib.hid (fun (W : World) (h : Ch [] w W) => rreached_any (w := W) (cap := cap) hL (by omega) (hI.ch h (by simp)))
  have HCa := Lib.hid (fun (W : World) (h : Ch [] w W) (a : Option Addr) (cap : Nat) (hI : InsAt W a L) => calls_any (cap := cap) hL (by omega) hI (HT.out.ch h))
  have HK := Lib.hid (fun (W : World) (h : Ch [] w W) => known_any (HT.out.ch h))
  have HFit := Lib.hid hfit
  have HL := Lib.hid hL
  have HBl := Lib.hid (fun z => bhl_len L z)
  clear hlen hfit0 hI0 hT hLt hfit hI hL
  go_enter Tryd.func4, Tryd.ntmps4
  go_wp2_with fail
  with_reducible refine (HCd.out w (Ch.refl _ _)).mono ?_
  rintro e w2 ⟨v, rfl, hr2, hc2⟩
  obtain ⟨av, ac, rfl, hi2, -⟩ := hr2.form
  have HC2 := Lib.hid hc2
  have HAv := Lib.hid (show ∀ W, Ch [] w2 W → InsAt W av L from fun W h => hi2.ch h (by simp))
  rw [HL.out]
  clear hc2 hr2 hi2 HCd
  go_wp2_with fail
  clear hmin hneg
  go_loopw [6] (fun i wr => ∃ k : Nat, i = .int .i64 (k : Int) ∧ k ≤ m ∧ Ch [] w2 wr) (fun i _ => m - (intOf i).toNat)
  case atStart => exact ⟨0, rfl, Nat.zero_le _, Ch.refl _ _⟩
  case round =>
    obtain ⟨k, rfl, hk, hc⟩ := hrel
    have HC := Lib.hid hc
    by_cases hkm : k < m
    · have hkm' : (k : Int) < (m : Int) := by omega
      have HN1 := Lib.hid (HNx.out wr (k : Int) av ac (HAv.out wr hc))
      have hbl := HBl.out (k : Int)
      generalize hB : bhl L (k : Int) = l at *
      have HBe := Lib.hid hB
      clear hB hc hkm
      go_wp2_with fail
      with_reducible refine HN1.out.mono ?_
      rintro e w3 ⟨v1, rfl, ho1, hc3⟩
      have HC3 := Lib.hid (HC.out.trans hc3)
      have HO1 := Lib.hid ho1
      have HR1 := Lib.hid (HRn.out w3 (HC2.out.trans HC3.out) (k : Int))
      rw [HBe.out] at HR1
      obtain ⟨q, hq⟩ : ∃ q, l.length = q := ⟨_, rfl⟩
      have HQ := Lib.hid hq
      rw [hq] at ho1
      obtain ⟨a1, c1, rfl⟩ := own_form ho1
      clear hc3 ho1 hq HN1
      go_wp2_with fail
      with_reducible refine HR1.out.mono ?_
      rintro e w4 ⟨v2, rfl, ho2, hc4⟩
      have HC4 := Lib.hid (HC3.out.trans hc4)
      have HS := Lib.hid (same_rows (by omega) (own_ch HO1.out hc4 (by simp)) ho2)
      rw [HQ.out] at ho2
      obtain ⟨a2, c2, rfl⟩ := own_form ho2
      clear hc4 ho2 HR1
      go_wp2_with fail
      with_reducible refine HS.out.mono ?_
      rintro e w5 ⟨rfl, hc5⟩
      have HC5 := Lib.hid (HC4.out.trans hc5)
      clear hc5
      go_wp2_with fail
      go_roundw
      case rel => exact ⟨k + 1, by go_num, by omega, HC5.out⟩
      case measure => simp [intOf]; omega
    · have hkm' : ¬ (k : Int) < (m : Int) := by omega
      clear hc hkm
      obtain ⟨i0, hi, hz0, hz1, hz2⟩ := info_parts Mk.infoBool
      go_wp2_with (at_make; refine wpList_make_full _ rfl _ _ 33 rfl wr.heap.size 4 i0 (.bool false) 1 Tryd.underlying33 hi hz0 hz1 _ _ _ _ 64 rfl rfl rfl rfl (by rw [hz2]; decide) (by unfold maxLen; decide) (Nat.le_refl _) ?_; intro w3 hown hgrow)
      have hBA0 : Mk.BA w3 wr.heap.size 64 (List.replicate 64 false) := by unfold Mk.BA; rw [← Mk.made_bools]; exact Mk.own_base hown
      have hC3 : Ch [] w2 w3 := HC.out.trans (Ch.of_below ((Below.refl _ _).grown hgrow (Nat.le_refl _) (fun k e => by cases e)))
      obtain ⟨G, hG⟩ : ∃ G, G = wr.heap.size := ⟨_, rfl⟩
      rw [← hG] at hBA0 ⊢
      have hGl : w2.heap.size ≤ G := by rw [hG]; exact HC.out.size
      have HG := Lib.hid hGl
      have HBA0 := Lib.hid hBA0
      have HC3 := Lib.hid hC3
      clear hown hgrow hG hi hz0 hz1 hz2 hBA0 hC3 hGl
      go_wp2_with fail
      go_loopw [8] (fun i wr => ∃ (k : Nat) (bs : List Bool), i = .int .i64 (k : Int) ∧ k ≤ m ∧ Mk.BA wr G 64 bs ∧ HB (L.take k) bs ∧ Ch [] w2 wr) (fun i _ => m - (intOf i).toNat)
      case atStart => exact ⟨0, _, rfl, Nat.zero_le _, HBA0.out, HB.nil, HC3.out⟩
      case round =>
        obtain ⟨k, bs, rfl, hk, hba, hhb, hc⟩ := hrel
        have HC := Lib.hid hc
        have HBA := Lib.hid hba
        have HHb := Lib.hid hhb
        clear hba hhb hc
        by_cases hkm : k < m
        · have hkm' : (k : Int) < (m : Int) := by omega
          rcases HI.out with h0 | ⟨b, off, rfl, hcl⟩
          · exfalso; have := HL.out; rw [h0] at this; simp at this; omega
          obtain ⟨c0, c1, c2, c3, c4⟩ := (InsAt.at hcl (k := k) (by rw [HL.out]; exact hkm)).ch (HC2.out.trans HC.out) (by simp)
          have HS := Lib.hid (take_ia (L := L) (k := k) (by rw [HL.out]; exact hkm))
          have hfx : Fit (ia L k) := by rw [← ia_at (by rw [HL.out]; exact hkm)]; exact HFit.out _ (List.getElem_mem _)
          have HH := Lib.hid (fun W => rhelp_any hfx.i W)
          unfold hV at HH
          generalize hX : ia L k = x at *
          obtain ⟨op, d, s, o, i⟩ := x
          simp only at *
          clear hX hfx hcl hkm
          by_cases h72 : op = 72
          · subst h72
            cases hh : hlp i with
            | true =>
              have hlt := hh
              unfold hlp at hlt
              rw [decide_eq_true_eq] at hlt
              obtain ⟨j, rfl⟩ : ∃ j : Nat, i = (j : Int) := ⟨i.toNat, by omega⟩
              have HP := Lib.hid (HHb.out.put (x := ⟨72, d, s, o, (j : Int)⟩) rfl ⟨rfl, hh⟩ (by omega))
              rw [hh] at HH
              have hj64 : (j : Int) < 64 := by omega
              have hjn : j < 64 := by omega
              clear hh hlt
              go_wp2_with fail
              with_reducible refine (HH.out _).mono ?_
              rintro e w4 ⟨rfl, hc4⟩
              have HC4 := Lib.hid (HC.out.trans hc4)
              have hb4 := BA.chs HBA.out hc4 (by simp)
              have HB4 := Lib.hid (hb4.set j true)
              have q0 := hb4.cell j hjn
              have q1 := hb4.free j
              obtain ⟨c0, c1, c2, c3, c4⟩ := (show FiveO w4 b (off + k * 5) ⟨72, d, s, o, (j : Int)⟩ from ⟨(hc4.cell (cell_lt c0) (by simp)).trans c0, (hc4.cell (cell_lt c1) (by simp)).trans c1, (hc4.cell (cell_lt c2) (by simp)).trans c2, (hc4.cell (cell_lt c3) (by simp)).trans c3, (hc4.cell (cell_lt c4) (by simp)).trans c4⟩)
              simp only at c0 c1 c2 c3 c4
              clear hc4 hb4
              go_wp2_with fail
              go_roundw
              case rel => exact ⟨k + 1, bs.set j true, by go_num, by omega, HB4.out, by rw [HS.out]; exact HP.out, chSetNew HC4.out (p := ⟨G, j, none⟩) HG.out _⟩
              case measure => simp [intOf]; omega
            | false =>
              have HP := Lib.hid (HHb.out.skip (x := ⟨72, d, s, o, i⟩) (fun h => by rw [hh] at h; cases h.2))
              rw [hh] at HH
              clear hh
              go_wp2_with fail
              with_reducible refine (HH.out _).mono ?_
              rintro e w4 ⟨rfl, hc4⟩
              have HC4 := Lib.hid (HC.out.trans hc4)
              have HB4 := Lib.hid (BA.chs HBA.out hc4 (by simp))
              have c0 := (hc4.cell (cell_lt c0) (by simp)).trans c0
              clear hc4
              go_wp2_with fail
              go_roundw
              case rel => exact ⟨k + 1, bs, by go_num, by omega, HB4.out, by rw [HS.out]; exact HP.out, HC4.out⟩
              case measure => simp [intOf]; omega
          · have e72 : (op == 72) = false := by simpa using h72
            have HP := Lib.hid (HHb.out.skip (x := ⟨op, d, s, o, i⟩) (fun h => h72 h.1))
            clear h72
            go_wp2_with fail
            with_reducible refine (HH.out _).mono ?_
            rintro e w4 ⟨rfl, hc4⟩
            have HC4 := Lib.hid (HC.out.trans hc4)
            have HB4 := Lib.hid (BA.chs HBA.out hc4 (by simp))
            have c0 := (hc4.cell (cell_lt c0) (by simp)).trans c0
            clear hc4
            go_wp2_with fail
            go_roundw
            case rel => exact ⟨k + 1, bs, by go_num, by omega, HB4.out, by rw [HS.out]; exact HP.out, HC4.out⟩
            case measure => simp [intOf]; omega
        · have hkm' : ¬ (k : Int) < (m : Int) := by omega
          have hhb := HHb.out
          rw [List.take_of_length_le (by have := HL.out; omega)] at hhb
          have HWd := Lib.hid hhb.word
          have HKw := Lib.hid (HK.out wr (HC2.out.trans HC.out))
          have hbl := HBl.out at'
          generalize hB : bhl L at' = l at *
          have HBe := Lib.hid hB
          clear hB hhb hkm
          go_wp2_with fail
          with_reducible refine HKw.out.mono ?_
          rintro e w4 ⟨rfl, hc4⟩
          have HC4 := Lib.hid (HC.out.trans hc4)
          have HB4 := Lib.hid (BA.chs HBA.out hc4 (by simp))
          have HN1 := Lib.hid (HNx.out w4 at' av ac (HAv.out w4 HC4.out))
          rw [HBe.out] at HN1
          clear hc4 HKw
          go_wp2_with fail
          with_reducible refine HN1.out.mono ?_
          rintro e w5 ⟨v1, rfl, ho1, hc5⟩
          have HC5 := Lib.hid (HC4.out.trans hc5)
          have HB5 := Lib.hid (BA.chs HB4.out hc5 (by simp))
          have HO1 := Lib.hid ho1
          have HR1 := Lib.hid (HRn.out w5 (HC2.out.trans HC5.out) at')
          rw [HBe.out] at HR1
          obtain ⟨q, hq⟩ : ∃ q, l.length = q := ⟨_, rfl⟩
          have HQ := Lib.hid hq
          rw [hq] at ho1
          obtain ⟨a1, c1, rfl⟩ := own_form ho1
          clear hc5 ho1 hq HN1
          go_wp2_with fail
          with_reducible refine HR1.out.mono ?_
          rintro e w6 ⟨v2, rfl, ho2, hc6⟩
          have HC6 := Lib.hid (HC5.out.trans hc6)
          have HB6 := Lib.hid (BA.chs HB5.out hc6 (by simp))
          have HS := Lib.hid (same_rows (by omega) (own_ch HO1.out hc6 (by simp)) ho2)
          rw [HQ.out] at ho2
          obtain ⟨a2, c2, rfl⟩ := own_form ho2
          clear hc6 ho2 HR1
          go_wp2_with fail
          with_reducible refine HS.out.mono ?_
          rintro e w7 ⟨rfl, hc7⟩
          have HC7 := Lib.hid (HC6.out.trans hc7)
          have HB7 := Lib.hid (BA.chs HB6.out hc7 (by simp))
          have HR2 := Lib.hid (HRe.out w7 (HC2.out.trans HC7.out) av ac (HAv.out w7 HC7.out))
          clear hc7 HS
          go_wp2_with fail
          with_reducible refine HR2.out.mono ?_
          rintro e w8 ⟨M, hM, rfl, hc8⟩
          have HM := Lib.hid hM
          have HC8 := Lib.hid (HC7.out.trans hc8)
          have HB8 := Lib.hid (BA.chs HB7.out hc8 (by simp))
          have HR3 := Lib.hid (HRr.out w8 (HC2.out.trans HC8.out))
          clear hc8 HR2 hM
          go_wp2_with fail
          with_reducible refine HR3.out.mono ?_
          rintro e w9 ⟨g, cp, bs2, rfl, hba2, hg2, hbs2, hc9⟩
          have HC9 := Lib.hid (HC8.out.trans hc9)
          have HB9 := Lib.hid (BA.chs HB8.out hc9 (by simp))
          have HW2 := Lib.hid (Mk.word_any g cp bs2 w9 hba2)
          have HMe := Lib.hid (HM.out.same (rm_word hba2.len hbs2))
          clear hc9 HR3 hba2 hg2 hbs2
          go_wp2_with fail
          with_reducible refine HW2.out.mono ?_
          rintro e w10 ⟨rfl, rfl⟩
          have HCw := Lib.hid (HCa.out w9 (HC2.out.trans HC9.out) av ac (HAv.out w9 HC9.out))
          rw [HMe.out]
          go_wp2_with fail
          with_reducible refine HCw.out.mono ?_
          rintro e w11 ⟨rfl, hc11⟩
          have HC11 := Lib.hid (HC9.out.trans hc11)
          have HW3 := Lib.hid (Mk.word_any G 64 bs w11 (BA.chs HB9.out hc11 (by simp)))
          rw [← HWd.out]
          clear hc11 HCw
          go_wp2_with fail
          with_reducible refine HW3.out.mono ?_
          rintro e w12 ⟨rfl, rfl⟩
          go_wp2_with fail
          go_ret
          exact ⟨rfl, HC2.out.trans HC11.out⟩
end Go.Proofs.YtadogffllkompaaDoor
