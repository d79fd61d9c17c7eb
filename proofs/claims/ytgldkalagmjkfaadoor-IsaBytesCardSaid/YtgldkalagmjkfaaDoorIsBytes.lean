/-
  The law IsaBytes, walked: its first part.
-/
import Derived.Test.YtgldkalagmjkfaaDoorIsW
import Derived.Test.YtgldkalagmjkfaaDoorIsP
import Derived.Test.YtgldkalagmjkfaaDoorIsT
namespace Go.Proofs.YtgldkalagmjkfaaDoor
open Go.RowKit

attribute [local go_sem] Oper.semAt_some

set_option maxHeartbeats 8000000 in
/-- The instructions are cut to 80 ahead of it. -/
theorem bytes_law {a : Option Addr} {len cap : Nat} {L0 : List I5} {w : World} (hlc : len ≤ cap) (hcap : cap ≤ 9223372036854775807) (hlen : L0.length = len) (hfit0 : ∀ x ∈ L0, Fit x) (hb0 : InsAt w a L0) (hT : Tb w) :
    Calls Tryd.prog 5 #[.slice a len cap] w fun e w' => e = .returned (.bool true) ∧ Below w.heap.size w w' := by
  obtain ⟨i0, hI, hz0, hz1, hz2⟩ : ∃ i : TypeInfo, Tryd.prog.info? 34 = some i ∧ i.zero = some (.agg #[.int .i64 0, .int .i64 0, .int .i64 0, .int .i64 0, .int .i64 0]) ∧ i.size = 5 ∧ i.bytes = 40 := by
    refine ⟨_, rfl, by kernel_rfl, by kernel_rfl, by kernel_rfl⟩
  obtain ⟨j0, hJ, hy0, hy1, hy2⟩ : ∃ i : TypeInfo, Tryd.prog.info? 5 = some i ∧ i.zero = some (.int .u8 0) ∧ i.size = 1 ∧ i.bytes = 1 := by
    refine ⟨_, rfl, by kernel_rfl, by kernel_rfl, by kernel_rfl⟩
  obtain ⟨n, hmin⟩ : ∃ n : Nat, min (len : Int) 80 = (n : Int) := ⟨min len 80, by omega⟩
  have hn1 : n ≤ len ∧ n ≤ 80 := by omega
  have hn2 : n ≤ 80 := hn1.2
  have hnl : n ≤ len := hn1.1
  obtain ⟨L, hL⟩ : ∃ l, L0.take n = l := ⟨_, rfl⟩
  have hll : L.length = n := by rw [← hL, List.length_take]; omega
  have hfit : ∀ x ∈ L, Fit x := fun x hx => hfit0 x (by rw [← hL] at hx; exact List.mem_of_mem_take hx)
  have hb : InsAt w a L := by
    rcases hb0 with rfl | ⟨b, off, rfl, h⟩
    · exact .inl (by rw [← hL]; simp)
    · refine .inr ⟨b, off, rfl, fun i hi => ?_⟩
      have hi2 : i < L0.length := by omega
      have := h i hi2
      have e : L[i] = L0[i] := by subst hL; rw [List.getElem_take]
      rw [e]; exact this
  have hnc : n ≤ cap := by omega
  have HT0 := Lib.hid hT
  have HLl := Lib.hid hll
  have HFit := Lib.hid hfit
  have HB := Lib.hid hb
  clear hT hb0 hfit0 hlen hL hb hfit hn1 hll
  go_enter Tryd.func5, Tryd.ntmps5
  go_wp2_with fail
  go_loopw [3, 4, 5, 6] (fun x v c k wr => ∃ j : Nat, j ≤ n ∧ k = .int .i64 (j : Int) ∧ c = .int .i64 (firstE (L.take j)) ∧ IR wr w.heap.size 34 x (L.take j) ∧ NB wr w.heap.size v (okL (L.take j)) ∧ Ch [] w wr) (fun _ _ _ k _ => n - (intOf k).toNat)
  case atStart => exact ⟨0, Nat.zero_le _, rfl, rfl, IR.nil _ _ _, NB.nil _ _, Ch.refl _ _⟩
  case round =>
    obtain ⟨j, hj, rfl, rfl, hx, hw, hch⟩ := hrel
    have HX := Lib.hid hx
    have HW := Lib.hid hw
    have HC := Lib.hid hch
    obtain ⟨xa, xc, rfl, -, -⟩ := hx.form
    obtain ⟨va, vc, rfl, -, -⟩ := hw.form
    have hln : (L.take j).length = j := by rw [List.length_take, HLl.out]; omega
    rw [hln] at HX ⊢
    have HLn := Lib.hid hln
    by_cases hlt : j < n
    · have hjl : j < L.length := by rw [HLl.out]; exact hlt
      have hkm1 : (j : Int) < (n : Int) := by omega
      have hwj : IntKind.i64.wrap ((j : Int) + 1) = (j : Int) + 1 := by rw [IntKind.wrap_i64]; omega
      have HT := Lib.hid (show L.take (j + 1) = L.take j ++ [L[j]] from List.take_succ_eq_append_getElem hjl)
      have HFs := Lib.hid (show firstE (L.take (j + 1)) = if firstE (L.take j) = 0 then chk L[j] else firstE (L.take j) by rw [HT.out, firstE_snoc])
      have HOk := Lib.hid (show okL (L.take (j + 1)) = okL (L.take j) ++ (if chk L[j] = 0 then enc L[j] else []) by rw [HT.out, okL_snoc])
      have HOl := Lib.hid (show (okL (L.take j)).length ≤ 640 by have := okL_len (L.take j); rw [hln] at this; omega)
      rcases HB.out with h0 | ⟨b, off, rfl, hk⟩
      · rw [h0] at hjl; simp at hjl
      · have hf := hk j hjl
        have hHC := hf.ch hch (by simp)
        generalize L[j] = x at *
        have HCk := Lib.hid (fun w => rcheck_any x w)
        have HTo := Lib.hid (fun w => to_any x w)
        have HRb := Lib.hid (fun (h : chk x = 0) w => rbytes_any h w)
        have HIns := Lib.hid hf
        obtain ⟨op, d, s, o, i⟩ := x
        unfold iv at *
        obtain ⟨c0, c1, c2, c3, c4⟩ := hHC
        simp only at c0 c1 c2 c3 c4
        by_cases hw0 : firstE (L.take j) = 0
        · rw [if_pos hw0] at HFs
          rw [hw0]
          by_cases hz : chk ⟨op, d, s, o, i⟩ = 0
          · have HZ := Lib.hid hz
            rw [hz] at HCk HFs
            clear hz hw0 hf hk hch hx hw hln
            · go_wp2_with fail
              with_reducible refine (HTo.out _).mono ?_
              rintro e w1 ⟨rfl, hc1⟩
              have HX1 := Lib.hid (HX.out.ch hc1 (by simp))
              have HW1 := Lib.hid (HW.out.ch hc1 (by simp))
              have HC1 := Lib.hid (HC.out.trans hc1)
              clear hc1
              go_wp2_with (at_builtin; go_must (refine wpList_append_own _ rfl _ _ 39 rfl w.heap.size 34 i0 (.agg #[.int .i64 0, .int .i64 0, .int .i64 0, .int .i64 0, .int .i64 0]) 5 40 Tryd.underlying39 hI hz0 hz1 hz2 rfl (by decide) _ j ((L.take j).flatMap fiv) rfl (by have := HX1.out; unfold IR at this; rw [HLn.out] at this; exact this.alloc _) ⟨w1.heap.size, 0, none⟩ 1 1 (fiv ⟨op, d, s, o, i⟩) rfl rfl (cells_five w1 ⟨op, d, s, o, i⟩ _) (by simp [fiv, Value.oneCell']) (by unfold maxLen; omega) (by omega) (by have := HC1.out.size; simp; omega) ?_); intro v2 w2 hown2 hgrow2 hnil2; refine Hid.out ?_)
              refine Lib.hid ?_
              have hx1 : (w1.alloc (.cells #[.int .i64 op, .int .i64 d, .int .i64 s, .int .i64 o, .int .i64 i] 34)).ownsRow w.heap.size 34 5 (.slice xa j xc) j ((L.take j).flatMap fiv) := by have := HX1.out; unfold IR at this; rw [HLn.out] at this; exact this.alloc _
              have HC2 := Lib.hid (own_new (HC1.out.alloc _) hgrow2 (Nat.le_refl _) hx1)
              have HX2 := Lib.hid (show IR w2 w.heap.size 34 v2 (L.take (j + 1)) by rw [HT.out]; exact IR.snoc (by rw [HLn.out]; exact hown2))
              have HW2 := Lib.hid (NB.grown (HW1.out.ch ((Ch.refl [] w1).alloc (.cells #[.int .i64 op, .int .i64 d, .int .i64 s, .int .i64 o, .int .i64 i] 34)) (by simp)) hx1 (by decide) hgrow2)
              have hfx := (HIns.out).ch HC2.out (by simp)
              obtain ⟨d0, d1, d2, d3, d4⟩ := hfx
              simp only at d0 d1 d2 d3 d4
              obtain ⟨xa2, xc2, rfl⟩ := own_form hown2
              clear hown2 hgrow2 hnil2 hx1 c0 c1 c2 c3 c4 HX1 HW1
              go_wp2_with fail
              with_reducible refine (HCk.out _).mono ?_
              rintro e w3 ⟨rfl, hc3⟩
              have HX3 := Lib.hid (HX2.out.ch hc3 (by simp))
              have HW3 := Lib.hid (HW2.out.ch hc3 (by simp))
              have HC3 := Lib.hid (HC2.out.trans hc3)
              have hfx := (HIns.out).ch HC3.out (by simp)
              obtain ⟨g0, g1, g2, g3, g4⟩ := hfx
              simp only at g0 g1 g2 g3 g4
              clear hc3 d0 d1 d2 d3 d4 HX2 HW2 HC2
              go_wp2_with fail
              with_reducible refine (HRb.out HZ.out _).mono ?_
              rintro e w4 ⟨v4, rfl, hnb4, hc4⟩
              have HX4 := Lib.hid (HX3.out.ch hc4 (by simp))
              have HW4 := Lib.hid (HW3.out.ch hc4 (by simp))
              have HC4 := Lib.hid (HC3.out.trans hc4)
              obtain ⟨na, nc, rfl, hby4, -⟩ := hnb4.form
              rw [enc_length]
              obtain ⟨nb, no, rfl, hcell⟩ : ∃ bb oo, na = some ⟨bb, oo, none⟩ ∧ ∀ q (hq : q < (enc ⟨op, d, s, o, i⟩).length), w4.cell? ⟨bb, oo + q, none⟩ = some (.int .u8 (enc ⟨op, d, s, o, i⟩)[q]) := by
                rcases hby4 with h0 | ⟨bb, oo, h1, h2⟩
                · have := congrArg List.length h0; simp [enc_length] at this
                · exact ⟨bb, oo, h1, h2⟩
              have hnews : ∀ q u, (u8s (enc ⟨op, d, s, o, i⟩))[q]? = some u → w4.cell? ((⟨nb, no, none⟩ : Addr).add q) = some u := by
                intro q u hq
                have hq8 : q < (enc ⟨op, d, s, o, i⟩).length := by have := (List.getElem?_eq_some_iff.1 hq).1; rwa [u8s_len] at this
                rw [addr_add, hcell q hq8, ← hq]
                simp [u8s, hq8]
              have HNw := Lib.hid hnews
              have hw4 := HW4.out
              have hwl := HOl.out
              obtain ⟨ql, hql⟩ : ∃ q, (okL (L.take j)).length = q := ⟨_, rfl⟩
              have HQl := Lib.hid hql
              unfold NB at hw4
              rw [hql] at hw4 hwl ⊢
              have HWo := Lib.hid hw4
              clear hnb4 hby4 hc4 hcell hnews hw4 hql HX3 HW3 HC3 g0 g1 g2 g3 g4
              go_wp2_with (at_builtin; go_must (refine wpList_append_own _ rfl _ _ 40 rfl w.heap.size 5 j0 (.int .u8 0) 1 1 Tryd.underlying40 hJ hy0 hy1 hy2 rfl (by decide) _ ql (u8s (okL (L.take j))) rfl HWo.out ⟨nb, no, none⟩ 8 nc (u8s (enc ⟨op, d, s, o, i⟩)) rfl (by rw [u8s_len, enc_length]) HNw.out (u8s_one _) (by unfold maxLen; omega) (by omega) (by have := HC4.out.size; omega) ?_); intro v5 w5 hown5 hgrow5 hnil5; refine Hid.out ?_)
              refine Lib.hid ?_
              have HC5 := Lib.hid (own_new HC4.out hgrow5 (Nat.le_refl _) HWo.out)
              have HX5 := Lib.hid (HX4.out.grown HWo.out (by decide) hgrow5)
              have HW5 := Lib.hid (show NB w5 w.heap.size v5 (okL (L.take (j + 1))) by
                rw [HOk.out, if_pos HZ.out]; exact NB.more (n := ql + 8) (by rw [HQl.out, enc_length]) hown5)
              clear hown5 hgrow5 hnil5 hwl
              go_wp2_with fail
              go_roundw
              case rel => exact ⟨j + 1, by omega, by go_num, by rw [HFs.out], HX5.out, HW5.out, HC5.out⟩
              case measure => simp [intOf]; omega
          · have HZ := Lib.hid hz
            have hzb : (chk ⟨op, d, s, o, i⟩ == 0) = false := by simpa using hz
            generalize chk ⟨op, d, s, o, i⟩ = c at *
            clear hz hw0 hf hk hch hx hw hln
            · go_wp2_with fail
              with_reducible refine (HTo.out _).mono ?_
              rintro e w1 ⟨rfl, hc1⟩
              have HX1 := Lib.hid (HX.out.ch hc1 (by simp))
              have HW1 := Lib.hid (HW.out.ch hc1 (by simp))
              have HC1 := Lib.hid (HC.out.trans hc1)
              clear hc1
              go_wp2_with (at_builtin; go_must (refine wpList_append_own _ rfl _ _ 39 rfl w.heap.size 34 i0 (.agg #[.int .i64 0, .int .i64 0, .int .i64 0, .int .i64 0, .int .i64 0]) 5 40 Tryd.underlying39 hI hz0 hz1 hz2 rfl (by decide) _ j ((L.take j).flatMap fiv) rfl (by have := HX1.out; unfold IR at this; rw [HLn.out] at this; exact this.alloc _) ⟨w1.heap.size, 0, none⟩ 1 1 (fiv ⟨op, d, s, o, i⟩) rfl rfl (cells_five w1 ⟨op, d, s, o, i⟩ _) (by simp [fiv, Value.oneCell']) (by unfold maxLen; omega) (by omega) (by have := HC1.out.size; simp; omega) ?_); intro v2 w2 hown2 hgrow2 hnil2; refine Hid.out ?_)
              refine Lib.hid ?_
              have hx1 : (w1.alloc (.cells #[.int .i64 op, .int .i64 d, .int .i64 s, .int .i64 o, .int .i64 i] 34)).ownsRow w.heap.size 34 5 (.slice xa j xc) j ((L.take j).flatMap fiv) := by have := HX1.out; unfold IR at this; rw [HLn.out] at this; exact this.alloc _
              have HC2 := Lib.hid (own_new (HC1.out.alloc _) hgrow2 (Nat.le_refl _) hx1)
              have HX2 := Lib.hid (show IR w2 w.heap.size 34 v2 (L.take (j + 1)) by rw [HT.out]; exact IR.snoc (by rw [HLn.out]; exact hown2))
              have HW2 := Lib.hid (NB.grown (HW1.out.ch ((Ch.refl [] w1).alloc (.cells #[.int .i64 op, .int .i64 d, .int .i64 s, .int .i64 o, .int .i64 i] 34)) (by simp)) hx1 (by decide) hgrow2)
              have hfx := (HIns.out).ch HC2.out (by simp)
              obtain ⟨d0, d1, d2, d3, d4⟩ := hfx
              simp only at d0 d1 d2 d3 d4
              obtain ⟨xa2, xc2, rfl⟩ := own_form hown2
              clear hown2 hgrow2 hnil2 hx1 c0 c1 c2 c3 c4 HX1 HW1
              go_wp2_with fail
              with_reducible refine (HCk.out _).mono ?_
              rintro e w3 ⟨rfl, hc3⟩
              have HX3 := Lib.hid (HX2.out.ch hc3 (by simp))
              have HW3 := Lib.hid (HW2.out.ch hc3 (by simp))
              have HC3 := Lib.hid (HC2.out.trans hc3)
              clear hc3 d0 d1 d2 d3 d4 HX2 HW2 HC2
              go_wp2_with fail
              go_roundw
              case rel => exact ⟨j + 1, by omega, by go_num, by rw [HFs.out], HX3.out, by rw [HOk.out, if_neg HZ.out, List.append_nil]; exact HW3.out, HC3.out⟩
              case measure => simp [intOf]; omega
        · rw [if_neg hw0] at HFs
          have hwb : (firstE (L.take j) == 0) = false := by simpa using hw0
          generalize firstE (L.take j) = f at *
          by_cases hz : chk ⟨op, d, s, o, i⟩ = 0
          · have HZ := Lib.hid hz
            rw [hz] at HCk
            clear hz hw0 hf hk hch hx hw hln
            · go_wp2_with fail
              with_reducible refine (HTo.out _).mono ?_
              rintro e w1 ⟨rfl, hc1⟩
              have HX1 := Lib.hid (HX.out.ch hc1 (by simp))
              have HW1 := Lib.hid (HW.out.ch hc1 (by simp))
              have HC1 := Lib.hid (HC.out.trans hc1)
              clear hc1
              go_wp2_with (at_builtin; go_must (refine wpList_append_own _ rfl _ _ 39 rfl w.heap.size 34 i0 (.agg #[.int .i64 0, .int .i64 0, .int .i64 0, .int .i64 0, .int .i64 0]) 5 40 Tryd.underlying39 hI hz0 hz1 hz2 rfl (by decide) _ j ((L.take j).flatMap fiv) rfl (by have := HX1.out; unfold IR at this; rw [HLn.out] at this; exact this.alloc _) ⟨w1.heap.size, 0, none⟩ 1 1 (fiv ⟨op, d, s, o, i⟩) rfl rfl (cells_five w1 ⟨op, d, s, o, i⟩ _) (by simp [fiv, Value.oneCell']) (by unfold maxLen; omega) (by omega) (by have := HC1.out.size; simp; omega) ?_); intro v2 w2 hown2 hgrow2 hnil2; refine Hid.out ?_)
              refine Lib.hid ?_
              have hx1 : (w1.alloc (.cells #[.int .i64 op, .int .i64 d, .int .i64 s, .int .i64 o, .int .i64 i] 34)).ownsRow w.heap.size 34 5 (.slice xa j xc) j ((L.take j).flatMap fiv) := by have := HX1.out; unfold IR at this; rw [HLn.out] at this; exact this.alloc _
              have HC2 := Lib.hid (own_new (HC1.out.alloc _) hgrow2 (Nat.le_refl _) hx1)
              have HX2 := Lib.hid (show IR w2 w.heap.size 34 v2 (L.take (j + 1)) by rw [HT.out]; exact IR.snoc (by rw [HLn.out]; exact hown2))
              have HW2 := Lib.hid (NB.grown (HW1.out.ch ((Ch.refl [] w1).alloc (.cells #[.int .i64 op, .int .i64 d, .int .i64 s, .int .i64 o, .int .i64 i] 34)) (by simp)) hx1 (by decide) hgrow2)
              have hfx := (HIns.out).ch HC2.out (by simp)
              obtain ⟨d0, d1, d2, d3, d4⟩ := hfx
              simp only at d0 d1 d2 d3 d4
              obtain ⟨xa2, xc2, rfl⟩ := own_form hown2
              clear hown2 hgrow2 hnil2 hx1 c0 c1 c2 c3 c4 HX1 HW1
              go_wp2_with fail
              with_reducible refine (HCk.out _).mono ?_
              rintro e w3 ⟨rfl, hc3⟩
              have HX3 := Lib.hid (HX2.out.ch hc3 (by simp))
              have HW3 := Lib.hid (HW2.out.ch hc3 (by simp))
              have HC3 := Lib.hid (HC2.out.trans hc3)
              have hfx := (HIns.out).ch HC3.out (by simp)
              obtain ⟨g0, g1, g2, g3, g4⟩ := hfx
              simp only at g0 g1 g2 g3 g4
              clear hc3 d0 d1 d2 d3 d4 HX2 HW2 HC2
              go_wp2_with fail
              with_reducible refine (HRb.out HZ.out _).mono ?_
              rintro e w4 ⟨v4, rfl, hnb4, hc4⟩
              have HX4 := Lib.hid (HX3.out.ch hc4 (by simp))
              have HW4 := Lib.hid (HW3.out.ch hc4 (by simp))
              have HC4 := Lib.hid (HC3.out.trans hc4)
              obtain ⟨na, nc, rfl, hby4, -⟩ := hnb4.form
              rw [enc_length]
              obtain ⟨nb, no, rfl, hcell⟩ : ∃ bb oo, na = some ⟨bb, oo, none⟩ ∧ ∀ q (hq : q < (enc ⟨op, d, s, o, i⟩).length), w4.cell? ⟨bb, oo + q, none⟩ = some (.int .u8 (enc ⟨op, d, s, o, i⟩)[q]) := by
                rcases hby4 with h0 | ⟨bb, oo, h1, h2⟩
                · have := congrArg List.length h0; simp [enc_length] at this
                · exact ⟨bb, oo, h1, h2⟩
              have hnews : ∀ q u, (u8s (enc ⟨op, d, s, o, i⟩))[q]? = some u → w4.cell? ((⟨nb, no, none⟩ : Addr).add q) = some u := by
                intro q u hq
                have hq8 : q < (enc ⟨op, d, s, o, i⟩).length := by have := (List.getElem?_eq_some_iff.1 hq).1; rwa [u8s_len] at this
                rw [addr_add, hcell q hq8, ← hq]
                simp [u8s, hq8]
              have HNw := Lib.hid hnews
              have hw4 := HW4.out
              have hwl := HOl.out
              obtain ⟨ql, hql⟩ : ∃ q, (okL (L.take j)).length = q := ⟨_, rfl⟩
              have HQl := Lib.hid hql
              unfold NB at hw4
              rw [hql] at hw4 hwl ⊢
              have HWo := Lib.hid hw4
              clear hnb4 hby4 hc4 hcell hnews hw4 hql HX3 HW3 HC3 g0 g1 g2 g3 g4
              go_wp2_with (at_builtin; go_must (refine wpList_append_own _ rfl _ _ 40 rfl w.heap.size 5 j0 (.int .u8 0) 1 1 Tryd.underlying40 hJ hy0 hy1 hy2 rfl (by decide) _ ql (u8s (okL (L.take j))) rfl HWo.out ⟨nb, no, none⟩ 8 nc (u8s (enc ⟨op, d, s, o, i⟩)) rfl (by rw [u8s_len, enc_length]) HNw.out (u8s_one _) (by unfold maxLen; omega) (by omega) (by have := HC4.out.size; omega) ?_); intro v5 w5 hown5 hgrow5 hnil5; refine Hid.out ?_)
              refine Lib.hid ?_
              have HC5 := Lib.hid (own_new HC4.out hgrow5 (Nat.le_refl _) HWo.out)
              have HX5 := Lib.hid (HX4.out.grown HWo.out (by decide) hgrow5)
              have HW5 := Lib.hid (show NB w5 w.heap.size v5 (okL (L.take (j + 1))) by
                rw [HOk.out, if_pos HZ.out]; exact NB.more (n := ql + 8) (by rw [HQl.out, enc_length]) hown5)
              clear hown5 hgrow5 hnil5 hwl
              go_wp2_with fail
              go_roundw
              case rel => exact ⟨j + 1, by omega, by go_num, by rw [HFs.out], HX5.out, HW5.out, HC5.out⟩
              case measure => simp [intOf]; omega
          · have HZ := Lib.hid hz
            have hzb : (chk ⟨op, d, s, o, i⟩ == 0) = false := by simpa using hz
            generalize chk ⟨op, d, s, o, i⟩ = c at *
            clear hz hw0 hf hk hch hx hw hln
            · go_wp2_with fail
              with_reducible refine (HTo.out _).mono ?_
              rintro e w1 ⟨rfl, hc1⟩
              have HX1 := Lib.hid (HX.out.ch hc1 (by simp))
              have HW1 := Lib.hid (HW.out.ch hc1 (by simp))
              have HC1 := Lib.hid (HC.out.trans hc1)
              clear hc1
              go_wp2_with (at_builtin; go_must (refine wpList_append_own _ rfl _ _ 39 rfl w.heap.size 34 i0 (.agg #[.int .i64 0, .int .i64 0, .int .i64 0, .int .i64 0, .int .i64 0]) 5 40 Tryd.underlying39 hI hz0 hz1 hz2 rfl (by decide) _ j ((L.take j).flatMap fiv) rfl (by have := HX1.out; unfold IR at this; rw [HLn.out] at this; exact this.alloc _) ⟨w1.heap.size, 0, none⟩ 1 1 (fiv ⟨op, d, s, o, i⟩) rfl rfl (cells_five w1 ⟨op, d, s, o, i⟩ _) (by simp [fiv, Value.oneCell']) (by unfold maxLen; omega) (by omega) (by have := HC1.out.size; simp; omega) ?_); intro v2 w2 hown2 hgrow2 hnil2; refine Hid.out ?_)
              refine Lib.hid ?_
              have hx1 : (w1.alloc (.cells #[.int .i64 op, .int .i64 d, .int .i64 s, .int .i64 o, .int .i64 i] 34)).ownsRow w.heap.size 34 5 (.slice xa j xc) j ((L.take j).flatMap fiv) := by have := HX1.out; unfold IR at this; rw [HLn.out] at this; exact this.alloc _
              have HC2 := Lib.hid (own_new (HC1.out.alloc _) hgrow2 (Nat.le_refl _) hx1)
              have HX2 := Lib.hid (show IR w2 w.heap.size 34 v2 (L.take (j + 1)) by rw [HT.out]; exact IR.snoc (by rw [HLn.out]; exact hown2))
              have HW2 := Lib.hid (NB.grown (HW1.out.ch ((Ch.refl [] w1).alloc (.cells #[.int .i64 op, .int .i64 d, .int .i64 s, .int .i64 o, .int .i64 i] 34)) (by simp)) hx1 (by decide) hgrow2)
              have hfx := (HIns.out).ch HC2.out (by simp)
              obtain ⟨d0, d1, d2, d3, d4⟩ := hfx
              simp only at d0 d1 d2 d3 d4
              obtain ⟨xa2, xc2, rfl⟩ := own_form hown2
              clear hown2 hgrow2 hnil2 hx1 c0 c1 c2 c3 c4 HX1 HW1
              go_wp2_with fail
              with_reducible refine (HCk.out _).mono ?_
              rintro e w3 ⟨rfl, hc3⟩
              have HX3 := Lib.hid (HX2.out.ch hc3 (by simp))
              have HW3 := Lib.hid (HW2.out.ch hc3 (by simp))
              have HC3 := Lib.hid (HC2.out.trans hc3)
              clear hc3 d0 d1 d2 d3 d4 HX2 HW2 HC2
              go_wp2_with fail
              go_roundw
              case rel => exact ⟨j + 1, by omega, by go_num, by rw [HFs.out], HX3.out, by rw [HOk.out, if_neg HZ.out, List.append_nil]; exact HW3.out, HC3.out⟩
              case measure => simp [intOf]; omega
    · obtain rfl : j = n := by omega
      have HTn := Lib.hid (show L.take j = L by rw [← HLl.out, List.take_length])
      rw [HTn.out] at HX HW
      rw [HTn.out]
      have hix : InsAt wr xa L := by
        obtain ⟨a', cap', e, h, -⟩ := HX.out.form
        obtain ⟨rfl, -, -⟩ : xa = a' ∧ j = L.length ∧ xc = cap' := by simpa using e
        exact h
      have hbw : BytesAt wr va (okL L) := by
        obtain ⟨a', cap', e, h, -⟩ := HW.out.form
        obtain ⟨rfl, -⟩ : va = a' ∧ vc = cap' := by simpa using e
        exact h
      have HBy := Lib.hid (bytes_any (cap := xc) HLl.out (by omega) hix HFit.out)
      by_cases hf : firstE L = 0
      · have HOL := Lib.hid (okL_all hf)
        have HDE := Lib.hid (decs_encL hf)
        have HAll := Lib.hid (firstE_all hf)
        have HLe := Lib.hid (encL_len L)
        have HF0 := Lib.hid hf
        rw [HOL.out] at hbw
        rw [hf, HOL.out, HLe.out, HLl.out]
        have HBW := Lib.hid hbw
        have HIX := Lib.hid hix
        clear hf hbw hix hx hw hch hlt hj hln HX HW
        go_wp2_with fail
        with_reducible refine HBy.out.mono ?_
        rintro e w1 ⟨he, hc1⟩
        rcases he with ⟨hne, -⟩ | ⟨-, v, rfl, hnb⟩
        · exact absurd HF0.out hne
        obtain ⟨ba, bc, hbv, hbb, hbl⟩ := hnb.form
        rw [HLe.out, HLl.out] at hbv
        subst hbv
        have hcapb : 8 * j ≤ bc ∧ bc ≤ 9223372036854775807 := by
          rcases hnb.2 with ⟨h1, h2⟩ | ⟨g, cp, cur, h1, -, -, h2, h3, -⟩
          · obtain ⟨-, h4, h5⟩ : ba = none ∧ 8 * j = 0 ∧ bc = 0 := by simpa using h1
            omega
          · obtain ⟨-, -, h5⟩ : ba = some ⟨g, 0, none⟩ ∧ 8 * j = (encL L).length ∧ bc = cp := by simpa using h1
            subst h5
            rw [HLe.out, HLl.out] at h2
            unfold maxLen at h3
            omega
        have HC1 := Lib.hid (HC.out.trans hc1)
        have HBB := Lib.hid hbb
        have HBW1 := Lib.hid (HBW.out.ch hc1 (by simp))
        have HIX1 := Lib.hid (HIX.out.ch hc1 (by simp))
        have HPa := Lib.hid (parse_any (cap := bc) (n := 8 * j) (m := j) (by rw [HLe.out, HLl.out]) (by omega) hcapb.1 hcapb.2 (encL_byte L) hbb (by omega) (fun i hi => by
          have hi2 : i < L.length := by rw [HLl.out]; exact hi
          rw [dec_encL HF0.out i hi2]; exact HAll.out i hi2) (.inl (by omega)))
        clear hnb hbb hbl hc1 hcapb
        go_wp2_with fail
        with_reducible refine HPa.out.mono ?_
        rintro e w2 ⟨hc2, he⟩
        obtain ⟨yv, rfl, hr⟩ : ∃ v, e = .returned (.tuple #[v, .int .i64 0, .int .i64 0]) ∧ IR w2 w1.heap.size 34 v (decs (encL L) j) := by
          rcases he with ⟨h, -⟩ | ⟨-, h, -⟩ | ⟨-, h⟩
          · omega
          · exact absurd rfl h
          · exact h
        rw [show decs (encL L) j = L by have := HDE.out; rwa [HLl.out] at this] at hr
        obtain ⟨ya, yc, rfl, hiy, -⟩ := hr.form
        rw [HLl.out]
        have HC2 := Lib.hid (HC1.out.trans hc2)
        have HIY := Lib.hid hiy
        have HIX2 := Lib.hid (HIX1.out.ch hc2 (by simp))
        have HS := Lib.hid (same_any bc vc (n := 8 * j) (l := encL L) (by rw [HLe.out, HLl.out]) (by omega) (HBB.out.ch hc2 (by simp)) (HBW1.out.ch hc2 (by simp)))
        clear he hr hiy hc2 HPa
        go_wp2_with fail
        with_reducible refine HS.out.mono ?_
        rintro e w3 ⟨rfl, hc3⟩
        have HC3 := Lib.hid (HC2.out.trans hc3)
        have HIX3 := Lib.hid (HIX2.out.ch hc3 (by simp))
        have HIY3 := Lib.hid (HIY.out.ch hc3 (by simp))
        clear hc3 HS
        go_wp2_with fail
        go_loopw [13] (fun x wr => ∃ k : Nat, x = .int .i64 (k : Int) ∧ k ≤ j ∧ Ch [] w3 wr) (fun x _ => j - (intOf x).toNat)
        case atStart => exact ⟨0, rfl, Nat.zero_le _, Ch.refl _ _⟩
        case round =>
          obtain ⟨k, rfl, hk, hch⟩ := hrel
          have HCr := Lib.hid hch
          by_cases hlt : k < j
          · have hkl : k < L.length := by rw [HLl.out]; exact hlt
            rcases HIX3.out.ch hch (by simp) with h0 | ⟨b1, o1, rfl, hk1⟩
            · rw [h0] at hkl; simp at hkl
            · rcases HIY3.out.ch hch (by simp) with h0 | ⟨b2, o2, rfl, hk2⟩
              · rw [h0] at hkl; simp at hkl
              · have hf1 := hk1 k hkl
                have hf2 := hk2 k hkl
                generalize L[k] = x at hf1 hf2
                have HNe := Lib.hid (fun w => ins_neq x x w)
                obtain ⟨op, d, s, o, i⟩ := x
                unfold iv at HNe
                simp only [decide_true, Bool.not_true] at HNe
                obtain ⟨c0, c1, c2, c3, c4⟩ := hf1
                obtain ⟨d0, d1, d2, d3, d4⟩ := hf2
                simp only at c0 c1 c2 c3 c4 d0 d1 d2 d3 d4
                have hn := HNe.out
                have hkm1 : (k : Int) < (j : Int) := by omega
                have hwk : IntKind.i64.wrap ((k : Int) + 1) = (k : Int) + 1 := by rw [IntKind.wrap_i64]; omega
                clear hk1 hk2 hkl hch
                go_wp2_with fail
                go_region
                go_wp2_with fail
                go_roundw
                case rel => exact ⟨k + 1, by go_num, by omega, HCr.out.drew⟩
                case measure => simp [intOf]; omega
          · obtain rfl : k = j := by omega
            have HCa := Lib.hid (HC3.out.trans hch)
            clear hlt hk hch
            go_wp2_with fail
            with_reducible refine (known_any (HT0.out.ch HCa.out)).mono ?_
            rintro e w4 ⟨rfl, hc4⟩
            have HC5 := Lib.hid (HCa.out.trans hc4)
            clear hc4
            go_wp2
            go_ret
            exact ⟨rfl, HC5.out.below _ (by simp) (Nat.le_refl _)⟩
      · have hfb : (firstE L == 0) = false := by simpa using hf
        have hfb2 : (firstE L != 0) = true := by simpa using hf
        have HFn := Lib.hid hf
        clear hbw hix hx hw hch hlt hj hln HX HW
        go_wp2_with fail
        with_reducible refine HBy.out.mono ?_
        rintro e w1 ⟨he, hc1⟩
        rcases he with ⟨-, rfl⟩ | ⟨h, -⟩
        · have HC1 := Lib.hid (HC.out.trans hc1)
          generalize firstE L = f at *
          clear hc1
          go_wp2_with fail
          with_reducible refine (known_any (HT0.out.ch HC1.out)).mono ?_
          rintro e w4 ⟨rfl, hc4⟩
          have HC5 := Lib.hid (HC1.out.trans hc4)
          clear hc4
          go_wp2
          go_ret
          exact ⟨rfl, HC5.out.below _ (by simp) (Nat.le_refl _)⟩
        · exact absurd h HFn.out
theorem bytes_card {a : Option Addr} {len cap : Nat} {w : World} (hT : Tb w) (h : len ≤ cap ∧ cap ≤ 9223372036854775807) (hz : ∃ L : List I5, L.length = len ∧ (∀ x ∈ L, Fit x) ∧ InsAt w a L) :
    Calls Tryd.prog 5 #[.slice a len cap] w fun e w' => e = .returned (.bool true) ∧ Below w.heap.size w w' := by
  obtain ⟨L, h1, h2, h3⟩ := hz
  exact bytes_law h.1 h.2 h1 h2 h3 hT
end Go.Proofs.YtgldkalagmjkfaaDoor
