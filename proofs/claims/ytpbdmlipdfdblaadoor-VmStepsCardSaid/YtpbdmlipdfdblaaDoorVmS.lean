/-
  VmSteps. (Written by gen/vm19s.py.)
-/
import Derived.Test.YtpbdmlipdfdblaaDoorVmR
import Derived.Test.YtpbdmlipdfdblaaDoorMgI
namespace Go.Proofs.YtpbdmlipdfdblaaDoor
open Go.RowKit Go.BigFrame

attribute [local go_sem] Oper.semAt_some

theorem tosm {w : World} {a : Option Addr} {m cap : Nat} {l : List V5} (hL : l.length = m) (hn : m ≤ 1000) (hV : ValsAt w a l) :
    Calls Tryd.prog 9 #[.slice a m cap] w fun e w' => ∃ va vc, e = .returned (.slice va m vc) ∧ ValsAt w' va l ∧ (va = none → m = 0 → vc = 0) ∧ Ch [] w w' := by
  refine (tos_any (cap := cap) hL hn hV).mono ?_
  rintro e w' ⟨v, rfl, hv, hc⟩
  obtain ⟨va, vc, rfl, hva, hvn, -⟩ := hv.form
  exact ⟨va, vc, by rw [hL], hva, by rw [hL] at hvn; exact hvn, hc⟩
theorem range_ch {S : List Nat} {w w' : World} {b o : Nat} {A : List Value} (h : w.rangeAt b o A) (hc : Ch S w w') (hb : b ∉ S) : w'.rangeAt b o A := fun j x hx => (hc.cell (p := ⟨b, o + j, none⟩) (cell_lt (h j x hx)) hb).trans (h j x hx)
theorem there_ch {S : List Nat} {w w' : World} {b : Nat} (h : w.there b 0 34) (hc : Ch S w w') (hb : b ∉ S) : w'.there b 0 34 := World.there_trap2 h hc hb
set_option maxRecDepth 100000 in
set_option maxHeartbeats 16000000 in
theorem steps_law {a0 a2 a3 : Option Addr} {n0 c0 n2 c2 n3 c3 : Nat} {L0 : List I5} {l0 X : List V5} {fuel nn : Int} {w : World} (hlen : L0.length = n0) (hfit0 : ∀ x ∈ L0, Fit x) (hI0 : InsAt w a0 L0)
    (hl2 : l0.length = n2) (hn2 : n2 ≤ c2) (hV2 : ValsAt w a2 l0) (hW2 : ∀ x ∈ l0, W64 x.n) (hl3 : X.length = n3) (hV3 : ValsAt w a3 X) (hW3 : ∀ x ∈ X, W64 x.n) (hT : Tb w) :
    Calls Tryd.prog 3 #[.slice a0 n0 c0, .int .i64 fuel, .slice a2 n2 c2, .slice a3 n3 c3, .int .i64 nn] w fun e w' => e = .returned (.bool true) ∧ Ch [] w w' := by
  obtain ⟨L, hLd⟩ : ∃ L, L0.take 64 = L := ⟨_, rfl⟩
  have hfit : ∀ x ∈ L, Fit x := by rw [← hLd]; exact take_fit hfit0 64
  have HCd := code64 (cap := c0) hlen hI0
  rw [hLd] at HCd
  replace HCd := Lib.hid HCd
  have HT := Lib.hid hT
  have HFit := Lib.hid hfit
  obtain ⟨m, hmin⟩ : ∃ m : Nat, (if (5 : Int) < (n2 : Int) then (5 : Int) else (n2 : Int)) = (m : Int) := ⟨min n2 5, by split <;> omega⟩
  obtain ⟨l, hLt⟩ : ∃ L, l0.take 5 = L := ⟨_, rfl⟩
  have hmm : m = min n2 5 := by split at hmin <;> omega
  have hL : l.length = m := by rw [← hLt, List.length_take]; omega
  have hW : ∀ x ∈ l, W64 x.n := by rw [← hLt]; exact fun x hx => hW2 x (List.mem_of_mem_take hx)
  have hV : ValsAt w a2 l := by
    rw [← hLt]
    rcases hV2 with h | ⟨b, off, e, h⟩
    · exact .inl (by rw [h]; rfl)
    · exact .inr ⟨b, off, e, fun i hi => by
        have := h i (by simp at hi; omega)
        rwa [List.getElem_take]⟩
  have hm5 : m ≤ 5 := by omega
  have hmc : m ≤ c2 := by omega
  have hmin2 : min (n2 : Int) 5 = (m : Int) := by omega
  have hneg : decide ((m : Int) < 0) = false := decide_eq_false (by omega)
  obtain ⟨q, hq⟩ : ∃ q : Nat, q = wdN fuel := ⟨_, rfl⟩
  obtain ⟨r, hr⟩ : ∃ r : Nat, r = q % 256 := ⟨_, rfl⟩
  have g1 : IntKind.u64.wrap fuel = (q : Int) := by rw [IntKind.wrap_u64, hq]; unfold wdN; omega
  have g2 : (q : Int).tmod 256 = (r : Int) := by rw [Int.tmod_eq_emod_of_nonneg (by omega)]; omega
  have hr256 : r < 256 := by omega
  have g3 : IntKind.i64.wrap (r : Int) = (r : Int) := by rw [IntKind.wrap_i64]; clear g1 g2 hq hr; omega
  obtain ⟨u, hu⟩ : ∃ u : Nat, u = 1 + r := ⟨_, rfl⟩
  have g4 : IntKind.i64.wrap (1 + (r : Int)) = (u : Int) := by rw [IntKind.wrap_i64]; clear g1 g2 g3 hq hr; omega
  have HU := Lib.hid (show 1 ≤ u ∧ u ≤ 256 by omega)
  obtain ⟨q2, hq2⟩ : ∃ q : Nat, q = wdN nn := ⟨_, rfl⟩
  obtain ⟨r2, hr2⟩ : ∃ r : Nat, r = q2 % 20 := ⟨_, rfl⟩
  have f1 : IntKind.u64.wrap nn = (q2 : Int) := by rw [IntKind.wrap_u64, hq2]; unfold wdN; omega
  have f2 : (q2 : Int).tmod 20 = (r2 : Int) := by rw [Int.tmod_eq_emod_of_nonneg (by omega)]; omega
  have hr20 : r2 < 20 := by omega
  have f3 : IntKind.i64.wrap (r2 : Int) = (r2 : Int) := by rw [IntKind.wrap_i64]; clear f1 f2 g1 g2 g3 g4 hq2 hr2; omega
  obtain ⟨N, hN⟩ : ∃ N : Nat, N = 1 + r2 := ⟨_, rfl⟩
  have f4 : IntKind.i64.wrap (1 + (r2 : Int)) = (N : Int) := by rw [IntKind.wrap_i64]; clear f1 f2 f3 g1 g2 g3 g4 hq2 hr2; omega
  have HNN := Lib.hid (show 1 ≤ N ∧ N ≤ 20 by omega)
  have HV := Lib.hid hV
  have HL := Lib.hid hL
  have HM5 := Lib.hid hm5
  have HW := Lib.hid hW
  have HX := Lib.hid hV3
  have HXl := Lib.hid hl3
  have HXw := Lib.hid hW3
  have HTs := Lib.hid (fun W (h : Ch [] w W) => tosm (cap := c2) hL (by omega) (hV.ch h (by simp)))
  clear hlen hfit0 hI0 hLd hT hq hr hu hfit hr256 hq2 hr2 hN hr20 hmm hL hW hV hm5 hLt hl2 hV2 hW2 hl3 hV3 hW3 hn2
  go_enter Tryd.func3, Tryd.ntmps3
  go_wp2_with fail
  with_reducible refine HCd.out.mono ?_
  rintro e w2 ⟨ra, rc, rfl, hIn, hc2⟩
  obtain ⟨w3, hw3⟩ : ∃ W, w2.alloc (.cells #[.slice ra L.length rc, .bool true] 27) = W := ⟨_, rfl⟩
  have hc3 : Ch [] w2 w3 := by rw [← hw3]; exact (Ch.refl [] w2).alloc _
  obtain ⟨PB, hPB⟩ : ∃ k, w2.heap.size = k := ⟨_, rfl⟩
  have htw : Two w3 PB (.slice ra L.length rc) (.bool true) := by rw [← hw3, ← hPB]; exact Two.new w2 _ _ 27
  have HTw := Lib.hid htw
  have t0 := htw.c0
  have t1 := htw.c1
  have HPB := Lib.hid hPB
  have HIn := Lib.hid (hIn.ch hc3 (by simp))
  have HC3 := Lib.hid (hc2.trans hc3)
  have HW3 := Lib.hid hw3
  have HKn := Lib.hid (fun W (h : Ch [] w3 W) => known19 (HT.out.ch (HC3.out.trans h)))
  clear hIn hc2 hc3 hw3 hPB HCd htw
  go_wp2_with fail
  rw [HPB.out, HW3.out]
  by_cases hr : (res L true).2 = 0
  · obtain ⟨cb, off, rfl, hf⟩ : ∃ cb off, ra = some ⟨cb, off, none⟩ ∧ ∀ i (hi : i < L.length), FiveO w3 cb (off + i * 5) L[i] := by
      rcases HIn.out with h0 | h
      · exact absurd hr (res_bad L true h0)
      · exact h
    have HNew := Lib.hid (fun W (h : Ch [] w3 W) va vc (hv : ValsAt W va l) (hn : va = none → m = 0 → vc = 0) => vnew_any (n := L.length) (cap := rc) (sl := true) (a := va) (m := m) (mc := vc) (l := l) rfl HFit.out (fun i hi => (hf i hi).ch h (by simp)) (HT.out.ch (HC3.out.trans h)) hr HU.out HL.out HM5.out hv hn)
    have HR := Lib.hid (RP.of HFit.out hr)
    clear hf hr HIn HFit
    go_region_held (fun w' => w'.cell? ⟨PB, 0, none⟩ = some (.slice (some ⟨cb, off, none⟩) L.length rc) ∧ w'.cell? ⟨PB, 1, none⟩ = some (.bool true)) (go_keep) (first
      | (with_reducible refine (HTs.out _ HC3.out.drew).mono ?_; rintro e w4 ⟨va, vc, rfl, hva, hvn, hc4⟩; have hc34 := (Ch.refl [] w3).drew.trans hc4; have HC4 := Lib.hid hc34; have HVa := Lib.hid hva; have HVn := Lib.hid hvn; have u0 := (hc34.cell (p := ⟨PB, 0, none⟩) (cell_lt t0) (by simp)).trans t0; have u1 := (hc34.cell (p := ⟨PB, 1, none⟩) (cell_lt t1) (by simp)).trans t1; clear hc4 hc34 hva hvn)
      | (with_reducible refine (HNew.out _ HC4.out va vc HVa.out HVn.out).mono ?_; rintro e w5 ⟨b1, c1, rfl, hB, hc5, hbl, hcl⟩; have HB5 := Lib.hid hB; have hc35 := HC4.out.trans hc5; have HC5 := Lib.hid hc35; have HS1 := Lib.hid (show w3.heap.size ≤ b1 ∧ w3.heap.size ≤ c1 from by have := HC4.out.size; omega); have v0 := (hc5.cell (p := ⟨PB, 0, none⟩) (cell_lt u0) (by simp)).trans u0; have v1 := (hc5.cell (p := ⟨PB, 1, none⟩) (cell_lt u1) (by simp)).trans u1; clear hB hc5 hc35 hbl hcl)
      | fail)
    clear t0 t1 u0 u1
    have HS5 := Lib.hid (show b1 < w5.heap.size ∧ c1 < w5.heap.size from ⟨HB5.out.lt, cell_lt (HB5.out.i 0 HR.out.pos).c0⟩)
    go_wp2_with fail
    go_region_held (fun w' => w'.cell? ⟨PB, 0, none⟩ = some (.slice (some ⟨cb, off, none⟩) L.length rc) ∧ w'.cell? ⟨PB, 1, none⟩ = some (.bool true)) (go_keep) (first
      | (with_reducible refine (HTs.out _ (HC3.out.trans HC5.out).drew).mono ?_; rintro e w6 ⟨vb, vd, rfl, hva, hvn, hc6⟩; have hc56 := (Ch.refl [] w5).drew.trans hc6; have HC6 := Lib.hid hc56; have HVb := Lib.hid hva; have HVm := Lib.hid hvn; have t0 := (hc56.cell (p := ⟨PB, 0, none⟩) (cell_lt v0) (by simp)).trans v0; have t1 := (hc56.cell (p := ⟨PB, 1, none⟩) (cell_lt v1) (by simp)).trans v1; clear hc6 hc56 hva hvn)
      | (with_reducible refine (HNew.out _ (HC5.out.trans HC6.out) vb vd HVb.out HVm.out).mono ?_; rintro e w7 ⟨b2, c2', rfl, hB, hc7, hbl, hcl⟩; have HB7 := Lib.hid hB; have hc57 := HC6.out.trans hc7; have HA7 := Lib.hid (HB5.out.quiet hc57); have HC7 := Lib.hid (HC5.out.trans hc57); have HS2 := Lib.hid (show w5.heap.size ≤ b2 ∧ w5.heap.size ≤ c2' from by have := HC6.out.size; omega); have u0 := (hc7.cell (p := ⟨PB, 0, none⟩) (cell_lt t0) (by simp)).trans t0; have u1 := (hc7.cell (p := ⟨PB, 1, none⟩) (cell_lt t1) (by simp)).trans t1; clear hB hc7 hc57 hbl hcl)
      | fail)
    clear t0 t1 v0 v1 u0 u1 HNew HTs HTw
    have HD := Lib.hid (show (b1 ∉ [b2] ∧ c1 ∉ [b2] ∧ b2 ∉ [b1] ∧ c2' ∉ [b1]) ∧ (∀ k ∈ [b1], w3.heap.size ≤ k) ∧ (∀ k ∈ [b2], w3.heap.size ≤ k) from by have := HS5.out; have := HS2.out; have := HS1.out; simp; omega)
    have HG0 := Lib.hid (GS.new HR.out HU.out.2 HW.out)
    clear HB5 HC5 HC6 HS1 HS2 HS5 HVa HVn HVb HVm
    go_wp2_with fail
    go_loopw [18] (fun i wr => ∃ (j : Nat) (s : RNS), i = .int .i64 (j : Int) ∧ j ≤ 61 ∧ RB wr b1 c1 L s ∧ RB wr b2 c2' L s ∧ GS L s ∧ Ch [] w3 wr) (fun i _ => 61 - (intOf i).toNat)
    case atStart => exact ⟨0, newS u l, rfl, by decide, HA7.out, HB7.out, HG0.out, HC7.out⟩
    case round =>
      obtain ⟨j, s, rfl, hj, hA, hB, hg, hc⟩ := hrel
      have HA := Lib.hid hA
      have HB := Lib.hid hB
      have HG := Lib.hid hg
      have HC := Lib.hid hc
      clear hA hB hg hc
      by_cases hgo : j ≤ n3 ∧ j ≤ 60
      · obtain ⟨h1, h2⟩ := hgo
        have h1' : (j : Int) ≤ (n3 : Int) := by omega
        have h2' : (j : Int) ≤ 60 := by omega
        have HJ := Lib.hid h2
        have hw : IntKind.i64.wrap ((j : Int) + 1) = ((j + 1 : Nat) : Int) := by rw [IntKind.wrap_i64]; omega
        obtain ⟨s1, hs1⟩ : ∃ s1, goS L 300 s = s1 := ⟨_, rfl⟩
        have hk1 : s1.t.k ≠ 0 := by rw [← hs1]; exact goS_ends L 300 s (by have := HG.out.u; omega)
        have hgs1 : GS L s1 := by rw [← hs1]; exact HG.out.go HR.out 300
        obtain ⟨A, hAd⟩ : ∃ A, tl s1.t = A := ⟨_, rfl⟩
        have hl := tl_len s1.t
        have ho := tl_one s1.t
        have ha0 : (tl s1.t)[0]? = some (.int .i64 s1.t.k) := rfl
        have hne := neq_trap s1.t
        rw [hAd] at hl ho ha0 hne
        have HGa := Lib.hid (show Calls Tryd.prog 12 #[.pointer (some ⟨b1, 0, none⟩), .int .i64 300] wr fun r w' => r = .returned (.agg A.toArray) ∧ RB w' b1 c1 L s1 ∧ Ch [b1] wr w' from by
          have := go_any HA.out HR.out HG.out (n := 300) (by decide)
          rw [show (300 : Int).toNat = 300 from rfl, hs1, hAd] at this
          exact this)
        have HEnd := Lib.hid (show ∀ M, (goS L M s).t.k ≠ 0 → goS L M s = s1 from fun M h => by rw [← hs1] at hk1 ⊢; exact goS_same h hk1)
        have HL34 := Lib.hid hl
        have HO1 := Lib.hid ho
        have HA0 := Lib.hid ha0
        have HNe := Lib.hid hne
        have HK1 := Lib.hid hk1
        have HG1 := Lib.hid hgs1
        have HAd := Lib.hid hAd
        clear h1 h2 hs1 hk1 hgs1 hAd hl ho ha0 hne
        go_wp2_with fail
        with_reducible refine HGa.out.mono ?_
        rintro e w8 ⟨rfl, hA8, hc8⟩
        obtain ⟨wb, wc, hwb, htb, hwc, hrc, htc, hcc⟩ := new_trap w8 HL34.out
        obtain ⟨T, hTd⟩ : ∃ T, w8.heap.size = T := ⟨_, rfl⟩
        rw [hTd] at htb hwc hrc htc
        have HTd := Lib.hid hTd
        have HWb := Lib.hid hwb
        have HWc := Lib.hid hwc
        have HTb := Lib.hid htb
        have HTr := Lib.hid hrc
        have HAc := Lib.hid (hA8.quiet hcc)
        have HBc := Lib.hid ((HB.out.ch hc8 HD.out.1.2.2.1 HD.out.1.2.2.2).quiet hcc)
        have HCc := Lib.hid ((HC.out.fresh hc8 HD.out.2.1).trans hcc)
        have HNT := Lib.hid (show T ∉ [b2] from by have := (HB.out.ch hc8 HD.out.1.2.2.1 HD.out.1.2.2.2).lt; simp; omega)
        have HGb := go_any HBc.out HR.out HG.out (n := (N : Int)) (by have := HNN.out; omega)
        rw [Int.toNat_natCast] at HGb
        obtain ⟨B, hBd⟩ : ∃ B, tl (goS L N s).t = B := ⟨_, rfl⟩
        have hl := tl_len (goS L N s).t
        have ho := tl_one (goS L N s).t
        rw [hBd] at HGb hl ho
        replace HGb := Lib.hid HGb
        have HLB := Lib.hid hl
        have HOB := Lib.hid ho
        have HBd := Lib.hid hBd
        clear hA8 hc8 hwb htb hwc hrc htc hcc hTd hl ho hBd HGa HA HB
        go_wp2_with (first
          | ((with_reducible show wpList _ _ _ (Oper.mk _ (Op.alloc 44) _ _ _ _ :: _) _ _); refine wpList_allocZ zT rfl (by rfl) ?_; rw [HTd.out, HWb.out])
          | ((with_reducible show wpList _ _ _ (Oper.mk _ (Op.store 44 _ _) _ _ _ _ :: _) _ _); refine wpList_writeA rfl HTb.out HL34.out HO1.out (by rfl) (by rfl) (by rfl) ?_; rw [HWc.out])
          | fail)
        with_reducible refine HGb.out.mono ?_
        rintro e w9 ⟨rfl, hB9, hc9⟩
        obtain ⟨wd, we, hwd, htd, hwe, hre, hte, hce⟩ := new_trap w9 HLB.out
        obtain ⟨U, hUd⟩ : ∃ U, w9.heap.size = U := ⟨_, rfl⟩
        rw [hUd] at htd hwe hre hte
        have HUd := Lib.hid hUd
        have HWd := Lib.hid hwd
        have HWe := Lib.hid hwe
        have HTd2 := Lib.hid htd
        have HUr := Lib.hid hre
        have HUt := Lib.hid hte
        have HBe := Lib.hid (hB9.quiet hce)
        have HAe := Lib.hid ((HAc.out.ch hc9 HD.out.1.1 HD.out.1.2.1).quiet hce)
        have HCe := Lib.hid ((HCc.out.fresh hc9 HD.out.2.2).trans hce)
        have HTe := Lib.hid (range_ch (range_ch HTr.out hc9 HNT.out) hce (by simp))
        have HNU := Lib.hid (show U ∉ [b2] ∧ T ∉ [U] from by have h1 := hB9.lt; have h2 := (range_ch HTr.out hc9 HNT.out); have h3 : T < w9.heap.size := cell_lt (h2 0 _ HA0.out); simp; omega)
        have HNAU := Lib.hid (show (b1 ∉ [U] ∧ c1 ∉ [U]) ∧ (b2 ∉ [U] ∧ c2' ∉ [U]) from by
          have h1 := hB9.lt
          have h2 := (HAc.out.ch hc9 HD.out.1.1 HD.out.1.2.1).lt
          have h3 : c1 < w9.heap.size := cell_lt ((HAc.out.ch hc9 HD.out.1.1 HD.out.1.2.1).i 0 HR.out.pos).c0
          have h4 : c2' < w9.heap.size := cell_lt (hB9.i 0 HR.out.pos).c0
          simp; omega)
        have HUw := Lib.hid (show ∀ k ∈ [U], w3.heap.size ≤ k from by have := (HCc.out.fresh hc9 HD.out.2.2).size; simp; omega)
        clear hB9 hc9 hwd htd hwe hre hte hce hUd HGb
        go_wp2_with (first
          | ((with_reducible show wpList _ _ _ (Oper.mk _ (Op.alloc 44) _ _ _ _ :: _) _ _); refine wpList_allocZ zT rfl (by rfl) ?_; rw [HUd.out, HWd.out])
          | ((with_reducible show wpList _ _ _ (Oper.mk _ (Op.store 44 _ _) _ _ _ _ :: _) _ _); refine wpList_writeA rfl HTd2.out HLB.out HOB.out (by rfl) (by rfl) (by rfl) ?_; rw [HWe.out])
          | fail)
        go_loopw [21] (fun k wr => ∃ (M : Nat), k = .int .i64 (M : Int) ∧ M ≤ 256 ∧ RB wr b1 c1 L s1 ∧ RB wr b2 c2' L (goS L (N * (M + 1)) s) ∧ wr.rangeAt U 0 (tl (goS L (N * (M + 1)) s).t) ∧ wr.there U 0 34 ∧ wr.rangeAt T 0 A ∧ Ch [] w3 wr) (fun k _ => 300 - (intOf k).toNat)
        case atStart => exact ⟨0, rfl, by decide, HAe.out, by rw [show N * (0 + 1) = N by omega]; exact HBe.out, by rw [show N * (0 + 1) = N by omega, HBd.out]; exact HUr.out, HUt.out, HTe.out, HCe.out⟩
        case round =>
          obtain ⟨M, rfl, hM, hA, hB, hu, ht, hT, hc⟩ := hrel
          have HA := Lib.hid hA
          have HB := Lib.hid hB
          have HUh := Lib.hid ht
          have HT9 := Lib.hid hT
          have HC9 := Lib.hid hc
          obtain ⟨sm, hsm⟩ : ∃ sm, goS L (N * (M + 1)) s = sm := ⟨_, rfl⟩
          have hrun : sm.t.k = 0 → M + 1 ≤ 256 := fun e => by
            have h256 := HG.out.u
            have hN1 := HNN.out.1
            rcases Nat.lt_or_ge s.u (N * (M + 1)) with h | h
            · exact absurd e (by rw [← hsm]; exact goS_ends L _ s h)
            · have : 1 * (M + 1) ≤ N * (M + 1) := Nat.mul_le_mul_right _ hN1
              omega
          rw [hsm] at HB hB hu
          have hu0 : _root_.Go.World.cell? _ ⟨U, 0, none⟩ = some (.int .i64 sm.t.k) := hu 0 _ rfl
          have HSm := Lib.hid hsm
          obtain ⟨km, hkm⟩ : ∃ km, sm.t.k = km := ⟨_, rfl⟩
          rw [hkm] at hu0 hrun
          have HKm := Lib.hid hkm
          have hwM : IntKind.i64.wrap ((M : Int) + 1) = ((M + 1 : Nat) : Int) := by rw [IntKind.wrap_i64]; omega
          have hM4 : (M : Int) < 300 := by omega
          by_cases hk0 : km = 0
          · subst hk0
            have HM := Lib.hid (hrun rfl)
            have HGb := go_any HB.out HR.out (by rw [← hsm]; exact HG.out.go HR.out _) (n := (N : Int)) (by have := HNN.out; omega)
            rw [Int.toNat_natCast] at HGb
            have HNx := Lib.hid (show goS L N sm = goS L (N * (M + 1 + 1)) s from by rw [← hsm, ← goS_add, Nat.mul_add N (M + 1) 1, Nat.mul_one])
            obtain ⟨B2, hB2⟩ : ∃ B2, tl (goS L N sm).t = B2 := ⟨_, rfl⟩
            have hl := tl_len (goS L N sm).t
            have ho := tl_one (goS L N sm).t
            rw [hB2] at HGb hl ho
            replace HGb := Lib.hid HGb
            have HLB2 := Lib.hid hl
            have HOB2 := Lib.hid ho
            have HB2d := Lib.hid hB2
            clear hA hB hu ht hT hc hsm hrun hkm hl ho hB2 hM
            go_wp2_with fail
            with_reducible refine HGb.out.mono ?_
            rintro e x1 ⟨rfl, hx1, hd1⟩
            have hth := there_ch HUh.out hd1 HNU.out.1
            have HTh := Lib.hid hth
            have HRel := Lib.hid (show RB (x1.setCells U 0 B2) b1 c1 L s1 ∧ RB (x1.setCells U 0 B2) b2 c2' L (goS L (N * (M + 1 + 1)) s) ∧ (x1.setCells U 0 B2).rangeAt U 0 (tl (goS L (N * (M + 1 + 1)) s).t) ∧ (x1.setCells U 0 B2).there U 0 34 ∧ (x1.setCells U 0 B2).rangeAt T 0 A ∧ Ch [] w3 (x1.setCells U 0 B2) from by
              have hcs := chCells x1 U B2 0
              refine ⟨(HA.out.ch hd1 HD.out.1.1 HD.out.1.2.1).ch hcs HNAU.out.1.1 HNAU.out.1.2, ?_, ?_, World.there_setCells hth U 0 B2, range_ch (range_ch HT9.out hd1 HNT.out) hcs HNU.out.2, (HC9.out.fresh hd1 HD.out.2.2).fresh hcs HUw.out⟩
              · rw [← HNx.out]; exact hx1.ch hcs HNAU.out.2.1 HNAU.out.2.2
              · rw [← HNx.out, HB2d.out]; exact World.rangeAt_setCells_same x1 U 0 B2 (by rw [HLB2.out]; exact hth))
            clear hx1 hd1 hth HGb hu0
            go_wp2_with (first
              | ((with_reducible show wpList _ _ _ (Oper.mk _ (Op.store 44 _ _) _ _ _ _ :: _) _ _); refine wpList_writeA rfl HTh.out HLB2.out HOB2.out (by rfl) (by rfl) (by rfl) ?_)
              | fail)
            go_roundw
            case rel => exact ⟨M + 1, rfl, by have := HM.out; omega, HRel.out⟩
            case measure => have := HM.out; simp [intOf]; omega
          · have ekm : (km == 0) = false := by rw [beq_eq_false_iff_ne]; exact hk0
            obtain rfl : sm = s1 := by rw [← hsm]; exact HEnd.out _ (by rw [hsm, hkm]; exact hk0)
            rw [HAd.out] at hu
            have HUr9 := Lib.hid hu
            have hT0 := hT 0 _ HA0.out
            rw [hkm] at hT0
            simp only [Nat.zero_add] at hT0
            have HFa := fuel_any hA
            have HFb := fuel_any hB
            have HPa := place_any hA
            have HPb := place_any hB
            have HCa := codeE_any hA
            have HCb := codeE_any hB
            have HRa := result_any hA
            have HRb := result_any hB
            obtain ⟨z1, hz1⟩ : ∃ z : Int, (sm.u : Int) = z := ⟨_, rfl⟩
            obtain ⟨z2, hz2⟩ : ∃ z : Int, (sm.v : Int) = z := ⟨_, rfl⟩
            rw [hz1] at HFa HFb
            rw [hz2] at HRa HRb
            generalize sm.p = z3 at HPa HPb
            generalize sm.e = z4 at HCa HCb
            replace HFa := Lib.hid HFa
            replace HFb := Lib.hid HFb
            replace HPa := Lib.hid HPa
            replace HPb := Lib.hid HPb
            replace HCa := Lib.hid HCa
            replace HCb := Lib.hid HCb
            replace HRa := Lib.hid HRa
            replace HRb := Lib.hid HRb
            have hne := HNe.out
            clear hu hT hA hB hc ht hrun hsm hz1 hz2 hM hkm
            by_cases hk1 : km = 1
            · subst hk1
              go_wp2_with (first
                | ((with_reducible show wpList _ _ _ (Oper.mk _ (Op.load 44 _) _ _ _ _ :: _) _ _); refine wpList_readA rfl HL34.out HT9.out (by rfl) (by rfl) ?_)
                | ((with_reducible show wpList _ _ _ (Oper.mk _ (Op.load 44 _) _ _ _ _ :: _) _ _); refine wpList_readA rfl HL34.out HUr9.out (by rfl) (by rfl) ?_)
                | (with_reducible refine HFa.out.mono ?_; rintro e y0 ⟨rfl, rfl⟩)
                | (with_reducible refine HFb.out.mono ?_; rintro e y0 ⟨rfl, rfl⟩)
                | (with_reducible refine HPa.out.mono ?_; rintro e y0 ⟨rfl, rfl⟩)
                | (with_reducible refine HPb.out.mono ?_; rintro e y0 ⟨rfl, rfl⟩)
                | (with_reducible refine HCa.out.mono ?_; rintro e y0 ⟨rfl, rfl⟩)
                | (with_reducible refine HCb.out.mono ?_; rintro e y0 ⟨rfl, rfl⟩)
                | (with_reducible refine HRa.out.mono ?_; rintro e y0 ⟨rfl, rfl⟩)
                | (with_reducible refine HRb.out.mono ?_; rintro e y0 ⟨rfl, rfl⟩)
                | fail)
              with_reducible refine (HKn.out _ HC9.out).mono ?_
              rintro e y1 ⟨rfl, hd9⟩
              have HD9 := Lib.hid (HC3.out.trans (HC9.out.trans hd9))
              clear hd9
              go_wp2_with fail
              go_ret
              exact ⟨rfl, HD9.out⟩
            · have ek1 : (km == 1) = false := by rw [beq_eq_false_iff_ne]; exact hk1
              by_cases hj3 : j = n3
              · have ej3 : ((j : Int) == (n3 : Int)) = true := by rw [hj3]; exact beq_self_eq_true _
                go_wp2_with (first
                  | ((with_reducible show wpList _ _ _ (Oper.mk _ (Op.load 44 _) _ _ _ _ :: _) _ _); refine wpList_readA rfl HL34.out HT9.out (by rfl) (by rfl) ?_)
                  | ((with_reducible show wpList _ _ _ (Oper.mk _ (Op.load 44 _) _ _ _ _ :: _) _ _); refine wpList_readA rfl HL34.out HUr9.out (by rfl) (by rfl) ?_)
                  | (with_reducible refine HFa.out.mono ?_; rintro e y0 ⟨rfl, rfl⟩)
                  | (with_reducible refine HFb.out.mono ?_; rintro e y0 ⟨rfl, rfl⟩)
                  | (with_reducible refine HPa.out.mono ?_; rintro e y0 ⟨rfl, rfl⟩)
                  | (with_reducible refine HPb.out.mono ?_; rintro e y0 ⟨rfl, rfl⟩)
                  | (with_reducible refine HCa.out.mono ?_; rintro e y0 ⟨rfl, rfl⟩)
                  | (with_reducible refine HCb.out.mono ?_; rintro e y0 ⟨rfl, rfl⟩)
                  | (with_reducible refine HRa.out.mono ?_; rintro e y0 ⟨rfl, rfl⟩)
                  | (with_reducible refine HRb.out.mono ?_; rintro e y0 ⟨rfl, rfl⟩)
                  | fail)
                with_reducible refine (HKn.out _ HC9.out).mono ?_
                rintro e y1 ⟨rfl, hd9⟩
                have HD9 := Lib.hid (HC3.out.trans (HC9.out.trans hd9))
                clear hd9
                go_wp2_with fail
                go_ret
                exact ⟨rfl, HD9.out⟩
              · have ej3 : ((j : Int) == (n3 : Int)) = false := by rw [beq_eq_false_iff_ne]; omega
                by_cases hj6 : j = 60
                · have ej6 : ((j : Int) == 60) = true := by rw [hj6]; rfl
                  go_wp2_with (first
                    | ((with_reducible show wpList _ _ _ (Oper.mk _ (Op.load 44 _) _ _ _ _ :: _) _ _); refine wpList_readA rfl HL34.out HT9.out (by rfl) (by rfl) ?_)
                    | ((with_reducible show wpList _ _ _ (Oper.mk _ (Op.load 44 _) _ _ _ _ :: _) _ _); refine wpList_readA rfl HL34.out HUr9.out (by rfl) (by rfl) ?_)
                    | (with_reducible refine HFa.out.mono ?_; rintro e y0 ⟨rfl, rfl⟩)
                    | (with_reducible refine HFb.out.mono ?_; rintro e y0 ⟨rfl, rfl⟩)
                    | (with_reducible refine HPa.out.mono ?_; rintro e y0 ⟨rfl, rfl⟩)
                    | (with_reducible refine HPb.out.mono ?_; rintro e y0 ⟨rfl, rfl⟩)
                    | (with_reducible refine HCa.out.mono ?_; rintro e y0 ⟨rfl, rfl⟩)
                    | (with_reducible refine HCb.out.mono ?_; rintro e y0 ⟨rfl, rfl⟩)
                    | (with_reducible refine HRa.out.mono ?_; rintro e y0 ⟨rfl, rfl⟩)
                    | (with_reducible refine HRb.out.mono ?_; rintro e y0 ⟨rfl, rfl⟩)
                    | fail)
                  with_reducible refine (HKn.out _ HC9.out).mono ?_
                  rintro e y1 ⟨rfl, hd9⟩
                  have HD9 := Lib.hid (HC3.out.trans (HC9.out.trans hd9))
                  clear hd9
                  go_wp2_with fail
                  go_ret
                  exact ⟨rfl, HD9.out⟩
                · have ej6 : ((j : Int) == 60) = false := by rw [beq_eq_false_iff_ne]; omega
                  have hjX : j < X.length := by rw [HXl.out]; omega
                  have hj9 : (j : Int) < (n3 : Int) := by omega
                  rcases HX.out with h0 | ⟨xb, xo, rfl, hcl⟩
                  · rw [h0] at hjX; simp at hjX
                  have hx := hcl j hjX
                  have hxw := HXw.out _ (List.getElem_mem hjX)
                  generalize X[j] = x at *
                  have hk2 : 2 ≤ sm.t.k := by have h := HG1.out.k; rw [HKm.out] at h ⊢; omega
                  have HCw := Lib.hid (HC3.out.trans HC9.out)
                  have HXx := Lib.hid hx
                  obtain ⟨d0, d1, d2, d3, d4⟩ := hx.ch HCw.out (by simp)
                  have HTo := Lib.hid (fun w => to5_any x w)
                  have HGi1 := Lib.hid (fun W (h : RB W b1 c1 L sm) => give_any h HR.out HG1.out hk2 x)
                  have HGi2 := Lib.hid (fun W (h : RB W b2 c2' L sm) => give_any h HR.out HG1.out hk2 x)
                  have HGn := Lib.hid (HG1.out.give HR.out hk2 hxw)
                  unfold vv at HTo HGi1 HGi2
                  clear hx hxw hk2 hjX hcl
                  go_wp2_with (first
                    | ((with_reducible show wpList _ _ _ (Oper.mk _ (Op.load 44 _) _ _ _ _ :: _) _ _); refine wpList_readA rfl HL34.out HT9.out (by rfl) (by rfl) ?_)
                    | ((with_reducible show wpList _ _ _ (Oper.mk _ (Op.load 44 _) _ _ _ _ :: _) _ _); refine wpList_readA rfl HL34.out HUr9.out (by rfl) (by rfl) ?_)
                    | (with_reducible refine HFa.out.mono ?_; rintro e y0 ⟨rfl, rfl⟩)
                    | (with_reducible refine HFb.out.mono ?_; rintro e y0 ⟨rfl, rfl⟩)
                    | (with_reducible refine HPa.out.mono ?_; rintro e y0 ⟨rfl, rfl⟩)
                    | (with_reducible refine HPb.out.mono ?_; rintro e y0 ⟨rfl, rfl⟩)
                    | (with_reducible refine HCa.out.mono ?_; rintro e y0 ⟨rfl, rfl⟩)
                    | (with_reducible refine HCb.out.mono ?_; rintro e y0 ⟨rfl, rfl⟩)
                    | (with_reducible refine HRa.out.mono ?_; rintro e y0 ⟨rfl, rfl⟩)
                    | (with_reducible refine HRb.out.mono ?_; rintro e y0 ⟨rfl, rfl⟩)
                    | fail)
                  with_reducible refine (HTo.out _).mono ?_
                  rintro e y1 ⟨rfl, hd1⟩
                  have HA1 := Lib.hid (HGi1.out y1 (HA.out.quiet hd1))
                  have HB1 := Lib.hid (HB.out.quiet hd1)
                  have HC1 := Lib.hid (HC9.out.trans hd1)
                  clear hd1 d0 d1 d2 d3 d4
                  go_wp2_with fail
                  with_reducible refine HA1.out.mono ?_
                  rintro e y2 ⟨rfl, ha2, hd2⟩
                  have HA2 := Lib.hid ha2
                  have HB2 := Lib.hid (HB1.out.ch hd2 HD.out.1.2.2.1 HD.out.1.2.2.2)
                  have HC2 := Lib.hid (HC1.out.fresh hd2 HD.out.2.1)
                  obtain ⟨d0, d1, d2, d3, d4⟩ := HXx.out.ch (HC3.out.trans HC2.out) (by simp)
                  clear ha2 hd2 HA1 HB1 HC1
                  go_wp2_with fail
                  with_reducible refine (HTo.out _).mono ?_
                  rintro e y3 ⟨rfl, hd3⟩
                  have HA3 := Lib.hid (HA2.out.quiet hd3)
                  have HB3 := Lib.hid (HGi2.out y3 (HB2.out.quiet hd3))
                  have HC3' := Lib.hid (HC2.out.trans hd3)
                  clear hd3 d0 d1 d2 d3 d4 HA2 HB2 HC2
                  go_wp2_with fail
                  with_reducible refine HB3.out.mono ?_
                  rintro e y4 ⟨rfl, hb4, hd4⟩
                  have HRel := Lib.hid (show RB y4 b1 c1 L (givS L sm x) ∧ RB y4 b2 c2' L (givS L sm x) ∧ GS L (givS L sm x) ∧ Ch [] w3 y4 from ⟨HA3.out.ch hd4 HD.out.1.1 HD.out.1.2.1, hb4, HGn.out, HC3'.out.fresh hd4 HD.out.2.2⟩)
                  clear hb4 hd4 HA3 HB3 HC3'
                  go_wp2_with fail
                  go_roundw
                  case rel => exact ⟨j + 1, givS L sm x, rfl, by have := HJ.out; omega, HRel.out⟩
                  case measure => have := HJ.out; simp [intOf]; omega
      · by_cases h1 : j ≤ n3
        · have h1' : (j : Int) ≤ (n3 : Int) := by omega
          have h2' : ¬ (j : Int) ≤ 60 := by omega
          clear hgo
          go_wp2_with fail
          with_reducible refine (HKn.out _ HC.out).mono ?_
          rintro e y1 ⟨rfl, hd9⟩
          have HD9 := Lib.hid (HC3.out.trans (HC.out.trans hd9))
          clear hd9
          go_wp2_with fail
          go_ret
          exact ⟨rfl, HD9.out⟩
        · have h1' : ¬ (j : Int) ≤ (n3 : Int) := by omega
          clear hgo
          go_wp2_with fail
          with_reducible refine (HKn.out _ HC.out).mono ?_
          rintro e y1 ⟨rfl, hd9⟩
          have HD9 := Lib.hid (HC3.out.trans (HC.out.trans hd9))
          clear hd9
          go_wp2_with fail
          go_ret
          exact ⟨rfl, HD9.out⟩
  · have HNew := Lib.hid (fun W (h : Ch [] w3 W) va vc => vnew_bad (n := L.length) (cap := rc) (sl := true) (a := va) (m := m) (mc := vc) rfl HFit.out (HIn.out.ch h (by simp)) (HT.out.ch (HC3.out.trans h)) hr (u : Int))
    have HPc := Lib.hid (fun W (h : Ch [] w3 W) => pcheck_any (n := L.length) (cap := rc) (sl := true) rfl HFit.out (HIn.out.ch h (by simp)) (HT.out.ch (HC3.out.trans h)))
    generalize (res L true).2 = er at *
    generalize (((res L true).1 : Nat) : Int) = pl at *
    have hn : (er != 0) = true := by simpa using hr
    clear hr HIn HFit
    go_region_held (fun w' => w'.cell? ⟨PB, 0, none⟩ = some (.slice ra L.length rc) ∧ w'.cell? ⟨PB, 1, none⟩ = some (.bool true)) (go_keep) (first
      | (with_reducible refine (HTs.out _ HC3.out.drew).mono ?_; rintro e w4 ⟨va, vc, rfl, hva, hvn, hc4⟩; have hc34 := (Ch.refl [] w3).drew.trans hc4; have HC4 := Lib.hid hc34; have u0 := (hc34.cell (p := ⟨PB, 0, none⟩) (cell_lt t0) (by simp)).trans t0; have u1 := (hc34.cell (p := ⟨PB, 1, none⟩) (cell_lt t1) (by simp)).trans t1; clear hc4 hc34 hva hvn)
      | (with_reducible refine (HNew.out _ HC4.out va vc).mono ?_; rintro e w5 ⟨rfl, hc5⟩; have HC5 := Lib.hid (HC4.out.trans hc5); have v0 := (hc5.cell (p := ⟨PB, 0, none⟩) (cell_lt u0) (by simp)).trans u0; have v1 := (hc5.cell (p := ⟨PB, 1, none⟩) (cell_lt u1) (by simp)).trans u1; clear hc5)
      | fail)
    clear t0 t1 u0 u1
    go_wp2_with fail
    go_region_held (fun w' => w'.cell? ⟨PB, 0, none⟩ = some (.slice ra L.length rc) ∧ w'.cell? ⟨PB, 1, none⟩ = some (.bool true)) (go_keep) (first
      | (with_reducible refine (HTs.out _ (HC3.out.trans HC5.out).drew).mono ?_; rintro e w6 ⟨vb, vd, rfl, hva, hvn, hc6⟩; have hc56 := (Ch.refl [] w5).drew.trans hc6; have HC6 := Lib.hid (HC5.out.trans hc56); have t0 := (hc56.cell (p := ⟨PB, 0, none⟩) (cell_lt v0) (by simp)).trans v0; have t1 := (hc56.cell (p := ⟨PB, 1, none⟩) (cell_lt v1) (by simp)).trans v1; clear hc6 hc56 hva hvn)
      | (with_reducible refine (HNew.out _ HC6.out vb vd).mono ?_; rintro e w7 ⟨rfl, hc7⟩; have HC7 := Lib.hid (HC6.out.trans hc7); have u0 := (hc7.cell (p := ⟨PB, 0, none⟩) (cell_lt t0) (by simp)).trans t0; have u1 := (hc7.cell (p := ⟨PB, 1, none⟩) (cell_lt t1) (by simp)).trans t1; clear hc7)
      | fail)
    clear t0 t1 v0 v1
    have HPw := Lib.hid (HPc.out w7 HC7.out)
    clear HNew HPc HTs
    go_wp2_with fail
    with_reducible refine HPw.out.mono ?_
    rintro e w8 ⟨rfl, hc8⟩
    have HC8 := Lib.hid (HC7.out.trans hc8)
    clear hc8 u0 u1
    go_wp2_with fail
    with_reducible refine (HKn.out _ HC8.out).mono ?_
    rintro e y1 ⟨rfl, hd9⟩
    have HD9 := Lib.hid (HC3.out.trans (HC8.out.trans hd9))
    clear hd9
    go_wp2_with fail
    go_ret
    exact ⟨rfl, HD9.out⟩
end Go.Proofs.YtpbdmlipdfdblaaDoor
