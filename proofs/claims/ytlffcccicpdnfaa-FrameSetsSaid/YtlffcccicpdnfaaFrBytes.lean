/-
  FrameBytes: the law's walk. (Written by gen/bytes18.py.)
-/
import Derived.Test.YtlffcccicpdnfaaFrZ
namespace Go.Proofs.Ytlffcccicpdnfaa
open Go.RowKit Go.BigFrame

attribute [local go_sem] Oper.semAt_some

theorem wrF_fw {F : FV} (h : FW F) (k : Nat) {l : List Nat} (hb : ∀ x ∈ l, x < 256) : ∀ i, FW (wrF F k l i)
  | 0 => h
  | i + 1 => (wrF_fw h k hb i).upd _ (leN_64 (fun x hx => hb x (List.mem_of_mem_drop (List.mem_of_mem_take hx))) (by simp; omega))
theorem wrT_fw {F : FV} (h : FW F) (a : Int) {l : List Nat} (hb : ∀ x ∈ l, x < 256) : FW (wrT F a l) := by
  unfold wrT; split
  · exact wrF_fw h _ hb _
  · exact h
theorem wr_back {F : FV} {a : Int} {l : List Nat} (hok : wrOk a l.length) (hb : ∀ x ∈ l, x < 256) : rdE (wrT F a l) a ((l.length / 8 : Nat) : Int) = (l, 0) := by
  have h1 := hok.1
  have h2 := hok.2
  unfold rdE wrT
  rw [if_pos h2, if_pos hok, Int.toNat_natCast]
  rw [if_neg, rd_wr F _ l _ (by omega) hb _ (Nat.le_refl _), show 8 * (l.length / 8) = l.length by omega, List.take_length]
  rw [List.any_eq_true]
  rintro ⟨x, hx, hr⟩
  obtain ⟨i, hi, rfl⟩ := List.mem_iff_getElem.1 hx
  rw [things_at, wrF_in _ _ _ _ _ (by rw [things_len] at hi; exact hi)] at hr
  cases hr

theorem rdE_len (F : FV) (a n : Int) : (rdE F a n).1.length ≤ 64 := by
  unfold rdE
  split
  · rename_i h
    split
    · simp
    · rw [rdB_len]; unfold hol at h; omega
  · simp

set_option maxRecDepth 20000 in
set_option maxHeartbeats 16000000 in
theorem bytes_law {a0 v : Option Addr} {n0 c0 n1 c1 : Nat} {at' from' n : Int} {L0 : List V5} {l1 : List Nat} {w : World} (hl0 : L0.length = n0) (hV0 : ValsAt w a0 L0) (hW0 : ∀ x ∈ L0, W64 x.n) (hat : fit at') (hfr : fit from') (hl1 : l1.length = n1) (hn1 : n1 ≤ c1) (hb1 : ∀ x ∈ l1, x < 256) (hA1 : BA w v l1) :
    Calls Try.prog 4 #[.slice a0 n0 c0, .int .i64 at', .slice v n1 c1, .int .i64 from', .int .i64 n] w fun e w' => e = .returned (.bool true) ∧ Ch [] w w' := by
  obtain ⟨m, hmin⟩ : ∃ m : Nat, (if (100 : Int) < (n1 : Int) then (100 : Int) else (n1 : Int)) = (m : Int) := ⟨min n1 100, by split <;> omega⟩
  have hmm : m = min n1 100 := by split at hmin <;> omega
  have hmin2 : min (n1 : Int) 100 = (m : Int) := by omega
  obtain ⟨l, hlt⟩ : ∃ l, l1.take 100 = l := ⟨_, rfl⟩
  have hl : l.length = m := by rw [← hlt, List.length_take]; omega
  have hb : ∀ x ∈ l, x < 256 := by rw [← hlt]; exact fun x hx => hb1 x (List.mem_of_mem_take hx)
  have hA : BA w v l := by rw [← hlt]; exact hA1.take 100
  have hmc : m ≤ c1 := by omega
  have hneg : decide ((m : Int) < 0) = false := decide_eq_false (by omega)
  have hN := new_any (w := w) (a := none) (n := 0) (cap := 0) (L := []) rfl (by decide) (.inl rfl) (fun _ _ => rfl)
  obtain ⟨b, hbb⟩ : ∃ b, w.heap.size = b := ⟨_, rfl⟩
  rw [hbb] at hN
  have HN := Lib.hid hN
  have HBl := Lib.hid hbb
  have HV := Lib.hid hV0
  have HL0 := Lib.hid hl0
  have HW0 := Lib.hid hW0
  have HL := Lib.hid hl
  have HB := Lib.hid hb
  have HA := Lib.hid hA
  have HM := Lib.hid (show m ≤ 100 by omega)
  have HMc := Lib.hid hmc
  have HMin := Lib.hid (And.intro hmin (And.intro hmin2 hneg))
  have HAt := Lib.hid hat
  have HFr := Lib.hid hfr
  have HKn := Lib.hid (fun W => known18 W)
  have HVb := Lib.hid (show ∀ y, v = some y → l ≠ [] → y.block ≠ b from fun y e hne => by
    rcases hA with h | ⟨B, off, e', hc⟩
    · exact absurd h hne
    · rw [e'] at e; cases e
      have h0 : 0 < l.length := List.length_pos_iff.2 hne
      have := cell_lt (hc 0 h0)
      simp only at this ⊢
      omega)
  clear hmin hmin2 hmm hlt hl hb hA hmc hneg hN hbb hV0 hl0 hW0 hat hfr hl1 hn1 hb1 hA1
  go_enter Try.func4, Try.ntmps4
  go_wp2_with fail
  with_reducible refine HN.out.mono ?_
  rintro e w1 ⟨rfl, hF1, hc1⟩
  have hz := z90b w1
  obtain ⟨R, hR⟩ : ∃ b, w1.heap.size = b := ⟨_, rfl⟩
  obtain ⟨w2, hw2⟩ : ∃ W, w1.alloc (.cells (fl F0).toArray 32) = W := ⟨_, rfl⟩
  have HF2 := Lib.hid (show FR w2 b F0 by rw [← hw2]; exact hF1.quiet ((Ch.refl [] w1).alloc _))
  have HR2 := Lib.hid (show FR w2 R F0 by rw [← hw2, ← hR]; exact FR.new w1 F0 _)
  have HC2 := Lib.hid (show Ch [] w w2 by rw [← hw2]; exact hc1.alloc _)
  have HBR := Lib.hid (show b ≠ R ∧ w.heap.size ≤ R from by have := hF1.lt; have := hc1.size; omega)
  have HRs := Lib.hid hR
  have HWs := Lib.hid hw2
  clear hF1 hc1 hR hw2 HN
  go_wp2_with fail
  rw [HRs.out, HWs.out]
  clear hz HRs HWs
  go_loopw [14] (fun iv wr => ∃ (i : Nat) (F : FV), iv = .int .i64 (i : Int) ∧ i ≤ n0 ∧ i ≤ 8 ∧ FR wr b F ∧ FR wr R F ∧ FW F ∧ Ch [] w wr) (fun iv _ => 8 - (intOf iv).toNat)
  case atStart => exact ⟨0, _, rfl, Nat.zero_le _, by decide, HF2.out, HR2.out, FW0, HC2.out⟩
  case round =>
    obtain ⟨i, F, rfl, hi1, hi2, hF, hR, hW, hc⟩ := hrel
    have HF := Lib.hid hF
    have HR := Lib.hid hR
    have HFW := Lib.hid hW
    have HC := Lib.hid hc
    have hgo : (i < n0 ∧ i < 8) ∨ ¬ (i < n0 ∧ i < 8) := Decidable.em _
    rcases hgo with ⟨h1, h2⟩ | hgo
    · have h1' : (i : Int) < (n0 : Int) := by omega
      have h2' : (i : Int) < 8 := by omega
      have hiL : i < L0.length := by rw [HL0.out]; exact h1
      rcases HV.out with h0 | ⟨ba, off, rfl, hcl⟩
      · exfalso; rw [h0] at hiL; simp at hiL
      have hx0 := (hcl i hiL).ch hc (by simp)
      have hxw := HW0.out _ (List.getElem_mem hiL)
      generalize L0[i] = x at *
      have HX := Lib.hid hx0
      have HXW := Lib.hid hxw
      obtain ⟨c0, c1, c2, c3, c4⟩ := hx0
      have HTo := Lib.hid (fun W => to5_any x W)
      have HSt := Lib.hid (fun W (h : FR W b F) => setword_in h h2 x)
      obtain ⟨ii, hii⟩ : ∃ ii, 10 + i = ii := ⟨_, rfl⟩
      have hw10 : IntKind.i64.wrap (10 + (i : Int)) = (ii : Int) := by rw [IntKind.wrap_i64]; omega
      have i18 : (ii : Int) < 18 := by omega
      have H18 := Lib.hid (show ii < 18 by omega)
      have ew : IntKind.i64.wrap ((i : Int) + 1) = ((i + 1 : Nat) : Int) := by rw [IntKind.wrap_i64]; omega
      rw [hii] at HSt
      have HBa := Lib.hid (show ba ≠ b ∧ ba ≠ R from by
        have h := cell_lt ((hcl i hiL).c0); have h3 := HBl.out; have h4 := HBR.out.2; simp only at h; omega)
      unfold vv at HTo HSt
      clear hcl hiL hxw hF hR hW hc h1 h2 hii
      go_wp2_with fail
      with_reducible refine (HTo.out _).mono ?_
      rintro e w3 ⟨rfl, hc3⟩
      have HS := Lib.hid (HSt.out w3 (HF.out.quiet hc3))
      have HX3 := Lib.hid (HX.out.ch hc3 (by simp))
      have HR3 := Lib.hid (HR.out.quiet hc3)
      have HC3 := Lib.hid (HC.out.trans hc3)
      clear c0 c1 c2 c3 c4 hc3 HTo HSt
      go_wp2_with fail
      with_reducible refine HS.out.mono ?_
      rintro e w4 ⟨rfl, hF4, hc4⟩
      obtain ⟨c0, c1, c2, c3, c4⟩ := HX3.out.ch hc4 (by have := HBa.out.1; simp; omega)
      have hR4 := HR3.out.ch hc4 (by have := HBR.out.1; simp; omega)
      obtain ⟨r0, r1, r2, r3, r4⟩ := hR4.a ii H18.out
      have rf := hR4.fr
      have HC4 := Lib.hid (HC3.out.fresh hc4 (by have := HBl.out; simp; omega))
      have hcs := st5_ch w4 R (ii * 5) x
      have HR5 := Lib.hid (hR4.set H18.out x)
      have HF5 := Lib.hid (hF4.ch hcs (by have := HBR.out.1; simp; omega))
      have HC5 := Lib.hid (HC4.out.fresh hcs (by have := HBR.out.2; simp; omega))
      have HW5 := Lib.hid (HFW.out.upd ii HXW.out)
      clear hF4 hc4 hR4 hcs HS HX3 HR3 HC3 HC4
      go_wp2_with fail
      go_roundw
      case rel => exact ⟨i + 1, _, rfl, by omega, by omega, HF5.out, HR5.out, HW5.out, HC5.out⟩
      case measure => simp [intOf]; omega
    · have hcond : ((i : Int) < (n0 : Int) ∧ ¬ (i : Int) < 8) ∨ ¬ (i : Int) < (n0 : Int) := by
        by_cases h : (i : Int) < (n0 : Int)
        · exact .inl ⟨h, by omega⟩
        · exact .inr h
      obtain ⟨hmin, hmin2, hneg⟩ := HMin.out
      have hmc := HMc.out
      have HRw := Lib.hid (rwrite_any (w := wr) (F := F) (a := at') (cap := c1) (by have := HM.out; omega) HL.out HB.out (HA.out.ch hc (by simp)))
      obtain ⟨G, hG⟩ : ∃ G, wrT F at' l = G := ⟨_, rfl⟩
      obtain ⟨E, hE⟩ : ∃ E, wrE at' m = E := ⟨_, rfl⟩
      have HGW := Lib.hid (show FW G by rw [← hG]; exact wrT_fw hW at' HB.out)
      have HWr := Lib.hid (fun W (h : FR W b F) (hc : Ch [] wr W) => show Calls Try.prog 17 #[.pointer (some ⟨b, 0, none⟩), .int .i64 at', .slice v m c1] W fun e w' => e = .returned (.int .i64 E) ∧ FR w' b G ∧ Ch [b] W w' from by
        have := fwrite_any (cap := c1) h HAt.out (by have := HM.out; omega) HMc.out HL.out HB.out (HA.out.ch (HC.out.trans hc) (by simp)) HVb.out
        rw [hG, hE] at this
        exact this)
      have HBk := Lib.hid (show E = 0 → rdE G at' ((m / 8 : Nat) : Int) = (l, 0) from fun h => by
        have hok : wrOk at' m := by
          refine Decidable.byContradiction fun hn => ?_
          rw [← hE] at h
          unfold wrE at h
          rw [if_neg hn] at h
          cases h
        rw [← hG, ← HL.out]
        exact wr_back (by rw [HL.out]; exact hok) HB.out)
      rw [hG, hE] at HRw
      clear hF hR hW hc hgo hG hE HMin
      rcases hcond with ⟨h1, h2⟩ | h1
      all_goals
        go_wp2_with (first | ((with_reducible show wpList _ _ _ (Oper.mk _ (Op.load 32 _) _ _ _ _ :: _) _ _); refine wpList_readF rfl HR.out (by rfl) (by rfl) ?_) | fail)
        with_reducible refine HRw.out.mono ?_
        rintro e w3 ⟨rfl, hc3⟩
        have hz := z90b w3
        obtain ⟨N, hN⟩ : ∃ b, w3.heap.size = b := ⟨_, rfl⟩
        obtain ⟨w4, hw4⟩ : ∃ W, w3.alloc (.cells (fl F0).toArray 32) = W := ⟨_, rfl⟩
        have hn4 : FR w4 N F0 := by rw [← hw4, ← hN]; exact FR.new w3 F0 _
        have hc4 : Ch [] wr w4 := by rw [← hw4]; exact hc3.alloc _
        obtain ⟨w5, hw5⟩ : ∃ W, w4.setCells N 0 (fl G) = W := ⟨_, rfl⟩
        have hn5 : FR w5 N G := by rw [← hw5]; exact hn4.setAll G
        have hc5 : Ch [] wr w5 := by rw [← hw5]; exact hc4.fresh (chCells w4 N _ 0) (by have := hc3.size; simp; omega)
        have HN4 := Lib.hid hn4
        have HN5 := Lib.hid hn5
        have HW4 := Lib.hid hw4
        have HW5 := Lib.hid hw5
        have HNs := Lib.hid hN
        have HC5 := Lib.hid (HC.out.trans hc5)
        have HNb := Lib.hid (show N ≠ b ∧ w.heap.size ≤ N from by have := (HF.out).lt; have := hc3.size; have := HC.out.size; omega)
        have HWs := Lib.hid (HWr.out w5 (HF.out.quiet hc5) hc5)
        clear hc3 hc4 hc5 hn4 hn5 hw4 hw5 hN HRw HWr
        go_wp2_with (first | ((with_reducible show wpList _ _ _ (Oper.mk _ (Op.store 32 _ _) _ _ _ _ :: _) _ _); rw [HNs.out, HW4.out]; refine wpList_writeF rfl HN4.out G (by rfl) (by rfl) (by rfl) ?_) | fail)
        rw [HW5.out]
        clear hz h1
        with_reducible refine HWs.out.mono ?_
        rintro e w6 ⟨rfl, hF6, hc6⟩
        have HF6 := Lib.hid hF6
        have HN6 := Lib.hid (HN5.out.ch hc6 (by have := HNb.out.1; simp; omega))
        have HC6 := Lib.hid (HC5.out.fresh hc6 (by have := HBl.out; simp; omega))
        have HSm := Lib.hid (same18 hF6)
        clear hF6 hc6 HWs HN5 HC5 HW5 HW4 HN4 HNs HC HF HR
        go_wp2_with (first | ((with_reducible show wpList _ _ _ (Oper.mk _ (Op.load 32 _) _ _ _ _ :: _) _ _); refine wpList_readF rfl HN6.out (by rfl) (by rfl) ?_) | fail)
        with_reducible refine HSm.out.mono ?_
        rintro e w7 ⟨rfl, hc7⟩
        have HF7 := Lib.hid (HF6.out.quiet hc7)
        have HN7 := Lib.hid (HN6.out.quiet hc7)
        have HC7 := Lib.hid (HC6.out.trans hc7)
        have hRr := rread_any (w := w7) (n := n) HGW.out HFr.out
        have hln := rdE_len G from' n
        obtain ⟨Bs, hBs⟩ : ∃ B, (rdE G from' n).1 = B := ⟨_, rfl⟩
        obtain ⟨E2, hE2⟩ : ∃ E, (rdE G from' n).2 = E := ⟨_, rfl⟩
        rw [hBs, hE2] at hRr
        rw [hBs] at hln
        obtain ⟨q, hq⟩ : ∃ q, Bs.length = q := ⟨_, rfl⟩
        have HRr := Lib.hid hRr
        have HRf := Lib.hid (fun W (h : FR W b G) => show Calls Try.prog 19 #[.pointer (some ⟨b, 0, none⟩), .int .i64 from', .int .i64 n] W fun e w' => ∃ v, e = .returned (.tuple #[v, .int .i64 E2]) ∧ BW w' W.heap.size v Bs ∧ Ch [] W w' from by
          have := fread_any h HFr.out (n := n); rw [hBs, hE2] at this; exact this)
        have HQ := Lib.hid hq
        have HQ2 := Lib.hid (show q ≤ 100000 by omega)
        clear hc7 hRr hBs hE2 hq hln HSm HF6 HN6 HC6
        go_wp2_with (first | ((with_reducible show wpList _ _ _ (Oper.mk _ (Op.load 32 _) _ _ _ _ :: _) _ _); refine wpList_readF rfl HN7.out (by rfl) (by rfl) ?_) | fail)
        with_reducible refine HRr.out.mono ?_
        rintro e w8 ⟨x, rfl, hx8, hc8⟩
        obtain ⟨xa, xc, rfl, hxa, -⟩ := hx8.form
        rw [HQ.out]
        have HF8 := Lib.hid (HF7.out.quiet hc8)
        have HC8 := Lib.hid (HC7.out.trans hc8)
        have HXa := Lib.hid hxa
        have HRg := Lib.hid (HRf.out w8 HF8.out)
        clear hc8 hx8 hxa HRr HRf HF7 HN7 HC7
        go_wp2_with fail
        with_reducible refine HRg.out.mono ?_
        rintro e w9 ⟨y, rfl, hy9, hc9⟩
        obtain ⟨ya, yc, rfl, hya, -⟩ := hy9.form
        rw [HQ.out]
        have HF9 := Lib.hid (HF8.out.quiet hc9)
        have HC9 := Lib.hid (HC8.out.trans hc9)
        have HSb := Lib.hid (sameb_any xc yc HQ.out HQ2.out (HXa.out.ch hc9 (by simp)) hya)
        clear hc9 hy9 hya HXa HRg HF8 HC8
        go_wp2_with fail
        with_reducible refine HSb.out.mono ?_
        rintro e w10 ⟨rfl, hc10⟩
        have HF10 := Lib.hid (HF9.out.quiet hc10)
        have HC10 := Lib.hid (HC9.out.trans hc10)
        clear hc10 HSb HF9 HC9
        by_cases hE0 : E = 0
        · obtain ⟨r, hr⟩ : ∃ r, m / 8 = r := ⟨_, rfl⟩
          have q2 : (m : Int).tdiv 8 = (r : Int) := by rw [Int.tdiv_eq_ediv_of_nonneg (by omega)]; omega
          have q3 : IntKind.i64.wrap (r : Int) = (r : Int) := by rw [IntKind.wrap_i64]; have := HM.out; omega
          have hbk := HBk.out hE0
          rw [hr] at hbk
          have hRb := fread_any HF10.out HAt.out (n := (r : Int))
          rw [hbk] at hRb
          have HRb := Lib.hid hRb
          subst hE0
          clear hr hbk hRb HBk
          go_wp2_with fail
          with_reducible refine HRb.out.mono ?_
          rintro e w11 ⟨z, rfl, hz11, hc11⟩
          obtain ⟨za, zc, rfl, hza, -⟩ := hz11.form
          rw [HL.out]
          have HC11 := Lib.hid (HC10.out.trans hc11)
          have HZa := Lib.hid hza
          clear hc11 hz11 hza HRb q2 q3
          go_wp2_with fail
          with_reducible refine (HKn.out _).mono ?_
          rintro e w12 ⟨rfl, hc12⟩
          have HC12 := Lib.hid (HC11.out.trans hc12)
          have HSl := Lib.hid (sameb_any zc c1 HL.out (by have := HM.out; omega) (HZa.out.ch hc12 (by simp)) (HA.out.ch HC12.out (by simp)))
          clear hc12
          go_wp2_with fail
          with_reducible refine HSl.out.mono ?_
          rintro e w13 ⟨rfl, hc13⟩
          have HZ := Lib.hid (HC12.out.trans hc13)
          clear hc13
          go_wp2_with fail
          go_ret
          exact ⟨rfl, HZ.out⟩
        · have e0 : (E != 0) = true := by simpa using hE0
          clear hE0 HBk
          go_wp2_with fail
          with_reducible refine (HKn.out _).mono ?_
          rintro e w12 ⟨rfl, hc12⟩
          have HZ := Lib.hid (HC10.out.trans hc12)
          clear hc12
          go_wp2_with fail
          go_ret
          exact ⟨rfl, HZ.out⟩
end Go.Proofs.Ytlffcccicpdnfaa
