/-
  The law OrderPasses, walked.
-/
import Derived.Test.YtediabcgeghogaaOrQ
import Derived.Test.YtediabcgeghogaaOrK
import Derived.Test.YtediabcgeghogaaOSK
namespace Go.Proofs.Ytediabcgeghogaa
open Go.RowKit oS

attribute [local go_sem] Oper.semAt_some

/-- Bools that lie in memory, as a slice shows them. -/
def BAt (w : World) (a : Option Addr) (n : Nat) (B : Nat → Bool) : Prop := n = 0 ∨ ∃ b off, a = some ⟨b, off, none⟩ ∧ ∀ i, i < n → w.cell? ⟨b, off + i, none⟩ = some (.bool (B i))
theorem BAt.quiet {w w' : World} {a : Option Addr} {n : Nat} {B : Nat → Bool} (h : BAt w a n B) (hc : Ch [] w w') : BAt w' a n B := by
  rcases h with h | ⟨b, off, rfl, h⟩
  · exact .inl h
  · exact .inr ⟨b, off, rfl, fun i hi => (hc.cell (p := ⟨b, off + i, none⟩) (cell_lt (h i hi)) (by simp)).trans (h i hi)⟩
theorem str_eq (a b : List UInt8) : (a == b) = decide (a = b) := by
  rw [Bool.eq_iff_iff, beq_iff_eq, decide_eq_true_iff]
theorem KAt_quiet {w w' : World} {a : Option Addr} {zs : List oS.K} (h : KAt w a zs) (hc : Ch [] w w') : KAt w' a zs := h.ch hc (by unfold NotIn; simp)

theorem touch_free {L : List oS.K} {k : oS.K} (h : L.length < 64) : tch 64 L k = (drp L k ++ [k], 0) := by unfold tch; rw [if_pos (.inr h)]
theorem drop_last {L : List oS.K} {k : oS.K} : drp (drp L k ++ [k]) k = drp L k := by
  unfold drp
  rw [List.filter_append, List.filter_filter]
  simp
theorem drop_again {L : List oS.K} {k : oS.K} : drp (drp L k) k = drp L k := by
  unfold drp
  rw [List.filter_filter]
  simp

set_option maxRecDepth 100000 in
set_option maxHeartbeats 4000000 in
theorem passes_law (a : Option Addr) (cap : Nat) (ls : List oS.K) (da : Option Addr) (dl dcap : Nat) (B : Nat → Bool) (w : World) (hls : KAt w a ls) (hwf : ∀ k ∈ ls, wfK k) (hl : ls.length ≤ cap) (_ : cap ≤ 9223372036854775807) (hB : BAt w da dl B) (hdl : dl ≤ 9223372036854775807) :
    Calls Try.prog 5 #[.slice a ls.length cap, .slice da dl dcap] w fun e w' => e = .returned (.bool true) ∧ Ch [] w w' := by
  obtain ⟨zs, hzs⟩ : ∃ zs, zs = ls.take 60 := ⟨_, rfl⟩
  obtain ⟨n, hn⟩ : ∃ n, n = zs.length := ⟨_, rfl⟩
  have hn1 : n = min ls.length 60 := by rw [hn, hzs, List.length_take]; omega
  obtain ⟨len, hlen⟩ : ∃ len, len = ls.length := ⟨_, rfl⟩
  have HKz := Lib.hid (show KAt w a zs by
    rw [hzs]
    rcases hls with rfl | ⟨b, off, rfl, h⟩
    · exact .inl (by simp)
    · refine .inr ⟨b, off, rfl, fun j k hj => h j k ?_⟩
      rw [List.getElem?_take] at hj
      split at hj
      · exact hj
      · cases hj)
  obtain ⟨z, hz⟩ : ∃ z : Nat → oS.K, ∀ j, j < n → zs[j]? = some (z j) := ⟨fun j => (zs[j]?).getD k0, fun j hj => by simp only []; rw [List.getElem?_eq_getElem (by omega)]; rfl⟩
  have HZ := Lib.hid hz
  have HW := Lib.hid (show ∀ j, j < n → wfK (z j) from fun j hj => hwf _ (List.mem_of_mem_take (hzs ▸ List.mem_of_getElem? (hz j hj))))
  obtain ⟨db, hdb⟩ : ∃ db : Nat → Bool, db = fun i => decide (i < dl) && B i := ⟨_, rfl⟩
  have HDb := Lib.hid hdb
  rw [← hlen] at hn1 hl ⊢
  have hmin : min (len : Int) 60 = (n : Int) := by omega
  have hmin2 : (if (60 : Int) < (len : Int) then (60 : Int) else (len : Int)) = (n : Int) := by split <;> omega
  have hncap : n ≤ cap := by omega
  have hn60 : n ≤ 60 := by omega
  have hd0 : decide ((n : Int) < 0) = false := by simp
  obtain ⟨S, hS⟩ : ∃ S, w.heap.size = S := ⟨_, rfl⟩
  have hN := ol_new 64 w w S hS (Ch.refl _ _) (by omega) (by omega)
  rw [show (((64 : Nat) : Int)) = 64 from rfl] at hN
  have HNew := Lib.hid hN
  have HNn := Lib.hid hn
  have HBt := Lib.hid hB
  clear hls hwf hlen hn1 hS hn hzs hl hz hdb hN hB
  go_enter Try.func5, Try.ntmps5
  go_wp2_with fail
  with_reducible refine HNew.out.mono ?_
  rintro e w1 ⟨rfl, ho1, hc1, -⟩
  have HO1 := Lib.hid ho1
  clear ho1 hc1 HNew
  go_wp2_with fail
  clear hmin hmin2
  go_loopw [7] (fun vi wr => ∃ i : Nat, i ≤ n ∧ vi = .int .i64 (i : Int) ∧ OL w wr S 64 i (selT z db i)) (fun vi _ => n - (intOf vi).toNat)
  case atStart => exact ⟨0, Nat.zero_le _, rfl, HO1.out⟩
  case round =>
    obtain ⟨i, hi, rfl, ho⟩ := hrel
    have HO := Lib.hid ho
    clear ho
    by_cases hlt : i < n
    · have hX := selT_le (z := z) (db := db) i
      have HSx := Lib.hid (selT_succ (z := z) (db := db) i)
      obtain ⟨X, hXe⟩ : ∃ X, X = selT z db i := ⟨_, rfl⟩
      rw [← hXe] at hX HO HSx
      have HKr := Lib.hid (KAt_quiet HKz.out HO.out.ch)
      rcases HKr.out with h0 | ⟨b, off, rfl, hcell⟩
      · have := HNn.out; rw [h0] at this; simp at this; omega
      have hck := hcell i _ (HZ.out i hlt)
      have hwk := HW.out i hlt
      have HWk := Lib.hid hwk
      have HCl := Lib.hid hck
      have hb0 : (0 : Int) ≤ (i : Int) := by omega
      have hb1 : (i : Int) < (n : Int) := by omega
      have HT := Lib.hid (HO.out.touch1 hwk 9 (by omega) (X := drp X (z i) ++ [z i]) (e := 0) (by rw [touch_free (by omega)]) (by rw [touch_free (by omega)]; rfl))
      clear hwk hcell
      go_wp2_with fail
      with_reducible refine HT.out.mono ?_
      rintro e w2 ⟨rfl, ho2, hc2⟩
      have HO2 := Lib.hid ho2
      have HBr := Lib.hid (HBt.out.quiet ho2.ch)
      have hck2 : w2.cell? ⟨b, off + i, none⟩ = some (kv (z i)) := by
        rcases KAt_quiet HKz.out ho2.ch with h0 | ⟨b', off', e, h⟩
        · have := HNn.out; rw [h0] at this; simp at this; omega
        · cases e
          exact h i _ (HZ.out i hlt)
      clear ho2 hc2 HT hck
      by_cases hdi : i < dl
      · rcases HBr.out with h0 | ⟨bd, offd, rfl, hbc⟩
        · omega
        have hbi := hbc i hdi
        have hb2 : (i : Int) < (dl : Int) := by omega
        clear hbc
        cases hBi : B i with
        | true =>
          have HDt := Lib.hid (show db i = true by rw [HDb.out]; simp [hdi, hBi])
          have HDr := Lib.hid (HO2.out.drop HWk.out (X := drp X (z i)) (b := true) drop_last (by simp))
          rw [hBi] at hbi
          clear hBi
          go_wp2_with fail
          with_reducible refine HDr.out.mono ?_
          rintro e w3 ⟨rfl, ho3, hc3⟩
          have HO3 := Lib.hid ho3
          have hck3 : w3.cell? ⟨b, off + i, none⟩ = some (kv (z i)) := by
            rcases KAt_quiet HKz.out ho3.ch with h0 | ⟨b', off', e, h⟩
            · have := HNn.out; rw [h0] at this; simp at this; omega
            · cases e
              exact h i _ (HZ.out i hlt)
          have HDr := Lib.hid (ho3.drop HWk.out (X := drp X (z i)) (b := false) drop_again (by simp [mem_drp]))
          clear ho3 hc3 hck2 hbi
          go_wp2_with fail
          with_reducible refine HDr.out.mono ?_
          rintro e w4 ⟨rfl, ho4, hc4⟩
          have HO4 := Lib.hid ho4
          clear ho4 hc4 hck3 HDr
          go_wp2
          go_roundw
          case rel => exact ⟨i + 1, by omega, by go_num, by rw [HSx.out, HDt.out]; simpa using HO4.out⟩
          case measure => simp [intOf]; omega
        | false =>
          have HDt := Lib.hid (show db i = false by rw [HDb.out]; simp [hBi])
          rw [hBi] at hbi
          go_wp2
          go_roundw
          case rel => exact ⟨i + 1, by omega, by go_num, by rw [HSx.out, HDt.out]; exact HO2.out⟩
          case measure => simp [intOf]; omega
      · have HDt := Lib.hid (show db i = false by rw [HDb.out]; simp [hdi])
        have hb2 : ¬ (i : Int) < (dl : Int) := by omega
        go_wp2
        go_roundw
        case rel => exact ⟨i + 1, by omega, by go_num, by rw [HSx.out, HDt.out]; exact HO2.out⟩
        case measure => simp [intOf]; omega
    · obtain rfl : n = i := by omega
      have HLs := Lib.hid HO.out.list
      obtain ⟨m, hm⟩ : ∃ m, m = (selT z db n).length := ⟨_, rfl⟩
      have HM := Lib.hid hm
      have hm60 : m ≤ 60 := by rw [hm]; have := selT_le (z := z) (db := db) n; omega
      rw [← hm] at HLs
      clear hm hi hlt
      go_wp2_with fail
      with_reducible refine HLs.out.mono ?_
      rintro e w5 ⟨v5, rfl, hr5, hc5⟩
      obtain ⟨ax, cx, rfl⟩ := own_form hr5
      have HR5 := Lib.hid hr5
      have HO5 := Lib.hid (HO.out.quiet hc5)
      clear hr5 hc5 HLs HO HO1
      go_wp2_with fail
      go_loopw [9, 10] (fun va vi wr => ∃ i : Nat, i ≤ n ∧ vi = .int .i64 (i : Int) ∧ va = .int .i64 ((cntT z db n i : Int) - 1) ∧ Ch [] w5 wr) (fun _ vi _ => n - (intOf vi).toNat)
      case atStart => exact ⟨0, Nat.zero_le _, rfl, rfl, Ch.refl _ _⟩
      case round =>
        obtain ⟨i, hi, rfl, rfl, hc⟩ := hrel
        have HC := Lib.hid hc
        clear hc
        obtain ⟨ct, hct⟩ : ∃ ct, ct = cntT z db n i := ⟨_, rfl⟩
        have HCt := Lib.hid hct
        rw [← hct]
        clear hct
        by_cases hlt : i < n
        · have HKr := Lib.hid (KAt_quiet HKz.out (HO5.out.ch.trans HC.out))
          rcases HKr.out with h0 | ⟨b, off, rfl, hcell⟩
          · have := HNn.out; rw [h0] at this; simp at this; omega
          have HKc := Lib.hid (show ∀ (W : World), Ch [] w5 W → ∀ j, j < n → W.cell? ⟨b, off + j, none⟩ = some (kv (z j)) from fun W hW j hj => by
            rcases KAt_quiet HKz.out (HO5.out.ch.trans hW) with h0 | ⟨b', off', e, h⟩
            · have := HNn.out; rw [h0] at this; simp at this; omega
            · cases e
              exact h j _ (HZ.out j hj))
          clear hcell
          have hb0 : (0 : Int) ≤ (i : Int) := by omega
          have hb1 : (i : Int) < (n : Int) := by omega
          go_wp2_with fail
          go_loopw [11, 12, 13] (fun vl vo vk wk => ∃ (k L : Nat) (o : Bool), i ≤ k ∧ k ≤ n ∧ vk = .int .i64 (k : Int) ∧ vl = .int .i64 (L : Int) ∧ vo = .bool o ∧ Ch [] w5 wk ∧ ((k = i ∧ L = i ∧ o = false) ∨ (i ≤ L ∧ L < k ∧ z L = z i ∧ (∀ t, L < t → t < k → z t ≠ z i) ∧ o = db L)))
            (fun _ _ vk _ => n - (intOf vk).toNat)
          case atStart => exact ⟨i, i, false, Nat.le_refl _, hi, rfl, rfl, rfl, HC.out, .inl ⟨rfl, rfl, rfl⟩⟩
          case round =>
            obtain ⟨k, L, o, hik, hkn, rfl, rfl, rfl, hck, hq⟩ := hrel
            have HCk := Lib.hid hck
            have HQ := Lib.hid hq
            clear hck hq
            by_cases hkl : k < n
            · have hk0 : (0 : Int) ≤ (k : Int) := by omega
              have hk1 : (k : Int) < (n : Int) := by omega
              have c1 := HKc.out _ HCk.out k hkl
              have c2 := HKc.out _ HCk.out i hlt
              have hse := str_eq (z k) (z i)
              by_cases hzz : z k = z i
              · rw [decide_eq_true hzz] at hse
                have HZz := Lib.hid hzz
                clear hzz
                go_wp2
                go_quiet (fail)
                clear c1 c2 hse
                by_cases hdk : k < dl
                · rcases HBt.out.quiet (HO5.out.ch.trans HCk.out) with h0 | ⟨bd, offd, rfl, hbc⟩
                  · omega
                  have hbk := hbc k hdk
                  have hb2 : (k : Int) < (dl : Int) := by omega
                  have HDk := Lib.hid (show db k = B k by rw [HDb.out]; simp [hdk])
                  obtain ⟨ob, hob⟩ : ∃ ob, ob = B k := ⟨_, rfl⟩
                  rw [← hob] at hbk HDk
                  clear hob hbc
                  go_wp2
                  go_quiet (fail)
                  go_wp2
                  go_roundw
                  case rel => exact ⟨k + 1, k, ob, by omega, by omega, by go_num, rfl, rfl, HCk.out.drewN _, .inr ⟨hik, by omega, HZz.out, fun t h1 h2 => by omega, HDk.out.symm⟩⟩
                  case measure => simp [intOf]; omega
                · have hb2 : ¬ (k : Int) < (dl : Int) := by omega
                  have HDk := Lib.hid (show db k = false by rw [HDb.out]; simp [hdk])
                  go_wp2
                  go_quiet (fail)
                  go_wp2
                  go_roundw
                  case rel => exact ⟨k + 1, k, false, by omega, by omega, by go_num, rfl, rfl, HCk.out.drewN _, .inr ⟨hik, by omega, HZz.out, fun t h1 h2 => by omega, HDk.out.symm⟩⟩
                  case measure => simp [intOf]; omega
              · rw [decide_eq_false hzz] at hse
                have HZz := Lib.hid hzz
                clear hzz
                go_wp2
                go_quiet (fail)
                go_wp2
                go_roundw
                case rel =>
                  refine ⟨k + 1, L, o, by omega, by omega, by go_num, rfl, rfl, HCk.out.drewN _, ?_⟩
                  rcases HQ.out with ⟨rfl, _, _⟩ | ⟨h1, h2, h3, h4, h5⟩
                  · exact absurd rfl HZz.out
                  · refine .inr ⟨h1, by omega, h3, fun t h6 h7 => ?_, h5⟩
                    by_cases e : t = k
                    · subst e; exact HZz.out
                    · exact h4 t h6 (by omega)
                case measure => simp [intOf]; omega
            · obtain rfl : n = k := by omega
              obtain ⟨h1, h2, h3, h4, rfl⟩ := HQ.out.resolve_left (fun e => by omega)
              obtain ⟨o, ho⟩ : ∃ o, o = db L := ⟨_, rfl⟩
              rw [← ho]
              have HMs := Lib.hid (show decide (z i ∈ selT z db n) = !o by
                rw [Bool.eq_iff_iff, decide_eq_true_iff, mem_selT h1 h2 h3 h4, ho]
                simp)
              have HPt := Lib.hid (show pT z db n i = (decide (L = i) && !o) by rw [pT_iff h1 h2 h3 h4, ho])
              have HHs := Lib.hid ((HO5.out.quiet HCk.out).has (HW.out i hlt) HMs.out)
              have c2 := HKc.out _ HCk.out i hlt
              clear HQ h2 h3 h4 ho hkl
              have HNx := Lib.hid (cntT_succ (z := z) (db := db) n i)
              rw [← HCt.out] at HNx
              cases o with
              | true =>
                rw [show (!true) = false from rfl] at HHs
                go_wp2_with fail
                with_reducible refine HHs.out.mono ?_
                rintro e w6 ⟨rfl, hc6⟩
                have HC6 := Lib.hid (HCk.out.trans hc6)
                clear hc6 HHs c2
                by_cases hLi : L = i
                · have hli : ((L : Int) == (i : Int)) = true := by simp [hLi]
                  rw [decide_eq_true hLi] at HPt
                  clear hLi
                  go_wp2
                  go_roundw
                  case rel => exact ⟨i + 1, by omega, by go_num, by rw [HNx.out, HPt.out]; simp, HC6.out⟩
                  case measure => simp [intOf]; omega
                · have hli : ((L : Int) == (i : Int)) = false := by simp; omega
                  rw [decide_eq_false hLi] at HPt
                  clear hLi
                  go_wp2
                  go_roundw
                  case rel => exact ⟨i + 1, by omega, by go_num, by rw [HNx.out, HPt.out]; simp, HC6.out⟩
                  case measure => simp [intOf]; omega
              | false =>
                rw [show (!false) = true from rfl] at HHs
                go_wp2_with fail
                with_reducible refine HHs.out.mono ?_
                rintro e w6 ⟨rfl, hc6⟩
                have HC6 := Lib.hid (HCk.out.trans hc6)
                clear hc6 HHs c2
                by_cases hLi : L = i
                · have hli : ((L : Int) == (i : Int)) = true := by simp [hLi]
                  rw [decide_eq_true hLi] at HPt
                  clear hLi
                  have hx := selT_at (z := z) (db := db) hlt (by rw [HPt.out]; rfl)
                  rw [← HCt.out] at hx
                  have hctm : ct < m := by rw [HM.out]; exact (List.getElem?_eq_some_iff.1 hx).1
                  obtain ⟨gx, hax, hcx⟩ : ∃ gx, ax = some ⟨gx, 0, none⟩ ∧ w6.cell? ⟨gx, ct, none⟩ = some (kv (z i)) := by
                    have hr := HR5.out
                    rw [HM.out] at hr
                    rcases (own_KAt hr).2.ch HC6.out (by unfold NotIn; simp) with h0 | ⟨b', off', e, h⟩
                    · rw [h0] at hx; simp at hx
                    · rcases HR5.out.2 with ⟨_, h0⟩ | ⟨g2, cap2, cur2, e2, _⟩
                      · omega
                      · cases e2
                        cases e
                        refine ⟨b', rfl, ?_⟩
                        have := h ct _ hx
                        rwa [Nat.zero_add] at this
                  subst hax
                  have c3 := HKc.out _ HC6.out i hlt
                  have hw1 : IntKind.i64.wrap ((ct : Int) - 1 + 1) = (ct : Int) := by rw [IntKind.wrap_i64]; omega
                  have hw2 : IntKind.i64.wrap (ct : Int) = (ct : Int) := by rw [IntKind.wrap_i64]; omega
                  have hge : decide ((m : Int) ≤ (ct : Int)) = false := by simp; omega
                  have hge2 : decide (m ≤ ct) = false := by simp; omega
                  have hct0 : (0 : Int) ≤ (ct : Int) := by omega
                  have hctm2 : (ct : Int) < (m : Int) := by omega
                  have hse : (z i != z i) = false := by simp
                  clear hx
                  go_wp2
                  go_quiet (fail)
                  go_wp2
                  go_roundw
                  case rel => exact ⟨i + 1, by omega, by go_num, by rw [HNx.out, HPt.out]; simp, HC6.out.drewN _⟩
                  case measure => simp [intOf]; omega
                · have hli : ((L : Int) == (i : Int)) = false := by simp; omega
                  rw [decide_eq_false hLi] at HPt
                  clear hLi
                  go_wp2
                  go_roundw
                  case rel => exact ⟨i + 1, by omega, by go_num, by rw [HNx.out, HPt.out]; simp, HC6.out⟩
                  case measure => simp [intOf]; omega

        · obtain rfl : n = i := by omega
          have HLe := Lib.hid HO5.out.len
          have hmc : ct = m := by rw [HCt.out, HM.out, selT_len]
          subst hmc
          clear hlt hi
          go_wp2_with fail
          with_reducible refine (known_any _).mono ?_
          rintro e w6 ⟨rfl, hc6⟩
          have HC6 := Lib.hid (HO5.out.ch.trans (HC.out.trans hc6))
          have hl6 := (HO5.out.quiet (HC.out.trans hc6)).len
          rw [← HM.out] at hl6
          have HL6 := Lib.hid hl6
          have hw1 : IntKind.i64.wrap ((ct : Int) - 1 + 1) = (ct : Int) := by rw [IntKind.wrap_i64]; omega
          have hw2 : IntKind.i64.wrap (ct : Int) = (ct : Int) := by rw [IntKind.wrap_i64]; omega
          have hee : ((ct : Int) == (ct : Int)) = true := by simp
          clear hc6 hl6
          go_wp2_with fail
          with_reducible refine HL6.out.mono ?_
          rintro e w7 ⟨rfl, hww⟩
          subst w7
          go_wp2
          go_ret
          exact ⟨rfl, HC6.out⟩
end Go.Proofs.Ytediabcgeghogaa
