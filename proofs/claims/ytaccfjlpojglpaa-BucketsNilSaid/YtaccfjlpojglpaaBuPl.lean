/-
  The law BucketsPlay, walked.
-/
import Derived.Test.YtaccfjlpojglpaaBuK
import Derived.Deep.CutBlock
namespace Go.Proofs.Ytaccfjlpojglpaa
open Go.RowKit bI

attribute [local go_sem] Oper.semAt_some

/-- A call that came in: three cells from o on. -/
def ActAt (W : World) (b o : Nat) : Prop := ∃ (kd : Int) (k : Nat) (x : Int), W.cell? ⟨b, o, none⟩ = some (.int .i64 kd) ∧ W.cell? ⟨b, o + 1, none⟩ = some (.int .u64 (k : Int)) ∧ W.cell? ⟨b, o + 2, none⟩ = some (.int .i64 x)
def ActsAt (W : World) (a : Option Addr) (len : Nat) : Prop := len = 0 ∨ ∃ b off, a = some ⟨b, off, none⟩ ∧ ∀ i, i < len → ActAt W b (off + i * 3)

theorem dels_twice (L : List E) (k : Nat) : delsE L [k, k] = (delE L k, if k ∈ ksE L then 1 else 0) := by
  unfold delsE
  unfold delsE
  rw [del_not (del_gone L k), if_neg (del_gone L k)]
  rfl

set_option maxRecDepth 100000 in
set_option maxHeartbeats 2000000 in
theorem bad_law (n room : Int) (v : Value) (w : World) (h : n < 1 ∨ 64 < n ∨ room < 1 ∨ 64 < room) :
    Calls Try.prog 3 #[.int .i64 n, .int .i64 room, v] w fun e w' => e = .returned (.bool true) ∧ Ch [] w w' := by
  have HN := Lib.hid (new_bad n room w (by omega))
  have HKn := Lib.hid (fun W => known_any W)
  have hc : decide (n < 1) = true ∨ (decide (n < 1) = false ∧ decide (64 < n) = true) ∨ (decide (n < 1) = false ∧ decide (64 < n) = false ∧ decide (room < 1) = true) ∨ (decide (n < 1) = false ∧ decide (64 < n) = false ∧ decide (room < 1) = false ∧ decide (64 < room) = true) := by
    simp only [decide_eq_true_eq, decide_eq_false_iff_not]
    omega
  clear h
  rcases hc with h1 | ⟨h1, h2⟩ | ⟨h1, h2, h3⟩ | ⟨h1, h2, h3, h4⟩
  all_goals
    go_enter Try.func3, Try.ntmps3
    go_wp2_with fail
    with_reducible refine HN.out.mono ?_
    rintro e w1 ⟨rfl, rfl⟩
    go_wp2_with fail
    with_reducible refine (HKn.out _).mono ?_
    rintro e w2 ⟨rfl, hc2⟩
    have HC := Lib.hid hc2
    clear hc2
    go_wp2_with fail
    go_ret
    exact ⟨rfl, HC.out⟩

set_option maxRecDepth 100000 in
set_option maxHeartbeats 4000000 in
theorem good_law (n room : Nat) (hn : 1 ≤ n ∧ n ≤ 64) (hr : 1 ≤ room ∧ room ≤ 64) (a : Option Addr) (len cap : Nat) (w : World) (hA : ActsAt w a len) (_ : len ≤ 9223372036854775807) :
    Calls Try.prog 3 #[.int .i64 (n : Int), .int .i64 (room : Int), .slice a len cap] w fun e w' => e = .returned (.bool true) ∧ Ch [] w w' := by
  have HNew := Lib.hid (tl_new n room w w (Ch.refl _ _) hn hr)
  have HKn := Lib.hid (fun W => known_any W)
  have HA := Lib.hid hA
  have Hn := Lib.hid hn
  have Hr := Lib.hid hr
  have hd1 : decide ((n : Int) < 1) = false := by simp; omega
  have hd2 : decide ((64 : Int) < (n : Int)) = false := by simp; omega
  have hd3 : decide ((room : Int) < 1) = false := by simp; omega
  have hd4 : decide ((64 : Int) < (room : Int)) = false := by simp; omega
  clear hA hn hr
  go_enter Try.func3, Try.ntmps3
  go_wp2_with fail
  with_reducible refine HNew.out.mono ?_
  rintro e w1 ⟨R, rfl, ht1, -⟩
  have HT1 := Lib.hid ht1
  have HR0 := Lib.hid (RR.nil w1 w.heap.size)
  clear ht1 HNew
  go_wp2_with fail
  clear hd1 hd2 hd3 hd4
  go_loopw [9, 10] (fun vm vi wr => ∃ (i : Nat) (L : List E), i ≤ len ∧ i ≤ 100 ∧ vi = .int .i64 (i : Int) ∧ RR wr w.heap.size vm L ∧ TL w wr w.heap.size R n room L)
    (fun _ vi _ => len - (intOf vi).toNat)
  case atStart => exact ⟨0, [], Nat.zero_le _, by omega, rfl, HR0.out, HT1.out⟩
  case round =>
    obtain ⟨i, L, hi, hi2, rfl, hr, ht⟩ := hrel
    have HR := Lib.hid hr
    have HT := Lib.hid ht
    clear hr ht
    by_cases hgo : i < len ∧ i < 100
    · obtain ⟨hlt, hlt2⟩ := hgo
      obtain ⟨b, off, hab, hact⟩ := HA.out.resolve_left (by omega)
      subst hab
      obtain ⟨kd, k, x, hc0, hc1, hc2⟩ := hact i hlt
      have c0 := (HT.out.ch.cell (p := ⟨b, off + i * 3, none⟩) (cell_lt hc0) (by simp)).trans hc0
      have c1 := (HT.out.ch.cell (p := ⟨b, off + i * 3 + 1, none⟩) (cell_lt hc1) (by simp)).trans hc1
      have c2 := (HT.out.ch.cell (p := ⟨b, off + i * 3 + 2, none⟩) (cell_lt hc2) (by simp)).trans hc2
      clear hact hc0 hc1 hc2
      have hb0 : (0 : Int) ≤ (i : Int) := by omega
      have hb1 : (i : Int) < (len : Int) := by omega
      have hb2 : (i : Int) < 100 := by omega
      obtain ⟨wa, hwa⟩ : ∃ wa, wr.alloc (.cells #[.int .i64 kd, .int .u64 (k : Int), .int .i64 x] 31) = wa := ⟨_, rfl⟩
      have HBx := Lib.hid (show wa.heap[wr.heap.size]? = some (.cells #[.int .i64 kd, .int .u64 (k : Int), .int .i64 x] 31 (0, 0)) by rw [← hwa]; exact World.alloc_heap_new wr _)
      have hal : Ch [] wr wa := by rw [← hwa]; exact (Ch.refl [] wr).alloc _
      have HRa := Lib.hid (HR.out.quiet hal)
      have HTa := Lib.hid (HT.out.quiet hal)
      have HWa := Lib.hid hwa
      obtain ⟨X0, hX0⟩ : ∃ X0, wr.heap.size = X0 := ⟨_, rfl⟩
      have HX0 := Lib.hid hX0
      rw [hX0] at HBx
      clear hwa hal hX0
      have u0 : 0 ≤ IntKind.u64.wrap kd ∧ IntKind.u64.wrap kd < 18446744073709551616 := by rw [IntKind.wrap_u64]; omega
      generalize hg0 : IntKind.u64.wrap kd = U at u0
      obtain ⟨u00, u01⟩ := u0
      obtain ⟨c, hc, hc4⟩ : ∃ c : Nat, U % 4 = (c : Int) ∧ c < 4 := ⟨(U % 4).toNat, by omega, by omega⟩
      go_upto_block 2 with fail
      rw [HWa.out, HX0.out]
      clear c0 c1 c2
      have b0 : wa.cell? ⟨X0, 0, none⟩ = some (.int .i64 kd) := (cell_plain HBx.out 0).1
      have b1 : wa.cell? ⟨X0, 1, none⟩ = some (.int .u64 (k : Int)) := (cell_plain HBx.out 1).1
      have b2 : wa.cell? ⟨X0, 2, none⟩ = some (.int .i64 x) := (cell_plain HBx.out 2).1
      go_cut [9, 12, 13, 14, 15, 16, 17, 18, 19, 20, 21, 22] from 55 to 219 (fun v9 _ _ _ _ _ _ _ _ _ _ _ wx => ∃ L2 : List E, RR wx w.heap.size v9 L2 ∧ TL w wx w.heap.size R n room L2 ∧ wx.heap[X0]? = some (.cells #[.int .i64 kd, .int .u64 (k : Int), .int .i64 x] 31 (0, 0)))
      case first =>
        have hle := HTa.out.le
        have HNd := Lib.hid hle.2.2.2.2.2.2
        have HL64 := Lib.hid (show L.length ≤ 64 by omega)
        have HSz := Lib.hid hle.1
        have HXl := Lib.hid (Array.getElem?_eq_some_iff.1 HBx.out).1
        clear hle hg0
        by_cases hp : U % 4 = 0 ∨ U % 4 = 1
        · obtain ⟨X, bq, er, hX⟩ : ∃ X bq er, putE room L k x = (X, bq, er) := ⟨_, _, _, rfl⟩
          have hRP := rput_any HRa.out HNd.out HL64.out HSz.out k x room Hr.out.2
          rw [hX] at hRP
          simp only at hRP
          have HRP := Lib.hid hRP
          have HX := Lib.hid hX
          have hbb : (bq != bq) = false := by simp
          have hee : ((er : Int) != (er : Int)) = false := by simp
          clear hRP hX
          rcases hp with hc | hc
          all_goals
            go_wp2_with fail
            with_reducible refine HRP.out.mono ?_
            rintro e w2 ⟨vm2, rfl, hr2, hc2⟩
            have HR2 := Lib.hid hr2
            have HB2 := Lib.hid ((hc2.block X0 HXl.out (by simp)).trans HBx.out)
            have HP := Lib.hid ((HTa.out.quiet hc2).put k x HX.out)
            have b1' := (cell_plain HB2.out 1).1
            have b2' := (cell_plain HB2.out 2).1
            simp only [List.getElem?_toArray, List.getElem?_cons_succ, List.getElem?_cons_zero] at b1' b2'
            clear hr2 hc2 b0 b1 b2 HRP
            go_wp2_with fail
            with_reducible refine HP.out.mono ?_
            rintro e w3 ⟨rfl, ht3, htn⟩
            have HR3 := Lib.hid (show RR w3 w.heap.size vm2 X from htn.row HR2.out (by decide) (by decide))
            have HB3 := Lib.hid (htn.blk HB2.out (by decide) (by decide))
            have HT3 := Lib.hid ht3
            clear ht3 htn HP b1' b2'
            go_wp2_with fail
            go_meet
            exact ⟨X, HR3.out, HT3.out, HB3.out⟩
        · by_cases hc : U % 4 = 2
          · have HRD := rdel_any HRa.out HNd.out HL64.out HSz.out k
            obtain ⟨bq, c, hbq, hc1, hcb⟩ : ∃ (bq : Bool) (c : Nat), decide (k ∈ ksE L) = bq ∧ delsE L [k, k] = (delE L k, c) ∧ c = if bq then 1 else 0 := by
              refine ⟨_, _, rfl, dels_twice L k, ?_⟩
              by_cases hk : k ∈ ksE L <;> simp [hk]
            rw [hbq] at HRD
            have HRD := Lib.hid HRD
            have HDs := Lib.hid hc1
            clear hbq hc1 hp
            go_wp2_with fail
            with_reducible refine HRD.out.mono ?_
            rintro e w2 ⟨vm2, rfl, hr2, hc2⟩
            have HR2 := Lib.hid hr2
            have HB2 := Lib.hid ((hc2.block X0 HXl.out (by simp)).trans HBx.out)
            have b1' := (cell_plain HB2.out 1).1
            simp only [List.getElem?_toArray, List.getElem?_cons_succ, List.getElem?_cons_zero] at b1'
            have hal := (Ch.refl [] w2).alloc (.cells #[.int .u64 (k : Int), .int .u64 (k : Int)] 29)
            have HD := Lib.hid ((HTa.out.quiet (hc2.trans hal)).del [k, k] (m := 2) (cap := 2) rfl (by omega) w2.heap.size (World.alloc_heap_new w2 _) HDs.out)
            have HAl := Lib.hid hal
            have HX2 := Lib.hid (Nat.lt_of_lt_of_le HXl.out hc2.size)
            clear hr2 hc2 b0 b1 b2 HRD hal
            go_wp2_with fail
            with_reducible refine HD.out.mono ?_
            rintro e w3 ⟨rfl, ht3, htn⟩
            have HR3 := Lib.hid (show RR w3 w.heap.size vm2 (delE L k) from htn.row (HR2.out.quiet HAl.out) (by decide) (by decide))
            have HB3 := Lib.hid (htn.blk ((HAl.out.block X0 HX2.out (by simp)).trans HB2.out) (by decide) (by decide))
            have HT3 := Lib.hid ht3
            clear ht3 htn HD b1'
            cases bq with
            | true =>
              rw [if_pos rfl] at hcb
              subst hcb
              go_wp2_with fail
              go_meet
              exact ⟨delE L k, HR3.out, HT3.out, HB3.out⟩
            | false =>
              rw [if_neg (by decide)] at hcb
              subst hcb
              go_wp2_with fail
              go_meet
              exact ⟨delE L k, HR3.out, HT3.out, HB3.out⟩
          · have hd0 : ((U % 4 : Int) == 0) = false := by simp; omega
            have hd1 : ((U % 4 : Int) == 1) = false := by simp; omega
            have hd2 : ((U % 4 : Int) == 2) = false := by simp; omega
            by_cases hk : k ∈ ksE L
            · obtain ⟨A, en, B, hLe, hke, hAk⟩ := key_parts hk
              have hRa := HRa.out
              rw [hLe] at hRa
              have hF := rfind_in hRa (by rw [hke]; exact hAk) (by rw [← hLe]; exact HL64.out)
              have hval := val_in HNd.out (x := en) (by rw [hLe]; simp)
              rw [hke] at hF hval
              have HG := Lib.hid (HTa.out.get k (v := en.v) (b := true) (by rw [hval]; rfl) (by rw [hval]; rfl))
              have HF := Lib.hid hF
              obtain ⟨g, cap', hv, -, -, -, m1, -⟩ := HRa.out.at (j := A.length) (e := en) (by rw [hLe]; simp)
              have hpl : A.length < L.length := by rw [hLe]; simp
              obtain ⟨p, hpe⟩ : ∃ p, p = A.length := ⟨_, rfl⟩
              obtain ⟨y, hy⟩ : ∃ y, y = en.v := ⟨_, rfl⟩
              obtain ⟨q, hq⟩ : ∃ q, q = L.length := ⟨_, rfl⟩
              have HQ := Lib.hid hq
              rw [← hpe] at HF m1 hpl
              rw [← hy] at HG m1
              rw [← hq] at hv hpl
              subst hv
              have HM := Lib.hid m1
              have hge : decide ((0 : Int) ≤ (p : Int)) = true := by simp
              have hp0 : (0 : Int) ≤ (p : Int) := by omega
              have hpq : (p : Int) < (q : Int) := by omega
              have hyy : (y != y) = false := by simp
              clear hRa hF hval hLe hke hAk hpe hy hq hk hp hc m1
              go_wp2_with fail
              with_reducible refine HF.out.mono ?_
              rintro e w2 ⟨rfl, hw2⟩
              subst w2
              go_wp2_with fail
              with_reducible refine HG.out.mono ?_
              rintro e w3 ⟨rfl, hc3⟩
              have m1 := (hc3.cell (p := ⟨g, p * 2 + 1, none⟩) (cell_lt HM.out) (by simp)).trans HM.out
              have HB3 := Lib.hid ((hc3.block X0 HXl.out (by simp)).trans HBx.out)
              have HT3 := Lib.hid (HTa.out.quiet hc3)
              have HR3 := Lib.hid (HRa.out.quiet hc3)
              clear hc3 HF HG b0 b1 b2
              go_wp2_with fail
              go_meet
              exact ⟨L, HR3.out, HT3.out, HB3.out⟩
            · have HF := Lib.hid (rfind_not HRa.out hk HL64.out)
              have hval := val_not hk
              have HG := Lib.hid (HTa.out.get k (v := 0) (b := false) (by rw [hval]; rfl) (by rw [hval]; rfl))
              clear hval hk hp hc
              go_wp2_with fail
              with_reducible refine HF.out.mono ?_
              rintro e w2 ⟨rfl, hw2⟩
              subst w2
              go_wp2_with fail
              with_reducible refine HG.out.mono ?_
              rintro e w3 ⟨rfl, hc3⟩
              have HB3 := Lib.hid ((hc3.block X0 HXl.out (by simp)).trans HBx.out)
              have HT3 := Lib.hid (HTa.out.quiet hc3)
              have HR3 := Lib.hid (HRa.out.quiet hc3)
              clear hc3 HF HG b0 b1 b2
              go_wp2_with fail
              go_meet
              exact ⟨L, HR3.out, HT3.out, HB3.out⟩
      case rest =>
        obtain ⟨L2, hr2, ht2, hbx⟩ := hcut
        have HR2 := Lib.hid hr2
        have HT2 := Lib.hid ht2
        have HBx2 := Lib.hid hbx
        have hle := ht2.le
        have hl64 : L2.length ≤ 64 := by omega
        have HL64 := Lib.hid hl64
        obtain ⟨am, cm, hvm⟩ := hr2.form
        subst hvm
        have b1 := (cell_plain hbx 1).1
        simp only [List.getElem?_toArray, List.getElem?_cons_succ, List.getElem?_cons_zero] at b1
        obtain ⟨bb, hbb⟩ : ∃ bb, bb = bk n k := ⟨_, rfl⟩
        have hbn : bb < n := by rw [hbb]; exact bk_lt (by have := Hn.out; omega) k
        have hB := ht2.bucket k
        have hRB := rbucket_any n k wc Hn.out
        rw [← hbb] at hB hRB
        have HB := Lib.hid hB
        have HRB := Lib.hid hRB
        have HLen := ht2.len
        obtain ⟨q, hq⟩ : ∃ q, q = L2.length := ⟨_, rfl⟩
        rw [← hq] at HLen
        have HQ := Lib.hid hq
        have HLen := Lib.hid HLen
        have HKs := Lib.hid ht2.keys
        have HKl := Lib.hid (keysE_len (show 0 < n by have := Hn.out; omega) L2)
        have hbbe : ((bb : Int) != (bb : Int)) = false := by simp
        have hqqe : ((q : Int) != (q : Int)) = false := by simp
        rw [← hq] at HKl ⊢
        have HKl2 := Lib.hid (show (keysE n L2).length = q from HKl.out)
        clear hr2 ht2 hbx hle hl64 hbb hB hRB hq HKl
        go_wp2_with fail
        with_reducible refine HB.out.mono ?_
        rintro e w2 ⟨rfl, hw2⟩
        subst w2
        go_wp2_with fail
        with_reducible refine HRB.out.mono ?_
        rintro e w2 ⟨rfl, hw2⟩
        subst w2
        go_wp2_with fail
        with_reducible refine HLen.out.mono ?_
        rintro e w2 ⟨rfl, hw2⟩
        subst w2
        clear HB HRB HLen b1
        go_wp2_with fail
        with_reducible refine HKs.out.mono ?_
        rintro e w2 ⟨v2, rfl, hr3, hc3⟩
        obtain ⟨a3, c3, rfl⟩ := own_form hr3
        rw [HKl2.out] at hr3 ⊢
        have HK3 := Lib.hid (own_KU hr3).2
        have HT3 := Lib.hid (HT2.out.quiet hc3)
        have HR3 := Lib.hid (HR2.out.quiet hc3)
        have hRK := rkeys_any HR3.out HL64.out n Hn.out
        rw [← HQ.out] at hRK
        have HRK := Lib.hid hRK
        clear hr3 hc3 HKs hRK
        go_wp2_with fail
        with_reducible refine HRK.out.mono ?_
        rintro e w3 ⟨v3, rfl, hr4, hc4⟩
        obtain ⟨a4, c4, rfl⟩ := own_form hr4
        rw [HKl2.out] at hr4 ⊢
        have HT4 := Lib.hid (HT3.out.quiet hc4)
        have HR4 := Lib.hid (HR3.out.quiet hc4)
        have HSm := Lib.hid (same_eq a3 a4 c3 c4 (keysE n L2) HKl2.out.symm w3 (by have := HL64.out; have := HQ.out; omega) (KU_quiet HK3.out hc4) (own_KU hr4).2)
        clear hr4 hc4 HRK HT3 HR3 HK3
        go_wp2_with fail
        with_reducible refine HSm.out.mono ?_
        rintro e w4 ⟨rfl, nq, hw4⟩
        have hc5 : Ch [] w3 w4 := by rw [hw4]; exact (Ch.refl [] w3).drewN nq
        have HT5 := Lib.hid (HT4.out.quiet hc5)
        have HR5 := Lib.hid (HR4.out.quiet hc5)
        have hCh := HT5.out.chain (bb : Int)
        rw [chI_in hbn] at hCh
        have HCh := Lib.hid hCh
        obtain ⟨m, hm⟩ : ∃ m, m = (chn n bb L2).length := ⟨_, rfl⟩
        have HM := Lib.hid (show (chn n bb L2).length = m from hm.symm)
        have HMl := Lib.hid (show m = (ksE (chn n bb L2)).length by rw [hm]; simp [ksE])
        have HM64 := Lib.hid (show m ≤ 64 by rw [hm]; exact Nat.le_trans (chn_len n bb L2) HL64.out)
        clear hw4 hc5 HSm hCh hm HT4 HR4
        go_wp2_with fail
        with_reducible refine HCh.out.mono ?_
        rintro e w5 ⟨v5, rfl, hr6, hc6⟩
        obtain ⟨a6, c6, rfl⟩ := own_form hr6
        rw [HM.out] at hr6 ⊢
        have HK6 := Lib.hid (own_KU hr6).2
        have HT6 := Lib.hid (HT5.out.quiet hc6)
        have HR6 := Lib.hid (HR5.out.quiet hc6)
        have hRC := rchain_any HR6.out HL64.out n bb Hn.out
        rw [← HQ.out] at hRC
        have HRC := Lib.hid hRC
        clear hr6 hc6 HCh HT5 HR5 hRC
        go_wp2_with fail
        with_reducible refine HRC.out.mono ?_
        rintro e w6 ⟨v6, rfl, hr7, hc7⟩
        obtain ⟨a7, c7, rfl⟩ := own_form hr7
        rw [HM.out] at hr7 ⊢
        have HT7 := Lib.hid (HT6.out.quiet hc7)
        have HR7 := Lib.hid (HR6.out.quiet hc7)
        have HSm := Lib.hid (same_eq a6 a7 c6 c7 (ksE (chn n bb L2)) HMl.out w6 (by have := HM64.out; omega) (KU_quiet HK6.out hc7) (own_KU hr7).2)
        clear hr7 hc7 HRC HT6 HR6 HK6
        go_wp2_with fail
        with_reducible refine HSm.out.mono ?_
        rintro e w7 ⟨rfl, nr, hw7⟩
        have hc8 : Ch [] w6 w7 := by rw [hw7]; exact (Ch.refl [] w6).drewN nr
        have HT8 := Lib.hid (HT7.out.quiet hc8)
        have HR8 := Lib.hid (HR7.out.quiet hc8)
        have hCh := HT8.out.chain (n : Int)
        rw [chI_out (.inr (Int.le_refl _))] at hCh
        have HCh := Lib.hid hCh
        clear hw7 hc8 HSm hCh HT7 HR7
        go_wp2_with fail
        with_reducible refine HCh.out.mono ?_
        rintro e w8 ⟨v8, rfl, hr9, hc9⟩
        obtain ⟨a9, c9, rfl⟩ := own_form hr9
        rw [show ([] : List E).length = 0 from rfl]
        have HT9 := Lib.hid (HT8.out.quiet hc9)
        have HR9 := Lib.hid (HR8.out.quiet hc9)
        have hCh := HT9.out.chain (-1)
        rw [chI_out (.inl (by decide))] at hCh
        have HCh := Lib.hid hCh
        clear hr9 hc9 hCh HT8 HR8
        go_wp2_with fail
        with_reducible refine HCh.out.mono ?_
        rintro e w9 ⟨v9, rfl, hr10, hc10⟩
        obtain ⟨a10, c10, rfl⟩ := own_form hr10
        rw [show ([] : List E).length = 0 from rfl]
        have HT10 := Lib.hid (HT9.out.quiet hc10)
        have HR10 := Lib.hid (HR9.out.quiet hc10)
        clear hr10 hc10 HCh
        go_wp2
        go_roundw
        case rel => exact ⟨i + 1, L2, by omega, by omega, by go_num, by rw [HQ.out]; exact HR10.out, HT10.out⟩
        case measure => simp [intOf]; omega
    · by_cases hlt : i < len
      · have h64 : ¬ (i : Int) < 100 := by omega
        go_wp2_with fail
        with_reducible refine (HKn.out _).mono ?_
        rintro e w2 ⟨rfl, hc2⟩
        have HC := Lib.hid (HT.out.ch.trans hc2)
        clear hc2
        go_wp2_with fail
        go_ret
        exact ⟨rfl, HC.out⟩
      · go_wp2_with fail
        with_reducible refine (HKn.out _).mono ?_
        rintro e w2 ⟨rfl, hc2⟩
        have HC := Lib.hid (HT.out.ch.trans hc2)
        clear hc2
        go_wp2_with fail
        go_ret
        exact ⟨rfl, HC.out⟩
end Go.Proofs.Ytaccfjlpojglpaa
