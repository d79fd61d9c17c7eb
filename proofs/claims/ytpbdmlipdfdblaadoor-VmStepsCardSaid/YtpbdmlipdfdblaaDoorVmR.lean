/-
  VmEnds. (Written by gen/vm19r.py.)
-/
import Derived.Test.YtpbdmlipdfdblaaDoorMgL
import Derived.Test.YtpbdmlipdfdblaaDoorVmQ
namespace Go.Proofs.YtpbdmlipdfdblaaDoor
open Go.RowKit Go.BigFrame

attribute [local go_sem] Oper.semAt_some

theorem InsAt.take {w : World} {a : Option Addr} {L : List I5} (h : InsAt w a L) (k : Nat) : InsAt w a (L.take k) := by
  rcases h with rfl | ⟨b, off, rfl, hc⟩
  · exact .inl (by simp)
  · refine .inr ⟨b, off, rfl, fun i hi => ?_⟩
    have h1 : i < L.length := by rw [List.length_take] at hi; omega
    rw [List.getElem_take]
    exact hc i h1
theorem take_fit {L : List I5} (h : ∀ x ∈ L, Fit x) (k : Nat) : ∀ x ∈ L.take k, Fit x := fun x hx => h x (List.mem_of_mem_take hx)
/-- The instructions that come in, as the program's. -/
theorem code64 {W : World} {a : Option Addr} {len cap : Nat} {L0 : List I5} (hlen : L0.length = len) (hI : InsAt W a L0) :
    Calls Tryd.prog 7 #[.slice a len cap, .int .i64 64] W fun e w' => ∃ ra rc, e = .returned (.slice ra (L0.take 64).length rc) ∧ InsAt w' ra (L0.take 64) ∧ Ch [] W w' := by
  refine (show Calls Tryd.prog 7 #[.slice a len cap, .int .i64 64] W fun e w' => ∃ v, e = .returned v ∧ IR w' W.heap.size 59 v (L0.take 64) ∧ Ch [] W w' from code_any (cap := cap) (m := 64) hlen (by omega) hI).mono ?_
  rintro e w' ⟨v, rfl, hr, hc⟩
  obtain ⟨ra, rc, rfl, hi, -⟩ := hr.form
  exact ⟨ra, rc, rfl, hi, hc⟩
theorem res_bad (L : List I5) (sl : Bool) (h : L = []) : (res L sl).2 ≠ 0 := by rw [h, res_long (by simp)]; decide

/-- How far a run has come in round j: it is over, or has taken so much of its fuel. -/
def EJ (L : List I5) (u j : Nat) (s : RNS) : Prop := GS L s ∧ (s.t.k = 1 ∨ (s.t.k = 0 ∧ s.u + j = u))
theorem EJ.next {L : List I5} {u j : Nat} {s : RNS} (h : EJ L u j s) (hk : s.t.k = 0) :
    (s.u = 0 ∧ goS L 1 s = s.stop 16) ∨ (0 < s.u ∧ (goS L 1 s).u + (j + 1) = u ∧ (goS L 1 s).u = s.u - 1) := by
  have e : goS L 1 s = oneS L s := rfl
  by_cases hu : s.u = 0
  · left; exact ⟨hu, by rw [e]; unfold oneS; rw [if_neg (by rw [hk]; simp), if_pos hu]⟩
  · right
    have hu2 : (goS L 1 s).u = s.u - 1 := by rw [e]; unfold oneS; rw [if_neg (by rw [hk]; simp), if_neg hu, insS_u]
    rcases h.2 with h1 | ⟨_, h2⟩
    · rw [hk] at h1; cases h1
    · exact ⟨by omega, by omega, hu2⟩

set_option maxRecDepth 100000 in
set_option maxHeartbeats 16000000 in
theorem ends_law {a : Option Addr} {len cap : Nat} {L0 : List I5} {fuel : Int} {v : V5} {w : World} (hlen : L0.length = len) (hfit0 : ∀ x ∈ L0, Fit x) (hI0 : InsAt w a L0) (hv : W64 v.n) (hT : Tb w) :
    Calls Tryd.prog 4 #[.slice a len cap, .int .i64 fuel, vv v] w fun e w' => e = .returned (.bool true) ∧ Ch [] w w' := by
  obtain ⟨L, hLd⟩ : ∃ L, L0.take 64 = L := ⟨_, rfl⟩
  have hfit : ∀ x ∈ L, Fit x := by rw [← hLd]; exact take_fit hfit0 64
  obtain ⟨w1, hw1⟩ : ∃ W, w.alloc (.cells #[.bool v.r, .int .i64 v.m, .int .i64 v.s, .int .i64 v.g, .int .u64 (v.n : Int)] 52) = W := ⟨_, rfl⟩
  have hc1 : Ch [] w w1 := by rw [← hw1]; exact (Ch.refl [] w).alloc _
  have hV : B5 w1 w.heap.size v := by rw [← hw1]; exact B5.new w v 52
  have HCd := code64 (cap := cap) hlen (hI0.ch hc1 (by simp))
  rw [hLd] at HCd
  replace HCd := Lib.hid HCd
  have HT := Lib.hid hT
  have HV := Lib.hid hV
  have HC1 := Lib.hid hc1
  have HW1 := Lib.hid hw1
  have HFit := Lib.hid hfit
  have HVn := Lib.hid hv
  obtain ⟨q, hq⟩ : ∃ q : Nat, q = wdN fuel := ⟨_, rfl⟩
  obtain ⟨r, hr⟩ : ∃ r : Nat, r = q % 256 := ⟨_, rfl⟩
  have g1 : IntKind.u64.wrap fuel = (q : Int) := by rw [IntKind.wrap_u64, hq]; unfold wdN; omega
  have g2 : (q : Int).tmod 256 = (r : Int) := by rw [Int.tmod_eq_emod_of_nonneg (by omega)]; omega
  have hr256 : r < 256 := by omega
  have g3 : IntKind.i64.wrap (r : Int) = (r : Int) := by rw [IntKind.wrap_i64]; clear g1 g2 hq hr; omega
  obtain ⟨u, hu⟩ : ∃ u : Nat, u = 1 + r := ⟨_, rfl⟩
  have g4 : IntKind.i64.wrap (1 + (r : Int)) = (u : Int) := by rw [IntKind.wrap_i64]; clear g1 g2 g3 hq hr; omega
  have HU := Lib.hid (show 1 ≤ u ∧ u ≤ 256 by omega)
  have HNum := Lib.hid (fun W => show Calls Tryd.prog 21 #[.int .u64 1] W fun e w' => e = .returned (vv (num 1)) ∧ Ch [] W w' from num_any 1 W)
  clear hlen hfit0 hI0 hLd hT hw1 hc1 hV hq hr hu hfit hv hr256
  unfold vv
  go_enter Tryd.func4, Tryd.ntmps4
  go_wp2_with fail
  rw [HW1.out]
  with_reducible refine HCd.out.mono ?_
  rintro e w2 ⟨ra, rc, rfl, hIn, hc2⟩
  obtain ⟨w3, hw3⟩ : ∃ W, w2.alloc (.cells #[.slice ra L.length rc, .bool true] 27) = W := ⟨_, rfl⟩
  have hc3 : Ch [] w2 w3 := by rw [← hw3]; exact (Ch.refl [] w2).alloc _
  have HTw := Lib.hid (show Two w3 w2.heap.size (.slice ra L.length rc) (.bool true) from by rw [← hw3]; exact Two.new w2 _ _ 27)
  obtain ⟨PB, hPB⟩ : ∃ k, w2.heap.size = k := ⟨_, rfl⟩
  rw [hPB] at HTw
  have HPB := Lib.hid hPB
  have HIn := Lib.hid (hIn.ch hc3 (by simp))
  have HC3 := Lib.hid ((HC1.out.trans hc2).trans hc3)
  have HV3 := Lib.hid (HV.out.quiet (hc2.trans hc3))
  have HW3 := Lib.hid hw3
  have HKn := Lib.hid (fun W (h : Ch [] w3 W) => known19 (HT.out.ch (HC3.out.trans h)))
  clear hIn hc2 hc3 hw3 hPB HC1 HV HCd HW1
  go_wp2_with fail
  rw [HPB.out, HW3.out]
  by_cases hr : (res L true).2 = 0
  · obtain ⟨cb, off, rfl, hf⟩ : ∃ cb off, ra = some ⟨cb, off, none⟩ ∧ ∀ i (hi : i < L.length), FiveO w3 cb (off + i * 5) L[i] := by
      rcases HIn.out with h0 | h
      · exact absurd hr (res_bad L true h0)
      · exact h
    have HNew := Lib.hid (vnew_any (n := L.length) (cap := rc) (sl := true) (a := none) (m := 0) (mc := 0) (l := []) rfl HFit.out hf (HT.out.ch HC3.out) hr HU.out rfl (by decide) (.inl rfl) (fun _ _ => rfl))
    have HR := Lib.hid (RP.of HFit.out hr)
    clear hf hr HIn HFit
    with_reducible refine HNew.out.mono ?_
    rintro e w4 ⟨b, c, rfl, hB, hc4, hbl, -⟩
    have HB0 := Lib.hid hB
    have HC0 := Lib.hid hc4
    have HBl := Lib.hid (show w3.heap.size ≤ b from hbl)
    have HNv := Lib.hid (show w.heap.size ∉ [b] from by have := HV3.out.a.lt; have := HBl.out; simp; omega)
    have HE0 := Lib.hid (show EJ L u 0 (newS u []) from ⟨gs0 HR.out HU.out.2, .inr ⟨rfl, rfl⟩⟩)
    clear hB hc4 hbl HNew
    go_wp2_with fail
    go_loopw [12] (fun i wr => ∃ (j : Nat) (s : RNS), i = .int .i64 (j : Int) ∧ j ≤ u + 1 ∧ RB wr b c L s ∧ EJ L u j s ∧ Ch [] w3 wr) (fun i _ => u + 1 - (intOf i).toNat)
    case atStart => exact ⟨0, newS u [], rfl, Nat.zero_le _, HB0.out, HE0.out, HC0.out⟩
    case round =>
      obtain ⟨j, s, rfl, hj, hb, he, hc⟩ := hrel
      have HB := Lib.hid hb
      have HE := Lib.hid he
      have HC := Lib.hid hc
      clear hb he hc
      by_cases hju : j ≤ u
      · have HJ := Lib.hid hju
        have hw : IntKind.i64.wrap ((j : Int) + 1) = ((j + 1 : Nat) : Int) := by rw [IntKind.wrap_i64]; have := HU.out; omega
        by_cases hk : s.t.k = 1
        · have HO := over_any HB.out
          rw [show (s.t.k == 1) = true by rw [hk]; rfl] at HO
          replace HO := Lib.hid HO
          have HK1 := Lib.hid hk
          clear hk
          go_wp2_with fail
          with_reducible refine HO.out.mono ?_
          rintro e w5 ⟨rfl, rfl⟩
          clear HO
          go_wp2_with fail
          with_reducible refine (HKn.out _ HC.out).mono ?_
          rintro e x1 ⟨rfl, hd1⟩
          have HB1 := Lib.hid (HB.out.quiet hd1)
          have HD1 := Lib.hid (HC.out.trans hd1)
          clear hd1
          have HO := over_any HB1.out
          rw [show (s.t.k == 1) = true by rw [HK1.out]; rfl] at HO
          replace HO := Lib.hid HO
          have HA := asks_any HB1.out
          rw [show (!(s.t.k == 1) && s.t.k != 0) = false by rw [HK1.out]; rfl] at HA
          replace HA := Lib.hid HA
          go_wp2_with fail
          with_reducible refine HO.out.mono ?_
          rintro e x2 ⟨rfl, rfl⟩
          go_wp2_with fail
          with_reducible refine HA.out.mono ?_
          rintro e x2 ⟨rfl, rfl⟩
          have HGo := Lib.hid (go_at HB1.out HR.out HE.out.1 (n := 3) (by decide) (N := 3) rfl (k := 1) (by rw [goS_stop (by rw [HK1.out]; decide)]; exact HK1.out))
          clear HO HA
          go_wp2_with fail
          with_reducible refine HGo.out.mono ?_
          rintro e x2 ⟨Z2, rfl, hfd, -, hb2, hd2⟩
          rw [goS_stop (by rw [HK1.out]; decide)] at hb2
          have HB2 := Lib.hid hb2
          have HD2 := Lib.hid (HD1.out.fresh hd2 (by have := HBl.out; simpa using this))
          clear hb2 hd2 HGo
          go_wp2_with fail
          with_reducible refine (HNum.out _).mono ?_
          rintro e x3 ⟨rfl, hd3⟩
          have HB3 := Lib.hid (HB2.out.quiet hd3)
          have HD3 := Lib.hid (HD2.out.trans hd3)
          have HGv := Lib.hid (give_no HB3.out (.inr HK1.out) (num 1) 0)
          generalize num 1 = y1 at *
          unfold vv at HGv
          unfold vv
          clear hd3 hfd
          go_wp2_with fail
          with_reducible refine HGv.out.mono ?_
          rintro e x4 ⟨rfl, hd4⟩
          have HEn := Lib.hid (end_over (HB3.out.quiet hd4) HK1.out 1)
          have HD4 := Lib.hid (HC3.out.trans (HD3.out.trans hd4))
          clear hd4 HGv
          go_wp2_with fail
          with_reducible refine HEn.out.mono ?_
          rintro e x5 ⟨rfl, rfl⟩
          clear HEn
          go_wp2_with fail
          go_ret
          exact ⟨rfl, HD4.out⟩
        · have hk0 : s.t.k = 0 := by rcases HE.out.2 with h | ⟨h, _⟩; exact absurd h hk; exact h
          have HO := over_any HB.out
          rw [show (s.t.k == 1) = false by rw [hk0]; rfl] at HO
          replace HO := Lib.hid HO
          have hnx := HE.out.next hk0
          have hgs1 := HE.out.1.go HR.out 1
          have HFu := fuel_any HB.out
          obtain ⟨z, hz⟩ : ∃ z : Int, (s.u : Int) = z := ⟨_, rfl⟩
          rw [hz] at HFu
          replace HFu := Lib.hid HFu
          have HPl1 := place_any HB.out
          have hp0 : ¬ s.p < 0 := by have := HE.out.1.p0; omega
          have hp1 : s.p < (L.length : Int) := HE.out.1.p1
          have hp2 : ¬ (L.length : Int) ≤ s.p := by omega
          obtain ⟨p, hp⟩ : ∃ p, s.p = p := ⟨_, rfl⟩
          rw [hp] at HPl1 hp0 hp1 hp2
          replace HPl1 := Lib.hid HPl1
          have HGo := Lib.hid (go_any HB.out HR.out HE.out.1 (n := 1) (by decide))
          rw [show (1 : Int).toNat = 1 from rfl] at HGo
          obtain ⟨s1, hs1⟩ : ∃ s1, goS L 1 s = s1 := ⟨_, rfl⟩
          rw [hs1] at HGo hnx hgs1
          obtain ⟨A, hA⟩ : ∃ A, tl s1.t = A := ⟨_, rfl⟩
          have hl := tl_len s1.t
          have h1 := tl_one s1.t
          have ha0 : (tl s1.t)[0]? = some (.int .i64 s1.t.k) := rfl
          have hne := neq_trap s1.t
          rw [hA] at HGo hl h1 ha0 hne
          have HA := Lib.hid hA
          have HAl := Lib.hid hl
          have HA1 := Lib.hid h1
          have HA0 := Lib.hid ha0
          have HNe := Lib.hid hne
          have HG1 := Lib.hid hgs1
          have HNx := Lib.hid hnx
          have HZz := Lib.hid hz
          clear hk hk0 hp hs1 hA hl h1 ha0 hne hgs1 hnx hz
          go_wp2_with fail
          with_reducible refine HO.out.mono ?_
          rintro e w5 ⟨rfl, rfl⟩
          clear HO
          go_wp2_with fail
          with_reducible refine HFu.out.mono ?_
          rintro e w5 ⟨rfl, rfl⟩
          go_wp2_with fail
          with_reducible refine HPl1.out.mono ?_
          rintro e w5 ⟨rfl, rfl⟩
          go_wp2_with fail
          with_reducible refine HGo.out.mono ?_
          rintro e w6 ⟨rfl, hb6, hc6⟩
          obtain ⟨wb, wc, hwb, htb, hwc, hrc, -, hcc⟩ := new_trap w6 HAl.out
          obtain ⟨T, hTd⟩ : ∃ T, w6.heap.size = T := ⟨_, rfl⟩
          rw [hTd] at htb hwc hrc
          have hA0 : wc.rangeAt T 0 A := hrc
          have hA1 : wc.cell? ⟨T, 0, none⟩ = some (.int .i64 s1.t.k) := hrc 0 _ HA0.out
          have HTd := Lib.hid hTd
          have HWb := Lib.hid hwb
          have HWc := Lib.hid hwc
          have HTb := Lib.hid htb
          have HB9 := Lib.hid (hb6.quiet hcc)
          have HC9 := Lib.hid ((HC.out.fresh hc6 (by have := HBl.out; simpa using this)).trans hcc)
          have HNt := Lib.hid (show T ∉ [b] from by have := hb6.lt; simp; omega)
          have HV9 := Lib.hid (HV3.out.quiet HC9.out)
          have t0 : wc.cell? ⟨PB, 0, none⟩ = some (.slice (some ⟨cb, off, none⟩) L.length rc) := (HC9.out.cell (p := ⟨PB, 0, none⟩) (cell_lt HTw.out.c0) (by simp)).trans HTw.out.c0
          clear hb6 hc6 hwb htb hwc hrc hcc hTd HGo HFu HPl1
          have HFu1 := fuel_any HB9.out
          obtain ⟨k1, hk1⟩ : ∃ k1, s1.t.k = k1 := ⟨_, rfl⟩
          rw [hk1] at hA1
          have HK1 := Lib.hid hk1
          have hAs := asks_any HB9.out
          rw [hk1] at hAs
          clear hk1
          rcases HNx.out with ⟨hu0, hs1e⟩ | ⟨hu0, hu1, hu2⟩
          · have hzz := HZz.out
            obtain rfl : z = 0 := by omega
            have hk1 := HK1.out
            rw [hs1e] at hk1
            obtain rfl : 1 = k1 := hk1
            have HCo := codeE_any HB9.out
            rw [show s1.e = 16 by rw [hs1e]; rfl] at HCo
            replace HCo := Lib.hid HCo
            rw [show (s1.u : Int) = 0 by rw [hs1e]; exact hzz] at HFu1
            replace HFu1 := Lib.hid HFu1
            have HAs := Lib.hid (show Calls Tryd.prog 20 #[.pointer (some ⟨b, 0, none⟩)] wc.drew fun e w' => e = .returned (.bool false) ∧ wc.drew = w' from by have := asks_any (HB9.out.quiet (Ch.refl [] wc).drew); rw [HK1.out] at this; exact this)
            have HE1 := Lib.hid (show EJ L u (j + 1) s1 from ⟨HG1.out, .inl HK1.out⟩)
            clear hu0 hs1e hzz hAs hA0
            go_wp2_with (first
              | ((with_reducible show wpList _ _ _ (Oper.mk _ (Op.alloc 44) _ _ _ _ :: _) _ _); refine wpList_allocZ zT rfl (by rfl) ?_; rw [HTd.out, HWb.out])
              | ((with_reducible show wpList _ _ _ (Oper.mk _ (Op.store 44 _ _) _ _ _ _ :: _) _ _); refine wpList_writeA rfl HTb.out HAl.out HA1.out (by rfl) (by rfl) (by rfl) ?_; rw [HWc.out])
              | fail)
            with_reducible refine HCo.out.mono ?_
            rintro e w7 ⟨rfl, rfl⟩
            go_wp2_with fail
            with_reducible refine HFu1.out.mono ?_
            rintro e w7 ⟨rfl, rfl⟩
            clear HCo HFu1
            go_wp2_with fail
            refine wp_region_noPanic ?_
            refine wp_region_held_drew (S := fun _ : World => True) (by kernel_rfl) trivial (fun hHeld => ?_)
            refine wpAnyH_take (i := 0) (oi := { dst := some 95, op := _, type := _, pos := _, after := _, guard := _ }) (v := ?v1_0) rfl (by kernel_rfl) (by kernel_rfl) (by kernel_rfl) (fun _ _ _ h => h) (.inl ⟨by rfl, ?h1_0⟩) (by assumption) ?_
            case h1_0 => intro wz hSw; go_simp; (try with_reducible rfl)
            try simp only [Act.put, List.setIfInBounds_toArray, List.set_cons_zero, List.set_cons_succ]
            refine wpAnyH_ready (rs := [1]) (by kernel_rfl) (by simp) ?_
            refine AllReadyH.cons (o := { dst := some 96, op := _, type := _, pos := _, after := _, guard := _ }) rfl (fun K hK => ?_) AllReadyH.nil
            go_simp
            with_reducible refine HAs.out.mono ?_
            rintro e w9 ⟨rfl, rfl⟩
            refine hK.out _ _ trivial (fun hHeld => ?_)
            clear hK K
            try simp only [Act.put, List.setIfInBounds_toArray, List.set_cons_zero, List.set_cons_succ]
            refine wpAnyH_take (i := 2) (oi := { dst := some 97, op := _, type := _, pos := _, after := _, guard := _ }) (v := ?v2_2) rfl (by kernel_rfl) (by kernel_rfl) (by kernel_rfl) (fun _ _ _ h => h) (.inl ⟨by rfl, ?h2_2⟩) (by assumption) ?_
            case h2_2 => intro wz hSw; go_simp; (try with_reducible rfl)
            try simp only [Act.put, List.setIfInBounds_toArray, List.set_cons_zero, List.set_cons_succ]
            refine wpAnyH_take (i := 3) (oi := { dst := some 98, op := _, type := _, pos := _, after := _, guard := _ }) (v := undef) rfl (by kernel_rfl) (by kernel_rfl) (by kernel_rfl) (fun _ _ _ h => h) (.inr ⟨by rfl, rfl⟩) (by assumption) ?_
            try simp only [Act.put, List.setIfInBounds_toArray, List.set_cons_zero, List.set_cons_succ]
            refine wpAnyH_take (i := 4) (oi := { dst := some 99, op := _, type := _, pos := _, after := _, guard := _ }) (v := undef) rfl (by kernel_rfl) (by kernel_rfl) (by kernel_rfl) (fun _ _ _ h => h) (.inr ⟨by rfl, rfl⟩) (by assumption) ?_
            try simp only [Act.put, List.setIfInBounds_toArray, List.set_cons_zero, List.set_cons_succ]
            refine wpAnyH_take (i := 5) (oi := { dst := some 100, op := _, type := _, pos := _, after := _, guard := _ }) (v := undef) rfl (by kernel_rfl) (by kernel_rfl) (by kernel_rfl) (fun _ _ _ h => h) (.inr ⟨by rfl, rfl⟩) (by assumption) ?_
            try simp only [Act.put, List.setIfInBounds_toArray, List.set_cons_zero, List.set_cons_succ]
            refine wpAnyH_take (i := 6) (oi := { dst := some 101, op := _, type := _, pos := _, after := _, guard := _ }) (v := undef) rfl (by kernel_rfl) (by kernel_rfl) (by kernel_rfl) (fun _ _ _ h => h) (.inr ⟨by rfl, rfl⟩) (by assumption) ?_
            try simp only [Act.put, List.setIfInBounds_toArray, List.set_cons_zero, List.set_cons_succ]
            refine wpAnyH_take (i := 7) (oi := { dst := some 102, op := _, type := _, pos := _, after := _, guard := _ }) (v := undef) rfl (by kernel_rfl) (by kernel_rfl) (by kernel_rfl) (fun _ _ _ h => h) (.inr ⟨by rfl, rfl⟩) (by assumption) ?_
            try simp only [Act.put, List.setIfInBounds_toArray, List.set_cons_zero, List.set_cons_succ]
            refine wpAnyH_take (i := 8) (oi := { dst := some 103, op := _, type := _, pos := _, after := _, guard := _ }) (v := undef) rfl (by kernel_rfl) (by kernel_rfl) (by kernel_rfl) (fun _ _ _ h => h) (.inr ⟨by rfl, rfl⟩) (by assumption) ?_
            try simp only [Act.put, List.setIfInBounds_toArray, List.set_cons_zero, List.set_cons_succ]
            refine wpAnyH_take (i := 9) (oi := { dst := some 104, op := _, type := _, pos := _, after := _, guard := _ }) (v := undef) rfl (by kernel_rfl) (by kernel_rfl) (by kernel_rfl) (fun _ _ _ h => h) (.inr ⟨by rfl, rfl⟩) (by assumption) ?_
            try simp only [Act.put, List.setIfInBounds_toArray, List.set_cons_zero, List.set_cons_succ]
            refine wpAnyH_take (i := 10) (oi := { dst := some 105, op := _, type := _, pos := _, after := _, guard := _ }) (v := undef) rfl (by kernel_rfl) (by kernel_rfl) (by kernel_rfl) (fun _ _ _ h => h) (.inr ⟨by rfl, rfl⟩) (by assumption) ?_
            try simp only [Act.put, List.setIfInBounds_toArray, List.set_cons_zero, List.set_cons_succ]
            refine wpAnyH_take (i := 11) (oi := { dst := some 106, op := _, type := _, pos := _, after := _, guard := _ }) (v := undef) rfl (by kernel_rfl) (by kernel_rfl) (by kernel_rfl) (fun _ _ _ h => h) (.inr ⟨by rfl, rfl⟩) (by assumption) ?_
            try simp only [Act.put, List.setIfInBounds_toArray, List.set_cons_zero, List.set_cons_succ]
            refine wpAnyH_take (i := 12) (oi := { dst := some 107, op := _, type := _, pos := _, after := _, guard := _ }) (v := undef) rfl (by kernel_rfl) (by kernel_rfl) (by kernel_rfl) (fun _ _ _ h => h) (.inr ⟨by rfl, rfl⟩) (by assumption) ?_
            try simp only [Act.put, List.setIfInBounds_toArray, List.set_cons_zero, List.set_cons_succ]
            refine wpAnyH_take (i := 13) (oi := { dst := some 108, op := _, type := _, pos := _, after := _, guard := _ }) (v := undef) rfl (by kernel_rfl) (by kernel_rfl) (by kernel_rfl) (fun _ _ _ h => h) (.inr ⟨by rfl, rfl⟩) (by assumption) ?_
            try simp only [Act.put, List.setIfInBounds_toArray, List.set_cons_zero, List.set_cons_succ]
            refine wpAnyH_take (i := 14) (oi := { dst := some 109, op := _, type := _, pos := _, after := _, guard := _ }) (v := undef) rfl (by kernel_rfl) (by kernel_rfl) (by kernel_rfl) (fun _ _ _ h => h) (.inr ⟨by rfl, rfl⟩) (by assumption) ?_
            try simp only [Act.put, List.setIfInBounds_toArray, List.set_cons_zero, List.set_cons_succ]
            refine wpAnyH_take (i := 15) (oi := { dst := some 110, op := _, type := _, pos := _, after := _, guard := _ }) (v := undef) rfl (by kernel_rfl) (by kernel_rfl) (by kernel_rfl) (fun _ _ _ h => h) (.inr ⟨by rfl, rfl⟩) (by assumption) ?_
            try simp only [Act.put, List.setIfInBounds_toArray, List.set_cons_zero, List.set_cons_succ]
            refine wpAnyH_take (i := 16) (oi := { dst := some 111, op := _, type := _, pos := _, after := _, guard := _ }) (v := undef) rfl (by kernel_rfl) (by kernel_rfl) (by kernel_rfl) (fun _ _ _ h => h) (.inr ⟨by rfl, rfl⟩) (by assumption) ?_
            try simp only [Act.put, List.setIfInBounds_toArray, List.set_cons_zero, List.set_cons_succ]
            refine wpAnyH_take (i := 17) (oi := { dst := some 112, op := _, type := _, pos := _, after := _, guard := _ }) (v := undef) rfl (by kernel_rfl) (by kernel_rfl) (by kernel_rfl) (fun _ _ _ h => h) (.inr ⟨by rfl, rfl⟩) (by assumption) ?_
            try simp only [Act.put, List.setIfInBounds_toArray, List.set_cons_zero, List.set_cons_succ]
            refine wpAnyH_take (i := 18) (oi := { dst := some 113, op := _, type := _, pos := _, after := _, guard := _ }) (v := undef) rfl (by kernel_rfl) (by kernel_rfl) (by kernel_rfl) (fun _ _ _ h => h) (.inr ⟨by rfl, rfl⟩) (by assumption) ?_
            try simp only [Act.put, List.setIfInBounds_toArray, List.set_cons_zero, List.set_cons_succ]
            refine wpAnyH_take (i := 19) (oi := { dst := some 114, op := _, type := _, pos := _, after := _, guard := _ }) (v := undef) rfl (by kernel_rfl) (by kernel_rfl) (by kernel_rfl) (fun _ _ _ h => h) (.inr ⟨by rfl, rfl⟩) (by assumption) ?_
            try simp only [Act.put, List.setIfInBounds_toArray, List.set_cons_zero, List.set_cons_succ]
            refine wpAnyH_take (i := 20) (oi := { dst := some 115, op := _, type := _, pos := _, after := _, guard := _ }) (v := undef) rfl (by kernel_rfl) (by kernel_rfl) (by kernel_rfl) (fun _ _ _ h => h) (.inr ⟨by rfl, rfl⟩) (by assumption) ?_
            try simp only [Act.put, List.setIfInBounds_toArray, List.set_cons_zero, List.set_cons_succ]
            refine wpAnyH_take (i := 21) (oi := { dst := some 116, op := _, type := _, pos := _, after := _, guard := _ }) (v := undef) rfl (by kernel_rfl) (by kernel_rfl) (by kernel_rfl) (fun _ _ _ h => h) (.inr ⟨by rfl, rfl⟩) (by assumption) ?_
            try simp only [Act.put, List.setIfInBounds_toArray, List.set_cons_zero, List.set_cons_succ]
            refine wpAnyH_take (i := 22) (oi := { dst := some 117, op := _, type := _, pos := _, after := _, guard := _ }) (v := undef) rfl (by kernel_rfl) (by kernel_rfl) (by kernel_rfl) (fun _ _ _ h => h) (.inr ⟨by rfl, rfl⟩) (by assumption) ?_
            try simp only [Act.put, List.setIfInBounds_toArray, List.set_cons_zero, List.set_cons_succ]
            refine wpAnyH_take (i := 23) (oi := { dst := some 118, op := _, type := _, pos := _, after := _, guard := _ }) (v := undef) rfl (by kernel_rfl) (by kernel_rfl) (by kernel_rfl) (fun _ _ _ h => h) (.inr ⟨by rfl, rfl⟩) (by assumption) ?_
            try simp only [Act.put, List.setIfInBounds_toArray, List.set_cons_zero, List.set_cons_succ]
            refine wpAnyH_take (i := 24) (oi := { dst := some 119, op := _, type := _, pos := _, after := _, guard := _ }) (v := ?v3_24) rfl (by kernel_rfl) (by kernel_rfl) (by kernel_rfl) (fun _ _ _ h => h) (.inl ⟨by rfl, ?h3_24⟩) (by assumption) ?_
            case h3_24 => intro wz hSw; go_simp; (try with_reducible rfl)
            try simp only [Act.put, List.setIfInBounds_toArray, List.set_cons_zero, List.set_cons_succ]
            refine wpAnyH_done (by kernel_rfl) ?_ _
            refine NoPanic.normal ?_
            go_wp2_with fail
            go_roundw
            case rel => exact ⟨j + 1, s1, rfl, by have := HJ.out; omega, HB9.out.quiet (Ch.refl [] _).drew, HE1.out, HC9.out.drew⟩
            case measure => have := HJ.out; simp [intOf]; omega
          · have hzz := HZz.out
            have hz0 : 0 < z := by omega
            have hz1 : ¬ z = 0 := by omega
            have hz2 : IntKind.i64.wrap (z - 1) = z - 1 := by rw [IntKind.wrap_i64]; have := HE.out.1.u; omega
            rw [show (s1.u : Int) = z - 1 by omega] at HFu1
            replace HFu1 := Lib.hid HFu1
            have HU1 := Lib.hid hu1
            by_cases hka : 2 ≤ k1
            · have e0 : (k1 == 0) = false := by rw [beq_eq_false_iff_ne]; omega
              have e1 : (k1 == 1) = false := by rw [beq_eq_false_iff_ne]; omega
              have HAs := Lib.hid (show Calls Tryd.prog 20 #[.pointer (some ⟨b, 0, none⟩)] wc.drew fun e w' => e = .returned (.bool true) ∧ wc.drew = w' from by
                have := asks_any (HB9.out.quiet (Ch.refl [] wc).drew)
                rw [HK1.out, e1, show (k1 != 0) = true by rw [bne_iff_ne]; omega] at this
                exact this)
              have HG5 := Lib.hid (fun W (h : RB W b c L s1) => show Calls Tryd.prog 12 #[.pointer (some ⟨b, 0, none⟩), .int .i64 5] W fun r w' => r = .returned (.agg A.toArray) ∧ RB w' b c L s1 ∧ Ch [b] W w' from by
                have := go_any h HR.out HG1.out (n := 5) (by decide)
                rw [show (5 : Int).toNat = 5 from rfl, goS_stop (by rw [HK1.out]; omega), HA.out] at this
                exact this)
              have HTo := Lib.hid (fun w => to5_any v w)
              have HGi := Lib.hid (fun W (h : RB W b c L s1) => give_any h HR.out HG1.out (by rw [HK1.out]; exact hka) v)
              have HE1 := Lib.hid (show EJ L u (j + 1) (givS L s1 v) from ⟨HG1.out.give HR.out (by rw [HK1.out]; exact hka) HVn.out, .inr ⟨rfl, hu1⟩⟩)
              have hne := HNe.out
              unfold vv at HTo HGi
              clear hu0 hu1 hu2 hzz hka hAs
              go_wp2_with (first
                | ((with_reducible show wpList _ _ _ (Oper.mk _ (Op.alloc 44) _ _ _ _ :: _) _ _); refine wpList_allocZ zT rfl (by rfl) ?_; rw [HTd.out, HWb.out])
                | ((with_reducible show wpList _ _ _ (Oper.mk _ (Op.store 44 _ _) _ _ _ _ :: _) _ _); refine wpList_writeA rfl HTb.out HAl.out HA1.out (by rfl) (by rfl) (by rfl) ?_; rw [HWc.out])
                | fail)
              with_reducible refine HFu1.out.mono ?_
              rintro e w7 ⟨rfl, rfl⟩
              clear HFu1
              go_wp2_with fail
              obtain ⟨hv0, hv1, hv2, hv3, hv4⟩ := HV9.out.a
              simp only [Nat.zero_add] at hv1 hv2 hv3 hv4
              refine wp_region_noPanic ?_
              refine wp_region_held_drew (S := fun w' : World => w'.rangeAt T 0 A ∧ w'.cell? ⟨T, 0, none⟩ = some (.int .i64 k1) ∧ w'.cell? ⟨w.heap.size, 0, none⟩ = some (.bool v.r) ∧ w'.cell? ⟨w.heap.size, 1, none⟩ = some (.int .i64 v.m) ∧ w'.cell? ⟨w.heap.size, 2, none⟩ = some (.int .i64 v.s) ∧ w'.cell? ⟨w.heap.size, 3, none⟩ = some (.int .i64 v.g) ∧ w'.cell? ⟨w.heap.size, 4, none⟩ = some (.int .u64 (v.n : Int))) (by kernel_rfl) (show wc.drew.rangeAt T 0 A ∧ _ from ⟨hA0, hA1, hv0, hv1, hv2, hv3, hv4⟩) (fun hHeld => ?_)
              refine wpAnyH_take (i := 0) (oi := { dst := some 95, op := _, type := _, pos := _, after := _, guard := _ }) (v := ?v4_0) rfl (by kernel_rfl) (by kernel_rfl) (by kernel_rfl) (fun _ _ _ h => h) (.inl ⟨by rfl, ?h4_0⟩) (by assumption) ?_
              case h4_0 => intro wz hSw; go_simp; (try with_reducible rfl)
              try simp only [Act.put, List.setIfInBounds_toArray, List.set_cons_zero, List.set_cons_succ]
              refine wpAnyH_ready (rs := [1]) (by kernel_rfl) (by simp) ?_
              refine AllReadyH.cons (o := { dst := some 96, op := _, type := _, pos := _, after := _, guard := _ }) rfl (fun K hK => ?_) AllReadyH.nil
              go_simp
              with_reducible refine HAs.out.mono ?_
              rintro e w9 ⟨rfl, rfl⟩
              refine hK.out _ _ ⟨hA0, hA1, hv0, hv1, hv2, hv3, hv4⟩ (fun hHeld => ?_)
              clear hK K
              try simp only [Act.put, List.setIfInBounds_toArray, List.set_cons_zero, List.set_cons_succ]
              refine wpAnyH_take (i := 2) (oi := { dst := some 97, op := _, type := _, pos := _, after := _, guard := _ }) (v := ?v5_2) rfl (by kernel_rfl) (by kernel_rfl) (by kernel_rfl) (fun _ _ _ h => h) (.inl ⟨by rfl, ?h5_2⟩) (by assumption) ?_
              case h5_2 => intro wz hSw; obtain ⟨hs0, hs1, hs2, hs3, hs4, hs5, hs6⟩ := hSw; go_simp; (try with_reducible rfl)
              try simp only [Act.put, List.setIfInBounds_toArray, List.set_cons_zero, List.set_cons_succ]
              refine wpAnyH_take (i := 3) (oi := { dst := some 98, op := _, type := _, pos := _, after := _, guard := _ }) (v := ?v6_3) rfl (by kernel_rfl) (by kernel_rfl) (by kernel_rfl) (fun _ _ _ h => h) (.inl ⟨by rfl, ?h6_3⟩) (by assumption) ?_
              case h6_3 => intro wz hSw; obtain ⟨hs0, hs1, hs2, hs3, hs4, hs5, hs6⟩ := hSw; go_simp; (try with_reducible rfl)
              try simp only [Act.put, List.setIfInBounds_toArray, List.set_cons_zero, List.set_cons_succ]
              refine wpAnyH_take (i := 4) (oi := { dst := some 99, op := _, type := _, pos := _, after := _, guard := _ }) (v := ?v7_4) rfl (by kernel_rfl) (by kernel_rfl) (by kernel_rfl) (fun _ _ _ h => h) (.inl ⟨by rfl, ?h7_4⟩) (by assumption) ?_
              case h7_4 => intro wz hSw; obtain ⟨hs0, hs1, hs2, hs3, hs4, hs5, hs6⟩ := hSw; go_simp; (try with_reducible rfl)
              try simp only [Act.put, List.setIfInBounds_toArray, List.set_cons_zero, List.set_cons_succ]
              refine wpAnyH_take (i := 5) (oi := { dst := some 100, op := _, type := _, pos := _, after := _, guard := _ }) (v := ?v8_5) rfl (by kernel_rfl) (by kernel_rfl) (by kernel_rfl) (fun _ _ _ h => h) (.inl ⟨by rfl, ?h8_5⟩) (by assumption) ?_
              case h8_5 => intro wz hSw; obtain ⟨hs0, hs1, hs2, hs3, hs4, hs5, hs6⟩ := hSw; go_simp; (try with_reducible rfl)
              try simp only [Act.put, List.setIfInBounds_toArray, List.set_cons_zero, List.set_cons_succ]
              refine wpAnyH_take (i := 6) (oi := { dst := some 101, op := _, type := _, pos := _, after := _, guard := _ }) (v := ?v9_6) rfl (by kernel_rfl) (by kernel_rfl) (by kernel_rfl) (fun _ _ _ h => h) (.inl ⟨by rfl, ?h9_6⟩) (by assumption) ?_
              case h9_6 => intro wz hSw; obtain ⟨hs0, hs1, hs2, hs3, hs4, hs5, hs6⟩ := hSw; go_simp; (try with_reducible rfl)
              try simp only [Act.put, List.setIfInBounds_toArray, List.set_cons_zero, List.set_cons_succ]
              refine wpAnyH_take (i := 7) (oi := { dst := some 102, op := _, type := _, pos := _, after := _, guard := _ }) (v := ?v10_7) rfl (by kernel_rfl) (by kernel_rfl) (by kernel_rfl) (fun _ _ _ h => h) (.inl ⟨by rfl, ?h10_7⟩) (by assumption) ?_
              case h10_7 => intro wz hSw; obtain ⟨hs0, hs1, hs2, hs3, hs4, hs5, hs6⟩ := hSw; go_simp; (try with_reducible rfl)
              try simp only [Act.put, List.setIfInBounds_toArray, List.set_cons_zero, List.set_cons_succ]
              refine wpAnyH_take (i := 8) (oi := { dst := some 103, op := _, type := _, pos := _, after := _, guard := _ }) (v := ?v11_8) rfl (by kernel_rfl) (by kernel_rfl) (by kernel_rfl) (fun _ _ _ h => h) (.inl ⟨by rfl, ?h11_8⟩) (by assumption) ?_
              case h11_8 => intro wz hSw; obtain ⟨hs0, hs1, hs2, hs3, hs4, hs5, hs6⟩ := hSw; go_simp; (try with_reducible rfl)
              try simp only [Act.put, List.setIfInBounds_toArray, List.set_cons_zero, List.set_cons_succ]
              refine wpAnyH_take (i := 9) (oi := { dst := some 104, op := _, type := _, pos := _, after := _, guard := _ }) (v := ?v12_9) rfl (by kernel_rfl) (by kernel_rfl) (by kernel_rfl) (fun _ _ _ h => h) (.inl ⟨by rfl, ?h12_9⟩) (by assumption) ?_
              case h12_9 => intro wz hSw; obtain ⟨hs0, hs1, hs2, hs3, hs4, hs5, hs6⟩ := hSw; go_simp; (try with_reducible rfl)
              try simp only [Act.put, List.setIfInBounds_toArray, List.set_cons_zero, List.set_cons_succ]
              refine wpAnyH_take (i := 10) (oi := { dst := some 105, op := _, type := _, pos := _, after := _, guard := _ }) (v := ?v13_10) rfl (by kernel_rfl) (by kernel_rfl) (by kernel_rfl) (fun _ _ _ h => h) (.inl ⟨by rfl, ?h13_10⟩) (by assumption) ?_
              case h13_10 => intro wz hSw; obtain ⟨hs0, hs1, hs2, hs3, hs4, hs5, hs6⟩ := hSw; go_simp; (try with_reducible rfl)
              try simp only [Act.put, List.setIfInBounds_toArray, List.set_cons_zero, List.set_cons_succ]
              refine wpAnyH_take (i := 11) (oi := { dst := some 106, op := _, type := _, pos := _, after := _, guard := _ }) (v := ?v14_11) rfl (by kernel_rfl) (by kernel_rfl) (by kernel_rfl) (fun _ _ _ h => h) (.inl ⟨by rfl, ?h14_11⟩) (by assumption) ?_
              case h14_11 => intro wz hSw; obtain ⟨hs0, hs1, hs2, hs3, hs4, hs5, hs6⟩ := hSw; go_simp; (try with_reducible rfl)
              try simp only [Act.put, List.setIfInBounds_toArray, List.set_cons_zero, List.set_cons_succ]
              refine wpAnyH_take (i := 12) (oi := { dst := some 107, op := _, type := _, pos := _, after := _, guard := _ }) (v := ?v15_12) rfl (by kernel_rfl) (by kernel_rfl) (by kernel_rfl) (fun _ _ _ h => h) (.inl ⟨by rfl, ?h15_12⟩) (by assumption) ?_
              case h15_12 => intro wz hSw; obtain ⟨hs0, hs1, hs2, hs3, hs4, hs5, hs6⟩ := hSw; go_simp; (try with_reducible rfl)
              try simp only [Act.put, List.setIfInBounds_toArray, List.set_cons_zero, List.set_cons_succ]
              refine wpAnyH_take (i := 14) (oi := { dst := some 109, op := _, type := _, pos := _, after := _, guard := _ }) (v := .agg A.toArray) rfl (by kernel_rfl) (by kernel_rfl) (by kernel_rfl) (fun _ _ _ h => h) (yieldsIf_load_mid (by rfl) 44 _ rfl T 0 (by rfl) A _ (fun wz hz => hz.1) Tryd.underlying44 rfl (by rw [HAl.out]; kernel_rfl)) (by assumption) ?_
              try simp only [Act.put, List.setIfInBounds_toArray, List.set_cons_zero, List.set_cons_succ]
              refine wpAnyH_ready (rs := [13]) (by kernel_rfl) (by simp) ?_
              refine AllReadyH.cons (o := { dst := some 108, op := _, type := _, pos := _, after := _, guard := _ }) rfl (fun K hK => ?_) AllReadyH.nil
              go_simp
              with_reducible refine (HG5.out _ (HB9.out.quiet (Ch.refl [] wc).drew)).mono ?_
              rintro e wd ⟨rfl, hbd, hcd⟩
              have hcd2 := ((Ch.refl [b] wc).drew).trans hcd
              have HBd := Lib.hid hbd
              have HCd := Lib.hid (HC9.out.fresh hcd2 (by have := HBl.out; simpa using this))
              obtain ⟨p0, p1, p2, p3, p4⟩ := (HV9.out.ch hcd2 (by have := HNv.out; simpa using this)).a
              simp only [Nat.zero_add] at p1 p2 p3 p4
              have pA : wd.rangeAt T 0 A := fun j x hx => (hcd2.cell (p := ⟨T, 0 + j, none⟩) (cell_lt (hA0 j x hx)) (by have := HNt.out; simpa using this)).trans (hA0 j x hx)
              have pk : wd.cell? ⟨T, 0, none⟩ = some (.int .i64 k1) := (hcd2.cell (cell_lt hA1) (by have := HNt.out; simpa using this)).trans hA1
              have HVd := Lib.hid (HV9.out.ch hcd2 (by have := HNv.out; simpa using this))
              clear hbd hcd hcd2
              refine hK.out _ _ ⟨pA, pk, p0, p1, p2, p3, p4⟩ (fun hHeld => ?_)
              clear hK K
              try simp only [Act.put, List.setIfInBounds_toArray, List.set_cons_zero, List.set_cons_succ]
              refine wpAnyH_take (i := 15) (oi := { dst := some 110, op := _, type := _, pos := _, after := _, guard := _ }) (v := ?v16_15) rfl (by kernel_rfl) (by kernel_rfl) (by kernel_rfl) (fun _ _ _ h => h) (.inl ⟨by rfl, ?h16_15⟩) (by assumption) ?_
              case h16_15 => intro wz hSw; obtain ⟨hs0, hs1, hs2, hs3, hs4, hs5, hs6⟩ := hSw; go_simp; (try with_reducible rfl)
              try simp only [Act.put, List.setIfInBounds_toArray, List.set_cons_zero, List.set_cons_succ]
              refine wpAnyH_take (i := 16) (oi := { dst := some 111, op := _, type := _, pos := _, after := _, guard := _ }) (v := ?v17_16) rfl (by kernel_rfl) (by kernel_rfl) (by kernel_rfl) (fun _ _ _ h => h) (.inl ⟨by rfl, ?h17_16⟩) (by assumption) ?_
              case h17_16 => intro wz hSw; obtain ⟨hs0, hs1, hs2, hs3, hs4, hs5, hs6⟩ := hSw; go_simp; (try with_reducible rfl)
              try simp only [Act.put, List.setIfInBounds_toArray, List.set_cons_zero, List.set_cons_succ]
              refine wpAnyH_take (i := 17) (oi := { dst := some 112, op := _, type := _, pos := _, after := _, guard := _ }) (v := ?v18_17) rfl (by kernel_rfl) (by kernel_rfl) (by kernel_rfl) (fun _ _ _ h => h) (.inl ⟨by rfl, ?h18_17⟩) (by assumption) ?_
              case h18_17 => intro wz hSw; obtain ⟨hs0, hs1, hs2, hs3, hs4, hs5, hs6⟩ := hSw; go_simp; (try with_reducible rfl)
              try simp only [Act.put, List.setIfInBounds_toArray, List.set_cons_zero, List.set_cons_succ]
              refine wpAnyH_take (i := 18) (oi := { dst := some 113, op := _, type := _, pos := _, after := _, guard := _ }) (v := ?v19_18) rfl (by kernel_rfl) (by kernel_rfl) (by kernel_rfl) (fun _ _ _ h => h) (.inl ⟨by rfl, ?h19_18⟩) (by assumption) ?_
              case h19_18 => intro wz hSw; obtain ⟨hs0, hs1, hs2, hs3, hs4, hs5, hs6⟩ := hSw; go_simp; (try with_reducible rfl)
              try simp only [Act.put, List.setIfInBounds_toArray, List.set_cons_zero, List.set_cons_succ]
              refine wpAnyH_take (i := 19) (oi := { dst := some 114, op := _, type := _, pos := _, after := _, guard := _ }) (v := ?v20_19) rfl (by kernel_rfl) (by kernel_rfl) (by kernel_rfl) (fun _ _ _ h => h) (.inl ⟨by rfl, ?h20_19⟩) (by assumption) ?_
              case h20_19 => intro wz hSw; obtain ⟨hs0, hs1, hs2, hs3, hs4, hs5, hs6⟩ := hSw; go_simp; (try with_reducible rfl)
              try simp only [Act.put, List.setIfInBounds_toArray, List.set_cons_zero, List.set_cons_succ]
              refine wpAnyH_ready (rs := [20]) (by kernel_rfl) (by simp) ?_
              refine AllReadyH.cons (o := { dst := some 115, op := _, type := _, pos := _, after := _, guard := _ }) rfl (fun K hK => ?_) AllReadyH.nil
              go_simp
              with_reducible refine (HTo.out _).mono ?_
              rintro e we ⟨rfl, hce⟩
              have HBe := Lib.hid (HBd.out.quiet hce)
              have HCe := Lib.hid (HCd.out.trans hce)
              have HVe := Lib.hid (HVd.out.quiet hce)
              obtain ⟨q0, q1, q2, q3, q4⟩ := HVe.out.a
              simp only [Nat.zero_add] at q1 q2 q3 q4
              have qA : we.rangeAt T 0 A := fun j x hx => (hce.cell (p := ⟨T, 0 + j, none⟩) (cell_lt (pA j x hx)) (by simp)).trans (pA j x hx)
              have qk : we.cell? ⟨T, 0, none⟩ = some (.int .i64 k1) := (hce.cell (cell_lt pk) (by simp)).trans pk
              clear hce
              refine hK.out _ _ ⟨qA, qk, q0, q1, q2, q3, q4⟩ (fun hHeld => ?_)
              clear hK K
              try simp only [Act.put, List.setIfInBounds_toArray, List.set_cons_zero, List.set_cons_succ]
              refine wpAnyH_ready (rs := [21]) (by kernel_rfl) (by simp) ?_
              refine AllReadyH.cons (o := { dst := some 116, op := _, type := _, pos := _, after := _, guard := _ }) rfl (fun K hK => ?_) AllReadyH.nil
              go_simp
              with_reducible refine (HGi.out _ HBe.out).mono ?_
              rintro e wf ⟨rfl, hbf, hcf⟩
              have HBf := Lib.hid hbf
              have HCf := Lib.hid (HCe.out.fresh hcf (by have := HBl.out; simpa using this))
              obtain ⟨r0, r1, r2, r3, r4⟩ := (HVe.out.ch hcf (by have := HNv.out; simpa using this)).a
              simp only [Nat.zero_add] at r1 r2 r3 r4
              have rA : wf.rangeAt T 0 A := fun j x hx => (hcf.cell (p := ⟨T, 0 + j, none⟩) (cell_lt (qA j x hx)) (by have := HNt.out; simpa using this)).trans (qA j x hx)
              have rk : wf.cell? ⟨T, 0, none⟩ = some (.int .i64 k1) := (hcf.cell (cell_lt qk) (by have := HNt.out; simpa using this)).trans qk
              clear hbf hcf
              refine hK.out _ _ ⟨rA, rk, r0, r1, r2, r3, r4⟩ (fun hHeld => ?_)
              clear hK K
              try simp only [Act.put, List.setIfInBounds_toArray, List.set_cons_zero, List.set_cons_succ]
              refine wpAnyH_take (i := 22) (oi := { dst := some 117, op := _, type := _, pos := _, after := _, guard := _ }) (v := ?v21_22) rfl (by kernel_rfl) (by kernel_rfl) (by kernel_rfl) (fun _ _ _ h => h) (.inl ⟨by rfl, ?h21_22⟩) (by assumption) ?_
              case h21_22 => intro wz hSw; obtain ⟨hs0, hs1, hs2, hs3, hs4, hs5, hs6⟩ := hSw; go_simp; (try with_reducible rfl)
              try simp only [Act.put, List.setIfInBounds_toArray, List.set_cons_zero, List.set_cons_succ]
              refine wpAnyH_take (i := 23) (oi := { dst := some 118, op := _, type := _, pos := _, after := _, guard := _ }) (v := ?v22_23) rfl (by kernel_rfl) (by kernel_rfl) (by kernel_rfl) (fun _ _ _ h => h) (.inl ⟨by rfl, ?h22_23⟩) (by assumption) ?_
              case h22_23 => intro wz hSw; obtain ⟨hs0, hs1, hs2, hs3, hs4, hs5, hs6⟩ := hSw; go_simp; (try with_reducible rfl)
              try simp only [Act.put, List.setIfInBounds_toArray, List.set_cons_zero, List.set_cons_succ]
              refine wpAnyH_take (i := 24) (oi := { dst := some 119, op := _, type := _, pos := _, after := _, guard := _ }) (v := ?v23_24) rfl (by kernel_rfl) (by kernel_rfl) (by kernel_rfl) (fun _ _ _ h => h) (.inl ⟨by rfl, ?h23_24⟩) (by assumption) ?_
              case h23_24 => intro wz hSw; obtain ⟨hs0, hs1, hs2, hs3, hs4, hs5, hs6⟩ := hSw; go_simp; (try with_reducible rfl)
              try simp only [Act.put, List.setIfInBounds_toArray, List.set_cons_zero, List.set_cons_succ]
              refine wpAnyH_done (by kernel_rfl) ?_ _
              refine NoPanic.normal ?_
              go_wp2_with fail
              go_roundw
              case rel => exact ⟨j + 1, givS L s1 v, rfl, by have := HJ.out; omega, HBf.out, HE1.out, HCf.out⟩
              case measure => have := HJ.out; simp [intOf]; omega
            · have HAs := Lib.hid (show Calls Tryd.prog 20 #[.pointer (some ⟨b, 0, none⟩)] wc.drew fun e w' => e = .returned (.bool false) ∧ wc.drew = w' from by
                have := asks_any (HB9.out.quiet (Ch.refl [] wc).drew)
                have h01 : k1 = 0 ∨ k1 = 1 := by have := HG1.out.k; rw [HK1.out] at this; omega
                rw [HK1.out] at this
                rcases h01 with rfl | rfl <;> exact this)
              have HE1 := Lib.hid (show EJ L u (j + 1) s1 from ⟨HG1.out, by have := HG1.out.k; rw [HK1.out] at this ⊢; exact this.elim (fun h => .inr ⟨h, hu1⟩) (fun h => h.elim .inl (fun h => absurd h.1 hka))⟩)
              clear hu0 hu1 hu2 hzz hka hAs hA0 hA1
              go_wp2_with (first
                | ((with_reducible show wpList _ _ _ (Oper.mk _ (Op.alloc 44) _ _ _ _ :: _) _ _); refine wpList_allocZ zT rfl (by rfl) ?_; rw [HTd.out, HWb.out])
                | ((with_reducible show wpList _ _ _ (Oper.mk _ (Op.store 44 _ _) _ _ _ _ :: _) _ _); refine wpList_writeA rfl HTb.out HAl.out HA1.out (by rfl) (by rfl) (by rfl) ?_; rw [HWc.out])
                | fail)
              with_reducible refine HFu1.out.mono ?_
              rintro e w7 ⟨rfl, rfl⟩
              clear HFu1
              go_wp2_with fail
              refine wp_region_noPanic ?_
              refine wp_region_held_drew (S := fun _ : World => True) (by kernel_rfl) trivial (fun hHeld => ?_)
              refine wpAnyH_take (i := 0) (oi := { dst := some 95, op := _, type := _, pos := _, after := _, guard := _ }) (v := ?v1_0) rfl (by kernel_rfl) (by kernel_rfl) (by kernel_rfl) (fun _ _ _ h => h) (.inl ⟨by rfl, ?h1_0⟩) (by assumption) ?_
              case h1_0 => intro wz hSw; go_simp; (try with_reducible rfl)
              try simp only [Act.put, List.setIfInBounds_toArray, List.set_cons_zero, List.set_cons_succ]
              refine wpAnyH_ready (rs := [1]) (by kernel_rfl) (by simp) ?_
              refine AllReadyH.cons (o := { dst := some 96, op := _, type := _, pos := _, after := _, guard := _ }) rfl (fun K hK => ?_) AllReadyH.nil
              go_simp
              with_reducible refine HAs.out.mono ?_
              rintro e w9 ⟨rfl, rfl⟩
              refine hK.out _ _ trivial (fun hHeld => ?_)
              clear hK K
              try simp only [Act.put, List.setIfInBounds_toArray, List.set_cons_zero, List.set_cons_succ]
              refine wpAnyH_take (i := 2) (oi := { dst := some 97, op := _, type := _, pos := _, after := _, guard := _ }) (v := ?v2_2) rfl (by kernel_rfl) (by kernel_rfl) (by kernel_rfl) (fun _ _ _ h => h) (.inl ⟨by rfl, ?h2_2⟩) (by assumption) ?_
              case h2_2 => intro wz hSw; go_simp; (try with_reducible rfl)
              try simp only [Act.put, List.setIfInBounds_toArray, List.set_cons_zero, List.set_cons_succ]
              refine wpAnyH_take (i := 3) (oi := { dst := some 98, op := _, type := _, pos := _, after := _, guard := _ }) (v := undef) rfl (by kernel_rfl) (by kernel_rfl) (by kernel_rfl) (fun _ _ _ h => h) (.inr ⟨by rfl, rfl⟩) (by assumption) ?_
              try simp only [Act.put, List.setIfInBounds_toArray, List.set_cons_zero, List.set_cons_succ]
              refine wpAnyH_take (i := 4) (oi := { dst := some 99, op := _, type := _, pos := _, after := _, guard := _ }) (v := undef) rfl (by kernel_rfl) (by kernel_rfl) (by kernel_rfl) (fun _ _ _ h => h) (.inr ⟨by rfl, rfl⟩) (by assumption) ?_
              try simp only [Act.put, List.setIfInBounds_toArray, List.set_cons_zero, List.set_cons_succ]
              refine wpAnyH_take (i := 5) (oi := { dst := some 100, op := _, type := _, pos := _, after := _, guard := _ }) (v := undef) rfl (by kernel_rfl) (by kernel_rfl) (by kernel_rfl) (fun _ _ _ h => h) (.inr ⟨by rfl, rfl⟩) (by assumption) ?_
              try simp only [Act.put, List.setIfInBounds_toArray, List.set_cons_zero, List.set_cons_succ]
              refine wpAnyH_take (i := 6) (oi := { dst := some 101, op := _, type := _, pos := _, after := _, guard := _ }) (v := undef) rfl (by kernel_rfl) (by kernel_rfl) (by kernel_rfl) (fun _ _ _ h => h) (.inr ⟨by rfl, rfl⟩) (by assumption) ?_
              try simp only [Act.put, List.setIfInBounds_toArray, List.set_cons_zero, List.set_cons_succ]
              refine wpAnyH_take (i := 7) (oi := { dst := some 102, op := _, type := _, pos := _, after := _, guard := _ }) (v := undef) rfl (by kernel_rfl) (by kernel_rfl) (by kernel_rfl) (fun _ _ _ h => h) (.inr ⟨by rfl, rfl⟩) (by assumption) ?_
              try simp only [Act.put, List.setIfInBounds_toArray, List.set_cons_zero, List.set_cons_succ]
              refine wpAnyH_take (i := 8) (oi := { dst := some 103, op := _, type := _, pos := _, after := _, guard := _ }) (v := undef) rfl (by kernel_rfl) (by kernel_rfl) (by kernel_rfl) (fun _ _ _ h => h) (.inr ⟨by rfl, rfl⟩) (by assumption) ?_
              try simp only [Act.put, List.setIfInBounds_toArray, List.set_cons_zero, List.set_cons_succ]
              refine wpAnyH_take (i := 9) (oi := { dst := some 104, op := _, type := _, pos := _, after := _, guard := _ }) (v := undef) rfl (by kernel_rfl) (by kernel_rfl) (by kernel_rfl) (fun _ _ _ h => h) (.inr ⟨by rfl, rfl⟩) (by assumption) ?_
              try simp only [Act.put, List.setIfInBounds_toArray, List.set_cons_zero, List.set_cons_succ]
              refine wpAnyH_take (i := 10) (oi := { dst := some 105, op := _, type := _, pos := _, after := _, guard := _ }) (v := undef) rfl (by kernel_rfl) (by kernel_rfl) (by kernel_rfl) (fun _ _ _ h => h) (.inr ⟨by rfl, rfl⟩) (by assumption) ?_
              try simp only [Act.put, List.setIfInBounds_toArray, List.set_cons_zero, List.set_cons_succ]
              refine wpAnyH_take (i := 11) (oi := { dst := some 106, op := _, type := _, pos := _, after := _, guard := _ }) (v := undef) rfl (by kernel_rfl) (by kernel_rfl) (by kernel_rfl) (fun _ _ _ h => h) (.inr ⟨by rfl, rfl⟩) (by assumption) ?_
              try simp only [Act.put, List.setIfInBounds_toArray, List.set_cons_zero, List.set_cons_succ]
              refine wpAnyH_take (i := 12) (oi := { dst := some 107, op := _, type := _, pos := _, after := _, guard := _ }) (v := undef) rfl (by kernel_rfl) (by kernel_rfl) (by kernel_rfl) (fun _ _ _ h => h) (.inr ⟨by rfl, rfl⟩) (by assumption) ?_
              try simp only [Act.put, List.setIfInBounds_toArray, List.set_cons_zero, List.set_cons_succ]
              refine wpAnyH_take (i := 13) (oi := { dst := some 108, op := _, type := _, pos := _, after := _, guard := _ }) (v := undef) rfl (by kernel_rfl) (by kernel_rfl) (by kernel_rfl) (fun _ _ _ h => h) (.inr ⟨by rfl, rfl⟩) (by assumption) ?_
              try simp only [Act.put, List.setIfInBounds_toArray, List.set_cons_zero, List.set_cons_succ]
              refine wpAnyH_take (i := 14) (oi := { dst := some 109, op := _, type := _, pos := _, after := _, guard := _ }) (v := undef) rfl (by kernel_rfl) (by kernel_rfl) (by kernel_rfl) (fun _ _ _ h => h) (.inr ⟨by rfl, rfl⟩) (by assumption) ?_
              try simp only [Act.put, List.setIfInBounds_toArray, List.set_cons_zero, List.set_cons_succ]
              refine wpAnyH_take (i := 15) (oi := { dst := some 110, op := _, type := _, pos := _, after := _, guard := _ }) (v := undef) rfl (by kernel_rfl) (by kernel_rfl) (by kernel_rfl) (fun _ _ _ h => h) (.inr ⟨by rfl, rfl⟩) (by assumption) ?_
              try simp only [Act.put, List.setIfInBounds_toArray, List.set_cons_zero, List.set_cons_succ]
              refine wpAnyH_take (i := 16) (oi := { dst := some 111, op := _, type := _, pos := _, after := _, guard := _ }) (v := undef) rfl (by kernel_rfl) (by kernel_rfl) (by kernel_rfl) (fun _ _ _ h => h) (.inr ⟨by rfl, rfl⟩) (by assumption) ?_
              try simp only [Act.put, List.setIfInBounds_toArray, List.set_cons_zero, List.set_cons_succ]
              refine wpAnyH_take (i := 17) (oi := { dst := some 112, op := _, type := _, pos := _, after := _, guard := _ }) (v := undef) rfl (by kernel_rfl) (by kernel_rfl) (by kernel_rfl) (fun _ _ _ h => h) (.inr ⟨by rfl, rfl⟩) (by assumption) ?_
              try simp only [Act.put, List.setIfInBounds_toArray, List.set_cons_zero, List.set_cons_succ]
              refine wpAnyH_take (i := 18) (oi := { dst := some 113, op := _, type := _, pos := _, after := _, guard := _ }) (v := undef) rfl (by kernel_rfl) (by kernel_rfl) (by kernel_rfl) (fun _ _ _ h => h) (.inr ⟨by rfl, rfl⟩) (by assumption) ?_
              try simp only [Act.put, List.setIfInBounds_toArray, List.set_cons_zero, List.set_cons_succ]
              refine wpAnyH_take (i := 19) (oi := { dst := some 114, op := _, type := _, pos := _, after := _, guard := _ }) (v := undef) rfl (by kernel_rfl) (by kernel_rfl) (by kernel_rfl) (fun _ _ _ h => h) (.inr ⟨by rfl, rfl⟩) (by assumption) ?_
              try simp only [Act.put, List.setIfInBounds_toArray, List.set_cons_zero, List.set_cons_succ]
              refine wpAnyH_take (i := 20) (oi := { dst := some 115, op := _, type := _, pos := _, after := _, guard := _ }) (v := undef) rfl (by kernel_rfl) (by kernel_rfl) (by kernel_rfl) (fun _ _ _ h => h) (.inr ⟨by rfl, rfl⟩) (by assumption) ?_
              try simp only [Act.put, List.setIfInBounds_toArray, List.set_cons_zero, List.set_cons_succ]
              refine wpAnyH_take (i := 21) (oi := { dst := some 116, op := _, type := _, pos := _, after := _, guard := _ }) (v := undef) rfl (by kernel_rfl) (by kernel_rfl) (by kernel_rfl) (fun _ _ _ h => h) (.inr ⟨by rfl, rfl⟩) (by assumption) ?_
              try simp only [Act.put, List.setIfInBounds_toArray, List.set_cons_zero, List.set_cons_succ]
              refine wpAnyH_take (i := 22) (oi := { dst := some 117, op := _, type := _, pos := _, after := _, guard := _ }) (v := undef) rfl (by kernel_rfl) (by kernel_rfl) (by kernel_rfl) (fun _ _ _ h => h) (.inr ⟨by rfl, rfl⟩) (by assumption) ?_
              try simp only [Act.put, List.setIfInBounds_toArray, List.set_cons_zero, List.set_cons_succ]
              refine wpAnyH_take (i := 23) (oi := { dst := some 118, op := _, type := _, pos := _, after := _, guard := _ }) (v := undef) rfl (by kernel_rfl) (by kernel_rfl) (by kernel_rfl) (fun _ _ _ h => h) (.inr ⟨by rfl, rfl⟩) (by assumption) ?_
              try simp only [Act.put, List.setIfInBounds_toArray, List.set_cons_zero, List.set_cons_succ]
              refine wpAnyH_take (i := 24) (oi := { dst := some 119, op := _, type := _, pos := _, after := _, guard := _ }) (v := ?v3_24) rfl (by kernel_rfl) (by kernel_rfl) (by kernel_rfl) (fun _ _ _ h => h) (.inl ⟨by rfl, ?h3_24⟩) (by assumption) ?_
              case h3_24 => intro wz hSw; go_simp; (try with_reducible rfl)
              try simp only [Act.put, List.setIfInBounds_toArray, List.set_cons_zero, List.set_cons_succ]
              refine wpAnyH_done (by kernel_rfl) ?_ _
              refine NoPanic.normal ?_
              go_wp2_with fail
              go_roundw
              case rel => exact ⟨j + 1, s1, rfl, by have := HJ.out; omega, HB9.out.quiet (Ch.refl [] _).drew, HE1.out, HC9.out.drew⟩
              case measure => have := HJ.out; simp [intOf]; omega
      · have hju' : ¬ j ≤ u := hju
        have HK1 := Lib.hid (show s.t.k = 1 from by rcases HE.out.2 with h | ⟨_, h⟩; exact h; omega)
        clear hju
        go_wp2_with fail
        with_reducible refine (HKn.out _ HC.out).mono ?_
        rintro e x1 ⟨rfl, hd1⟩
        have HB1 := Lib.hid (HB.out.quiet hd1)
        have HD1 := Lib.hid (HC.out.trans hd1)
        clear hd1
        have HO := over_any HB1.out
        rw [show (s.t.k == 1) = true by rw [HK1.out]; rfl] at HO
        replace HO := Lib.hid HO
        have HA := asks_any HB1.out
        rw [show (!(s.t.k == 1) && s.t.k != 0) = false by rw [HK1.out]; rfl] at HA
        replace HA := Lib.hid HA
        go_wp2_with fail
        with_reducible refine HO.out.mono ?_
        rintro e x2 ⟨rfl, rfl⟩
        go_wp2_with fail
        with_reducible refine HA.out.mono ?_
        rintro e x2 ⟨rfl, rfl⟩
        have HGo := Lib.hid (go_at HB1.out HR.out HE.out.1 (n := 3) (by decide) (N := 3) rfl (k := 1) (by rw [goS_stop (by rw [HK1.out]; decide)]; exact HK1.out))
        clear HO HA
        go_wp2_with fail
        with_reducible refine HGo.out.mono ?_
        rintro e x2 ⟨Z2, rfl, hfd, -, hb2, hd2⟩
        rw [goS_stop (by rw [HK1.out]; decide)] at hb2
        have HB2 := Lib.hid hb2
        have HD2 := Lib.hid (HD1.out.fresh hd2 (by have := HBl.out; simpa using this))
        clear hb2 hd2 HGo
        go_wp2_with fail
        with_reducible refine (HNum.out _).mono ?_
        rintro e x3 ⟨rfl, hd3⟩
        have HB3 := Lib.hid (HB2.out.quiet hd3)
        have HD3 := Lib.hid (HD2.out.trans hd3)
        have HGv := Lib.hid (give_no HB3.out (.inr HK1.out) (num 1) 0)
        generalize num 1 = y1 at *
        unfold vv at HGv
        unfold vv
        clear hd3 hfd
        go_wp2_with fail
        with_reducible refine HGv.out.mono ?_
        rintro e x4 ⟨rfl, hd4⟩
        have HEn := Lib.hid (end_over (HB3.out.quiet hd4) HK1.out 1)
        have HD4 := Lib.hid (HC3.out.trans (HD3.out.trans hd4))
        clear hd4 HGv
        go_wp2_with fail
        with_reducible refine HEn.out.mono ?_
        rintro e x5 ⟨rfl, rfl⟩
        clear HEn
        go_wp2_with fail
        go_ret
        exact ⟨rfl, HD4.out⟩
  · have HNew := Lib.hid (vnew_bad (n := L.length) (cap := rc) (sl := true) (a := none) (m := 0) (mc := 0) rfl HFit.out HIn.out (HT.out.ch HC3.out) hr (u : Int))
    have HPc := Lib.hid (fun W (h : Ch [] w3 W) => pcheck_any (n := L.length) (cap := rc) (sl := true) rfl HFit.out (HIn.out.ch h (by simp)) (HT.out.ch (HC3.out.trans h)))
    generalize (res L true).2 = er at *
    generalize (((res L true).1 : Nat) : Int) = pl at *
    have hn : (er != 0) = true := by simpa using hr
    clear hr HIn HFit
    with_reducible refine HNew.out.mono ?_
    rintro e w4 ⟨rfl, hc4⟩
    have HC4 := Lib.hid hc4
    have HPw := Lib.hid (HPc.out w4 hc4)
    have t0 : w4.cell? ⟨PB, 0, none⟩ = some (.slice ra L.length rc) := (hc4.cell (p := ⟨PB, 0, none⟩) (cell_lt HTw.out.c0) (by simp)).trans HTw.out.c0
    have t1 : w4.cell? ⟨PB, 1, none⟩ = some (.bool true) := (hc4.cell (p := ⟨PB, 1, none⟩) (cell_lt HTw.out.c1) (by simp)).trans HTw.out.c1
    clear hc4 HNew HPc
    go_wp2_with fail
    with_reducible refine HPw.out.mono ?_
    rintro e w5 ⟨rfl, hc5⟩
    have HC5 := Lib.hid (HC4.out.trans hc5)
    clear hc5 t0 t1
    go_wp2_with fail
    with_reducible refine (HKn.out _ HC5.out).mono ?_
    rintro e w6 ⟨rfl, hc6⟩
    have HC6 := Lib.hid (HC3.out.trans (HC5.out.trans hc6))
    clear hc6
    go_wp2_with fail
    go_ret
    exact ⟨rfl, HC6.out⟩
end Go.Proofs.YtpbdmlipdfdblaaDoor
