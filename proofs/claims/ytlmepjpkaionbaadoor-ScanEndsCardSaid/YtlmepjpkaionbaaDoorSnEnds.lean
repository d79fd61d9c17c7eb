/-
  ScanEnds: once the sections have ended, polls that look at all holdouts once are enough.
-/
import Derived.Test.YtlmepjpkaionbaaDoorSnWaits
import Derived.Test.YtlmepjpkaionbaaDoorSeMany
namespace Go.Proofs.YtlmepjpkaionbaaDoor
open Go.RowKit

/-- Those that are such, rising. -/
def lstN (p : Nat → Bool) : List Nat := (List.range 64).filter p
def lstI (p : Nat → Bool) : List Int := (lstN p).map fun (i : Nat) => (i : Int)
theorem lstI_len (p : Nat → Bool) : (lstI p).length = cntN p 64 := by unfold lstI; rw [List.length_map]; rfl
theorem lstI_at {p : Nat → Bool} {k : Nat} (hk : k < cntN p 64) : ∃ r, (lstN p)[k]? = some r ∧ (lstI p)[k]?.getD 0 = (r : Int) ∧ r < 64 := by
  obtain ⟨r, hr⟩ : ∃ r, (lstN p)[k]? = some r := ⟨_, List.getElem?_eq_getElem hk⟩
  refine ⟨r, hr, ?_, ?_⟩
  · unfold lstI; rw [List.getElem?_map, hr]; rfl
  · exact List.mem_range.1 (List.mem_filter.1 (List.mem_iff_getElem?.2 ⟨k, hr⟩)).1
theorem list_msk (p : Nat → Bool) (w : World) (hT : Mk.Tab w) {M : Nat} (hM : mskN p = M) :
    Calls Tryd.prog 23 #[.int .u64 (M : Int)] w fun e w' => ∃ a cap, e = .returned (.slice a (cntN p 64) cap) ∧ Mk.IntsAt w' a (lstI p) ∧ (∀ y, a = some y → w.heap.size ≤ y.block) ∧ Ch [] w w' := by
  subst hM
  refine (Mk.list_any _ (mskN_lt p) w hT).mono ?_
  rintro e w' ⟨v, rfl, hr, hb⟩
  rw [ones_msk] at hr
  obtain ⟨a, cap, rfl⟩ := own_form hr
  have hlen : ((List.range 64).filter p).length = cntN p 64 := rfl
  rw [hlen] at hr ⊢
  refine ⟨a, cap, rfl, ?_, ?_, .of_below hb⟩
  · by_cases h0 : cntN p 64 = 0
    · exact .inl (List.eq_nil_of_length_eq_zero (by rw [lstI_len]; exact h0))
    · obtain ⟨g, rfl, _, _, _, _⟩ := own_cells hr 0 (by omega)
      refine .inr ⟨g, 0, rfl, fun i hi => ?_⟩
      rw [lstI_len] at hi
      obtain ⟨g', e, _, _, _, hc⟩ := own_cells hr i (by omega)
      cases e
      obtain ⟨r, h1, h2, _⟩ := lstI_at hi
      rw [Nat.zero_add, hc i (by omega), h2]
      unfold Mk.ivs
      rw [List.getElem?_map, show ((List.range 64).filter p)[i]? = some r from h1]
      rfl
  · intro y hy
    subst hy
    by_cases h0 : cntN p 64 = 0
    · rcases hr.2 with ⟨h, _⟩ | ⟨g, cp, cur, h, hb', _⟩
      · cases h
      · cases h; exact hb'
    · obtain ⟨g, e, hg, _⟩ := own_cells hr 0 (by omega)
      cases e
      exact hg

/-- Who isn't outside is one of a list's k-th on. -/
def Rest (L : List Nat) (k : Nat) (y : SS) : Prop := ∀ j, j < 64 → y.d j ≠ 0 → ∃ m, k ≤ m ∧ L[m]? = some j
theorem Rest.start {x : SS} (h : GS x) : Rest (lstN (inP x)) 0 x := fun j hj hd => by
  have hm : j ∈ lstN (inP x) := List.mem_filter.2 ⟨List.mem_range.2 hj, inP_iff.2 (by have := h.d0 j; omega)⟩
  obtain ⟨m, hm⟩ := List.mem_iff_getElem?.1 hm
  exact ⟨m, Nat.zero_le _, hm⟩
theorem Rest.exit {L : List Nat} {k r : Nat} {y : SS} (h : Rest L k y) (hr : r < 64) (hd : y.d r ≠ 0) : Rest L k (exitS y (r : Int)) := fun j hj hdj => by
  refine h j hj fun h0 => hdj ?_
  unfold exitS
  split
  · rw [Int.toNat_natCast, outS_d]
    by_cases e : j = r
    · subst e; exact absurd h0 hd
    · rw [if_neg e]; exact h0
  · exact h0
theorem Rest.next {L : List Nat} {k r : Nat} {y : SS} (h : Rest L k y) (hk : L[k]? = some r) (hd : y.d r = 0) : Rest L (k + 1) y := fun j hj hdj => by
  obtain ⟨m, hm, hmj⟩ := h j hj hdj
  refine ⟨m, ?_, hmj⟩
  by_cases e : m = k
  · subst e
    rw [hk] at hmj
    cases hmj
    exact absurd hd hdj
  · omega
theorem Rest.done {L : List Nat} {k : Nat} {y : SS} (h : Rest L k y) (hk : L.length ≤ k) : ∀ j, j < 64 → y.d j = 0 := fun j hj => by
  by_cases e : y.d j = 0
  · exact e
  · obtain ⟨m, hm, hmj⟩ := h j hj e
    have := (List.getElem?_eq_some_iff.1 hmj).1
    omega
theorem ends_start {y : SS} (h : GS y) {t : Int} (hd : ∀ j, j < 64 → y.d j = 0) : ∀ j : Nat, j < 64 → endF t y (j : Int) = true := fun j hj => by
  have h1 := hd j hj
  have h2 := h.op j
  have h3 := h.s0 j
  unfold endF endB
  rw [sOf_nat y hj, decide_eq_true (show y.s j = 0 by omega)]
  rfl
theorem ends_enter {y : SS} {t : Int} (ht : t ≤ y.n) (r : Int) (h : ∀ j : Nat, j < 64 → endF t y (j : Int) = true) : ∀ j : Nat, j < 64 → endF t (enterS y r) (j : Int) = true := fun j hj => by
  have h1 := h j hj
  unfold endF endB at h1 ⊢
  rw [sOf_nat _ hj] at h1 ⊢
  unfold enterS
  split
  · rw [inS_s]
    split
    · rw [decide_eq_true (show t < y.n + 1 by omega), Bool.or_true]
    · exact h1
  · exact h1

set_option maxRecDepth 100000 in
set_option maxHeartbeats 4000000 in
theorem ends_law (a : Option Addr) (len cap : Nat) (n : Int) (a2 : Option Addr) (len2 cap2 : Nat) (zs : List Int) (w : World) (hT : Mk.Tab w) (_ : len ≤ 9223372036854775807) (ha : ActsAt w a len) (hn2 : len2 = zs.length) (_ : len2 ≤ cap2) (_ : cap2 ≤ 9223372036854775807) (hz2 : Mk.IntsAt w a2 zs) :
    Calls Tryd.prog 5 #[.slice a len cap, .int .i64 n, .slice a2 len2 cap2] w fun e w' => e = .returned (.bool true) ∧ Below w.heap.size w w' := by
  have HAc := Lib.hid ha
  have HZ := Lib.hid hz2
  have HZl := Lib.hid hn2
  have HT := Lib.hid hT
  have hz := secZ_zero w
  have H0 := Lib.hid (SL.new w (Ch.refl [] w) 26)
  have u0 : 0 ≤ IntKind.u64.wrap n ∧ IntKind.u64.wrap n < 18446744073709551616 := by rw [IntKind.wrap_u64]; omega
  obtain ⟨U, hU⟩ : ∃ U, IntKind.u64.wrap n = U := ⟨_, rfl⟩
  rw [hU] at u0
  have HU := Lib.hid (And.intro hU u0)
  clear ha hT u0 hU hz2 hn2
  go_enter Tryd.func5, Tryd.ntmps5
  go_wp2_with fail
  obtain ⟨b, hb⟩ : ∃ b, b = w.heap.size := ⟨_, rfl⟩
  obtain ⟨w1, hw1⟩ : ∃ W, W = w.alloc (.cells secZ 26) := ⟨_, rfl⟩
  rw [← hw1, ← hb] at H0 ⊢
  clear hz hw1 hb
  go_loopw [8] (fun i wr => ∃ (k : Nat) (x : SS), k ≤ 40 ∧ i = .int .i64 (k : Int) ∧ x.n ≤ k ∧ SL w wr b x) (fun i _ => 40 - (intOf i).toNat)
  case atStart => exact ⟨0, SS.zero, by decide, rfl, by decide, H0.out⟩
  case round =>
    obtain ⟨k, x, hk, rfl, hxn, hl⟩ := hrel
    clear H0
    by_cases hgo : k < len ∧ k < 40
    · obtain ⟨hlt, hlt4⟩ := hgo
      rcases HAc.out.ch hl.ch with h0 | ⟨g, off, rfl, hcc⟩
      · exfalso; omega
      · obtain ⟨R, O, q0, q1⟩ := hcc k hlt
        have hlt' : (k : Int) < (len : Int) := by omega
        have C1 := Lib.hid (do_any hl (by omega) (RD.nil wr (b + 1)) (by simp) (by have := hl.s.lt; omega) (Nat.lt_succ_self b) R O)
        have hdn := (do_n x R O).2
        have HN := Lib.hid (show (doS x R O).n ≤ ((k + 1 : Nat) : Int) by omega)
        clear hl hxn hcc hdn
        go_wp2_with fail
        with_reducible refine C1.out.mono ?_
        rintro e w2 ⟨m2, rfl, -, -, h2, -⟩
        have H2 := Lib.hid h2
        clear h2 C1
        go_wp2_with fail
        go_roundw
        case rel => exact ⟨k + 1, doS x R O, by omega, by go_num, HN.out, H2.out⟩
        case measure => simp [intOf]; omega
    · have hcond : ((k : Int) < (len : Int) ∧ ¬ (k : Int) < 40) ∨ ¬ (k : Int) < (len : Int) := by
        by_cases hkn : (k : Int) < (len : Int)
        · exact .inl ⟨hkn, by omega⟩
        · exact .inr hkn
      have C1 := Lib.hid (hl.scan HT.out)
      have HXn := Lib.hid (show x.n ≤ 40 by omega)
      have HGx := Lib.hid hl.g
      clear hgo hk hxn hl
      rcases hcond with ⟨hc1, hc2⟩ | hc1
      all_goals
        go_wp2_with fail
        with_reducible refine C1.out.mono ?_
        rintro e w2 ⟨c, rfl, h2, hlo2, hc2'⟩
        obtain ⟨pm, hpm⟩ : ∃ pm, mskN (inP x) = pm := ⟨_, rfl⟩
        have C2 := Lib.hid (h2.left hpm)
        have C3 := Lib.hid (list_msk (inP x) w2 (tab_ch HT.out h2.l.ch (by simp)) hpm)
        have HBC := Lib.hid (show b < w2.heap.size ∧ c < w2.heap.size from ⟨h2.l.s.lt, h2.n.lt⟩)
        have H2 := Lib.hid h2
        obtain ⟨L, hL⟩ : ∃ L, L = cntN (inP x) 64 := ⟨_, rfl⟩
        rw [← hL] at C3
        have HL := Lib.hid hL
        have hL64 : L ≤ 64 := by rw [hL]; exact cntN_le _ _
        clear h2 hlo2 hc2' C1 hpm hL
        go_wp2_with fail
        with_reducible refine C2.out.mono ?_
        rintro e w' ⟨rfl, rfl⟩
        go_wp2_with fail
        with_reducible refine C3.out.mono ?_
        rintro e w3 ⟨la, lcap, rfl, hla, hlb, hc3⟩
        have HLA := Lib.hid hla
        have HLB := Lib.hid hlb
        have H3 := Lib.hid (H2.out.quiet hc3)
        have HLI := Lib.hid (show (lstI (inP x)).length = L by rw [HL.out]; exact lstI_len _)
        clear hla hlb hc3 C2 C3 H2
        go_wp2_with fail
        obtain ⟨t, ht⟩ : ∃ t, t = x.n := ⟨_, rfl⟩
        rw [← ht] at H3
        have HTx := Lib.hid ht
        have HTb := Lib.hid (show t ≤ 40 by rw [ht]; exact HXn.out)
        clear ht HXn
        go_loopw [11] (fun i wr => ∃ (k : Nat) (y : SS), k ≤ L ∧ i = .int .i64 (k : Int) ∧ y.n = t ∧ XL w wr b c y t (inP x) 0 ∧ Mk.IntsAt wr la (lstI (inP x)) ∧ Rest (lstN (inP x)) k y) (fun i _ => L - (intOf i).toNat)
        case atStart => exact ⟨0, x, Nat.zero_le _, rfl, HTx.out.symm, H3.out, HLA.out, Rest.start HGx.out⟩
        case round =>
          obtain ⟨j, y, hj, rfl, hyn, hx, hla, hrest⟩ := hrel
          clear H3 HLA
          by_cases hlt : j < L
          · have hlt' : (j : Int) < (L : Int) := by omega
            obtain ⟨r, hr1, hr2, hr64⟩ := lstI_at (p := inP x) (k := j) (by rw [← HL.out]; exact hlt)
            have HR1 := Lib.hid hr1
            have HR2 := Lib.hid hr2
            have HXX := Lib.hid hx
            have HY := Lib.hid (And.intro hyn hrest)
            have HLA := Lib.hid hla
            have hd0 := hx.l.g.d0 r
            have hd8 := hx.l.g.d8 r
            obtain ⟨d0, hd⟩ : ∃ d0 : Nat, y.d r = (d0 : Int) := ⟨(y.d r).toNat, by omega⟩
            have hd9 : d0 ≤ 8 := by omega
            have HD := Lib.hid hd
            clear hr1 hr2 hyn hrest hx hla hd0 hd8 hd
            go_wp2_with fail
            go_loopw [12] (fun i wr => ∃ (m : Nat) (z : SS), m ≤ d0 ∧ i = .int .i64 (m : Int) ∧ z.d r = ((d0 - m : Nat) : Int) ∧ z.n = t ∧ XL w wr b c z t (inP x) 0 ∧ Mk.IntsAt wr la (lstI (inP x)) ∧ Rest (lstN (inP x)) j z) (fun i _ => 9 - (intOf i).toNat)
            case atStart => exact ⟨0, y, Nat.zero_le _, rfl, HD.out, HY.out.1, HXX.out, HLA.out, HY.out.2⟩
            case round =>
              obtain ⟨m, z, hm, rfl, hzd, hzn, hzx, hzl, hzr⟩ := hrel
              clear HXX HY HLA HD
              have hm9 : (m : Int) < 9 := by omega
              rcases hzl with h0 | ⟨g, off, rfl, hcc⟩
              · exfalso; have := HLI.out; rw [h0] at this; simp at this; omega
              · have q0 := hcc j (by rw [HLI.out]; exact hlt)
                rw [HR2.out] at q0
                have HZL := Lib.hid (show Mk.IntsAt wr (some ⟨g, off, none⟩) (lstI (inP x)) from .inr ⟨g, off, rfl, hcc⟩)
                have C1 := Lib.hid (hzx.l.depth (r : Int) (v := ((d0 - m : Nat) : Int)) (by rw [dOf_nat z hr64, hzd]))
                by_cases hlt2 : m < d0
                · obtain ⟨f1, f2, f3, f4⟩ := exit_facts (x := z) hr64 hzd (by omega)
                  have C2 := Lib.hid (hzx.l.exit (r : Int) f4 f1)
                  have HF := Lib.hid (show (exitS z (r : Int)).d r = ((d0 - (m + 1) : Nat) : Int) ∧ (exitS z (r : Int)).n = t from ⟨by rw [f2]; omega, f3.trans hzn⟩)
                  have HRs := Lib.hid (hzr.exit hr64 (by rw [hzd]; omega))
                  have HZX := Lib.hid hzx
                  have hgt : 0 < d0 - m := by omega
                  generalize decide (d0 - m = 1) = eb at *
                  obtain ⟨dm, hdm⟩ : ∃ dm, dm = d0 - m := ⟨_, rfl⟩
                  rw [← hdm] at C1 hgt
                  clear hdm hzd hzn hzx hzr hcc f1 f2 f3 f4
                  go_wp2_with fail
                  with_reducible refine C1.out.mono ?_
                  rintro e w' ⟨rfl, rfl⟩
                  go_wp2_with fail
                  with_reducible refine C2.out.mono ?_
                  rintro e w4 ⟨rfl, h4, hc4⟩
                  have H4 := Lib.hid (HZX.out.sect h4 hc4)
                  have HZ4 := Lib.hid (intsAt_ch HZL.out hc4 (.inr fun y hy => by have := HLB.out y hy; have := HBC.out.1; simp only [List.mem_singleton]; omega))
                  clear h4 hc4 C1 C2 HZX HZL
                  go_wp2_with fail
                  go_roundw
                  case rel => exact ⟨m + 1, exitS z (r : Int), by omega, by go_num, HF.out.1, HF.out.2, H4.out, HZ4.out, HRs.out⟩
                  case measure => simp [intOf]; omega
                · obtain rfl : m = d0 := by omega
                  rw [Nat.sub_self] at hzd C1
                  have HRs := Lib.hid (hzr.next HR1.out hzd)
                  have HZX := Lib.hid hzx
                  have HZn := Lib.hid hzn
                  clear hzd hzn hzx hzr hcc
                  go_wp2_with fail
                  with_reducible refine C1.out.mono ?_
                  rintro e w' ⟨rfl, rfl⟩
                  go_wp2_with fail
                  go_roundw
                  case rel => exact ⟨j + 1, z, by omega, by go_num, HZn.out, HZX.out, HZL.out, HRs.out⟩
                  case measure => simp [intOf]; omega
          · obtain rfl : L = j := by omega
            have hall := hrest.done (by rw [HL.out]; exact Nat.le_refl _)
            have HE := Lib.hid (ends_start hx.l.g (t := t) hall)
            have HX := Lib.hid hx
            have HLn := Lib.hid (show t ≤ y.n ∧ y.n ≤ 40 by rw [hyn]; exact ⟨Int.le_refl _, HTb.out⟩)
            clear hrest hall hx hyn hla hlt
            go_wp2_with fail
            go_loopw [15] (fun i wr => ∃ (k : Nat) (y : SS), k ≤ 12 ∧ i = .int .i64 (k : Int) ∧ t ≤ y.n ∧ y.n ≤ 40 + (k : Int) ∧ XL w wr b c y t (inP x) 0 ∧ ∀ j : Nat, j < 64 → endF t y (j : Int) = true) (fun i _ => 12 - (intOf i).toNat)
            case atStart => exact ⟨0, y, by decide, rfl, HLn.out.1, by have := HLn.out.2; omega, HX.out, HE.out⟩
            case round =>
              obtain ⟨k2, z, hk2, rfl, htz, hzn, hx, hends⟩ := hrel
              clear HX HE HLn
              by_cases hgo : k2 < len2 ∧ k2 < 12
              · obtain ⟨hlt2, hlt12⟩ := hgo
                have hlt2' : (k2 : Int) < (len2 : Int) := by omega
                rcases intsAt_ch HZ.out hx.l.ch (.inr (by simp)) with h0 | ⟨g, off, rfl, hcc⟩
                · exfalso; have := HZl.out; rw [h0] at this; simp at this; omega
                · have hcc := hcc k2 (by rw [← HZl.out]; exact hlt2)
                  generalize zs[k2]?.getD 0 = R at hcc
                  have C1 := Lib.hid (hx.l.enter R (by omega) (e := enterE z R) rfl 3)
                  have hen := enter_n z R
                  have HE := Lib.hid (ends_enter htz R hends)
                  have HN := Lib.hid (show t ≤ (enterS z R).n ∧ (enterS z R).n ≤ 40 + ((k2 + 1 : Nat) : Int) by omega)
                  have HX := Lib.hid hx
                  generalize enterE z R = ee at *
                  clear hx hends htz hzn hen
                  go_wp2_with fail
                  with_reducible refine C1.out.mono ?_
                  rintro e w4 ⟨rfl, h4, hc4⟩
                  have H4 := Lib.hid (HX.out.sect h4 hc4)
                  clear h4 hc4 C1 HX
                  go_wp2_with fail
                  go_roundw
                  case rel => exact ⟨k2 + 1, enterS z R, by omega, by go_num, HN.out.1, HN.out.2, H4.out, HE.out⟩
                  case measure => simp [intOf]; omega
              · have hcond2 : ((k2 : Int) < (len2 : Int) ∧ ¬ (k2 : Int) < 12) ∨ ¬ (k2 : Int) < (len2 : Int) := by
                  by_cases hkn : (k2 : Int) < (len2 : Int)
                  · exact .inl ⟨hkn, by omega⟩
                  · exact .inr hkn
                have HX := Lib.hid hx
                have HE := Lib.hid hends
                obtain ⟨hU, u0, u1⟩ := HU.out
                obtain ⟨N, hn0, hn1, hn2⟩ : ∃ N : Nat, 1 + U % 64 = (N : Int) ∧ 1 ≤ N ∧ N ≤ 64 := ⟨(1 + U % 64).toNat, by omega⟩
                clear hgo hx hends htz hzn hk2
                rcases hcond2 with ⟨hd1, hd2⟩ | hd1
                all_goals
                  go_wp2_with fail
                  clear hU u0 u1 hn0
                  go_loopw [16] (fun i wr => ∃ (I : Nat) (q : Nat → Bool) (P : Nat), I ≤ 128 ∧ i = .int .i64 (I : Int) ∧ cntN q 64 = L - I ∧ XL w wr b c z t q P) (fun i _ => L - (intOf i).toNat)
                  case atStart => exact ⟨0, inP x, 0, by decide, rfl, HL.out.symm, HX.out⟩
                  case round =>
                    obtain ⟨I, q, P, hI, rfl, hcnt, hx⟩ := hrel
                    clear HX
                    by_cases hlt3 : I < L
                    · have hlt3' : (I : Int) < (L : Int) := by omega
                      obtain ⟨v, hv⟩ : ∃ v : Nat, v = L - I - N := ⟨_, rfl⟩
                      have hpc := pollL_cnt (p := q) (e := endF t z) hx.lt (fun i hi _ => HE.out i hi) (N : Int)
                      rw [hcnt, Int.toNat_natCast] at hpc
                      have hpv : cntN (pollL (endF t z) P q (N : Int)) 64 = v := by rw [hpc, hv]; omega
                      have C1 := Lib.hid (hx.poll (N : Int) rfl rfl hpv)
                      obtain ⟨ev, hev⟩ : ∃ ev : Int, ev = (L : Int) - (I : Int) - (N : Int) := ⟨_, rfl⟩
                      have hw1 : IntKind.i64.wrap ((L : Int) - (I : Int)) = (L : Int) - (I : Int) := IntWalk.i64_in _ (by omega)
                      have hw2 : IntKind.i64.wrap ((L : Int) - (I : Int) - (N : Int)) = ev := by rw [hev]; exact IntWalk.i64_in _ (by omega)
                      have hw3 : IntKind.i64.wrap ((I : Int) + (N : Int)) = (I : Int) + (N : Int) := IntWalk.i64_in _ (by omega)
                      have hmax : (if (0 : Int) < ev then ev else 0) = (v : Int) := by
                        by_cases h : 0 < ev
                        · rw [if_pos h]; omega
                        · rw [if_neg h]; omega
                      have HV := Lib.hid (show v = L - (I + N) by omega)
                      have HPv := Lib.hid hpv
                      clear hpc hpv hcnt hev hv hx
                      go_wp2_with fail
                      with_reducible refine C1.out.mono ?_
                      rintro e w6 ⟨rfl, h6, hc6⟩
                      have H6 := Lib.hid h6
                      clear h6 hc6 C1
                      go_wp2_with fail
                      go_roundw
                      case rel => exact ⟨I + N, _, _, by omega, by go_num, HPv.out.trans HV.out, H6.out⟩
                      case measure => simp [intOf]; omega
                    · have hc0 : cntN q 64 = 0 := by omega
                      have C1 := Lib.hid (known_any wr (tab_ch HT.out hx.l.ch (by simp)))
                      have HX := Lib.hid hx
                      have HC0 := Lib.hid hc0
                      clear hx hcnt hc0
                      go_wp2_with fail
                      with_reducible refine C1.out.mono ?_
                      rintro e w6 ⟨rfl, hc6⟩
                      have h7 := HX.out.quiet hc6
                      have C2 := Lib.hid (h7.done (d := true) (decide_eq_true HC0.out))
                      have HCh := Lib.hid h7.l.ch
                      clear h7 hc6
                      go_wp2_with fail
                      with_reducible refine C2.out.mono ?_
                      rintro e w' ⟨rfl, rfl⟩
                      go_wp2_with fail
                      go_ret
                      exact ⟨rfl, HCh.out.below _ (by simp) (Nat.le_refl _)⟩
end Go.Proofs.YtlmepjpkaionbaaDoor
