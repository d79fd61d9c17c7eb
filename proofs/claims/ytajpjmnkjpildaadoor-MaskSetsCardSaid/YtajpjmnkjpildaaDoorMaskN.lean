/-
  The walks of the laws MaskSets and MaskMakes.
-/
import Derived.Test.YtajpjmnkjpildaaDoorMaskM
import Derived.WalkSmall
namespace Go.Proofs.YtajpjmnkjpildaaDoor
open Go.RowKit

theorem bl_zero : bl 0 = List.replicate 64 false := by
  apply List.ext_getElem (by simp [bl])
  intro i h1 h2
  rw [List.getElem_replicate]
  simp [bl]

theorem IntsAt.take {w : World} {a : Option Addr} {zs : List Int} (h : IntsAt w a zs) (k : Nat) : IntsAt w a (zs.take k) := by
  rcases h with rfl | ⟨b, off, rfl, hc⟩
  · exact .inl (by simp)
  · refine .inr ⟨b, off, rfl, fun i hi => ?_⟩
    have hi2 : i < k ∧ i < zs.length := by rw [List.length_take] at hi; omega
    rw [hc i hi2.2]
    simp [hi2.1]

theorem put_n (g cap : Nat) (bs : List Bool) (a : Option Addr) (cap2 n : Nat) (zs : List Int) (v : Bool) (w : World) (hn : n = zs.length) (hb : BA w g cap bs) (hl : n ≤ 9223372036854775807) (hz : IntsAt w a zs) :
    Calls Tryd.prog 11 #[.slice (some ⟨g, 0, none⟩) 64 cap, .slice a n cap2, .bool v] w fun e w' => ∃ g' cap', e = .returned (.slice (some ⟨g', 0, none⟩) 64 cap') ∧ BA w' g' cap' (putB bs zs v) ∧ w.heap.size ≤ g' ∧ Below w.heap.size w w' := by
  subst hn; exact put_any g cap bs a cap2 zs v w hb hl hz
theorem of_n (a : Option Addr) (cap n : Nat) (zs : List Int) (w : World) (hn : n = zs.length) (hl : n ≤ 9223372036854775807) (hz : IntsAt w a zs) :
    Calls Tryd.prog 20 #[.slice a n cap] w fun e w' => e = .returned (.int .u64 ((withN 0 zs : Nat) : Int)) ∧ w = w' := by
  subst hn; exact of_any a cap zs w hl hz
theorem with_n (m : Nat) (hm : m < 18446744073709551616) (a : Option Addr) (cap n : Nat) (zs : List Int) (w : World) (hn : n = zs.length) (hl : n ≤ 9223372036854775807) (hz : IntsAt w a zs) :
    Calls Tryd.prog 9 #[.int .u64 (m : Int), .slice a n cap] w fun e w' => e = .returned (.int .u64 ((withN m zs : Nat) : Int)) ∧ w = w' := by
  subst hn; exact with_any m hm a cap zs w hl hz
theorem without_n (m : Nat) (hm : m < 18446744073709551616) (a : Option Addr) (cap n : Nat) (zs : List Int) (w : World) (hn : n = zs.length) (hl : n ≤ 9223372036854775807) (hz : IntsAt w a zs) :
    Calls Tryd.prog 10 #[.int .u64 (m : Int), .slice a n cap] w fun e w' => e = .returned (.int .u64 ((withoutN m zs : Nat) : Int)) ∧ w = w' := by
  subst hn; exact without_any m hm a cap zs w hl hz

/-- Which of the first k numbers are below n. -/
def cTo (n : Int) (k : Nat) : List Bool := (List.range 64).map fun i => decide (i < k) && decide ((i : Int) < n)
theorem cTo_zero (n : Int) : cTo n 0 = List.replicate 64 false := by
  apply List.ext_getElem (by simp [cTo])
  intro i h1 h2
  rw [List.getElem_replicate]
  simp [cTo]
theorem cTo_succ (n : Int) (k : Nat) : cTo n (k + 1) = (cTo n k).set k (decide ((k : Int) < n)) := by
  apply List.ext_getElem (by simp [cTo])
  intro i h1 h2
  simp [cTo] at h1
  rw [List.getElem_set]
  by_cases e : k = i
  · subst e; simp [cTo]
  · have e2 : (i < k + 1) ↔ (i < k) := by omega
    simp [cTo, e, e2]
theorem fulln_lt (n : Int) : fulln n < 18446744073709551616 := by
  unfold fulln
  split
  · decide
  · split
    · decide
    · have : 2 ^ n.toNat ≤ 2 ^ 63 := Nat.pow_le_pow_right (by decide) (by omega)
      omega
theorem all_test (i : Nat) (hi : i < 64) : (18446744073709551615 : Nat).testBit i = true := by
  rw [show (18446744073709551615 : Nat) = 2 ^ 64 - 1 from by decide, Nat.testBit_two_pow_sub_one]
  simpa using hi
theorem cTo_full (n : Int) : cTo n 64 = bl (fulln n) := by
  unfold cTo bl
  apply List.map_congr_left
  intro i hi
  have hi : i < 64 := by simpa using hi
  unfold fulln
  by_cases h1 : n < 1
  · rw [if_pos h1]
    have : ¬ (i : Int) < n := by omega
    simp [this]
  · rw [if_neg h1]
    by_cases h2 : 64 ≤ n
    · rw [if_pos h2]
      have e : (i : Int) < n := by omega
      have e2 : (18446744073709551615 : Nat).testBit i = true := all_test i hi
      rw [e2, decide_eq_true hi, decide_eq_true e]; rfl
    · rw [if_neg h2, Nat.testBit_two_pow_sub_one]
      have e : decide ((i : Int) < n) = decide (i < n.toNat) := decide_eq_decide.2 (by omega)
      rw [decide_eq_true hi, e]; rfl

set_option maxHeartbeats 2000000 in
theorem makes_core (a : Option Addr) (len cap K : Nat) (zs : List Int) (n : Int) (w : World) (hT : Tab w) (hK : (200 < len ∧ K = 200) ∨ (len ≤ 200 ∧ K = len)) (hn : K = zs.length) (hlc : len ≤ cap) (hcm : cap ≤ 9223372036854775807) (hz : IntsAt w a zs) :
    Calls Tryd.prog 4 #[.slice a len cap, .int .i64 n] w fun e w' => e = .returned (.bool true) ∧ Below w.heap.size w w' := by
  obtain ⟨i0, hi, hz0, hz1, hz2⟩ := info_parts infoBool
  have hg := tab_pos hT
  have HT := Lib.hid hT
  have HZ := Lib.hid hz
  have HN := Lib.hid hn
  have hKl : K ≤ 9223372036854775807 := by omega
  have HKl := Lib.hid hKl
  clear hz hn hT hKl
  rcases hK with ⟨h200, rfl⟩ | ⟨h200, rfl⟩
  all_goals
    go_enter Tryd.func4, Tryd.ntmps4
    go_wp2_with (at_make; refine wpList_make_full _ rfl _ _ 26 rfl 0 4 i0 (.bool false) 1 Tryd.underlying26 hi hz0 hz1 _ _ _ _ 64 rfl rfl rfl rfl (by rw [hz2]; decide) (by unfold maxLen; decide) (Nat.zero_le _) ?_; intro w1 hown hgrow)
    have hBA1 : BA w1 w.heap.size 64 (bl 0) := by rw [bl_zero]; unfold BA; rw [← made_bools]; exact hown
    have hb1 : Below w.heap.size w w1 := (Below.refl _ _).grown hgrow (Nat.le_refl _) (fun k e => by cases e)
    clear hown hgrow
    refine (put_n w.heap.size 64 (bl 0) a cap _ zs true w1 HN.out hBA1 HKl.out (HZ.out.later hb1)).mono ?_
    rintro e w2 ⟨g2, cap2, rfl, hBA2, _, hb2⟩
    rw [bl_with] at hBA2
    have hb02 := hb1.trans (hb2.mono hb1.size)
    clear hBA1 hb1 hb2
    go_wp2_with (at_make; refine wpList_make_full _ rfl _ _ 26 rfl 0 4 i0 (.bool false) 1 Tryd.underlying26 hi hz0 hz1 _ _ _ _ 64 rfl rfl rfl rfl (by rw [hz2]; decide) (by unfold maxLen; decide) (Nat.zero_le _) ?_; intro w3 hown hgrow)
    have hBA3 : BA w3 w2.heap.size 64 (cTo n 0) := by rw [cTo_zero]; unfold BA; rw [← made_bools]; exact hown
    have hb3 : Below w2.heap.size w2 w3 := (Below.refl _ _).grown hgrow (Nat.le_refl _) (fun k e => by cases e)
    have HBA2 := Lib.hid hBA2
    have HBA3 := Lib.hid hBA3
    have HB3 := Lib.hid hb3
    have HB02 := Lib.hid hb02
    clear hown hgrow hBA2 hBA3 hb3 hb02
    go_wp2
    go_loopw [7] (fun i wr => ∃ k : Nat, k ≤ 64 ∧ i = .int .i64 (k : Int) ∧ BA wr w2.heap.size 64 (cTo n k) ∧ Below w2.heap.size w2 wr) (fun i _ => 64 - (intOf i).toNat)
    case atStart => exact ⟨0, by omega, rfl, HBA3.out, HB3.out⟩
    case round =>
      obtain ⟨k, hk, rfl, hBA, hB⟩ := hrel
      have HBA := Lib.hid hBA
      have HB := Lib.hid hB
      clear hBA hB
      by_cases hlt : k < 64
      · have hc := HBA.out.cell k hlt
        have hf := HBA.out.free k
        go_wp2
        go_roundw
        case rel => exact ⟨k + 1, by omega, by go_num, by rw [cTo_succ]; exact HBA.out.set k _, HB.out.setCell (p := ⟨w2.heap.size, k, none⟩) (Nat.le_refl _) _⟩
        case measure => simp [intOf]; omega
      · have hk64 : k = 64 := by omega
        subst hk64
        have hBA4 := HBA.out
        rw [cTo_full] at hBA4
        have HBA4 := Lib.hid hBA4
        have hb04 : Below w.heap.size w wr := HB02.out.trans (HB.out.mono HB02.out.size)
        have HB04 := Lib.hid hb04
        clear hBA4 hb04
        go_wp2_with fail
        refine (known_any _ (HT.out.below HB04.out hg)).mono ?_
        rintro e w5 ⟨rfl, hb5⟩
        have HB05 := Lib.hid (HB04.out.trans (hb5.mono HB04.out.size))
        have HB5 := Lib.hid hb5
        clear hb5
        go_wp2_with fail
        refine (of_n a cap _ zs w5 HN.out HKl.out (HZ.out.later HB05.out)).mono ?_
        rintro e w6 ⟨rfl, rfl⟩
        go_wp2_with fail
        refine (word_any g2 cap2 (bl (withN 0 zs)) w5 (((HBA2.out.below HB.out HBA2.out.lt)).below HB5.out (Nat.lt_of_lt_of_le HBA2.out.lt HB.out.size))).mono ?_
        rintro e w6 ⟨rfl, rfl⟩
        rw [word_bl _ (withN_lt 0 zs (by decide))]
        go_wp2_with fail
        refine (full_any n w5).mono ?_
        rintro e w6 ⟨rfl, rfl⟩
        go_wp2_with fail
        refine (word_any w2.heap.size 64 (bl (fulln n)) w5 (HBA4.out.below HB5.out HBA4.out.lt)).mono ?_
        rintro e w6 ⟨rfl, rfl⟩
        rw [word_bl _ (fulln_lt n)]
        go_wp2
        go_ret
        exact ⟨rfl, HB05.out⟩

theorem makes_law (a : Option Addr) (len cap : Nat) (zs : List Int) (n : Int) (w : World) (hT : Tab w) (hlen : len = zs.length) (hlc : len ≤ cap) (hcm : cap ≤ 9223372036854775807) (hz : IntsAt w a zs) :
    Calls Tryd.prog 4 #[.slice a len cap, .int .i64 n] w fun e w' => e = .returned (.bool true) ∧ Below w.heap.size w w' := by
  rcases Nat.lt_or_ge 200 len with h | h
  · exact makes_core a len cap 200 (zs.take 200) n w hT (.inl ⟨h, rfl⟩) (by rw [List.length_take]; omega) hlc hcm (hz.take 200)
  · exact makes_core a len cap len zs n w hT (.inr ⟨h, rfl⟩) hlen hlc hcm hz

theorem hasb_bl (x : Nat) (i : Int) : hasb x i = (decide (0 ≤ i) && decide (i < 64) && (bl x)[i.toNat]?.getD false) := by
  unfold hasb
  by_cases h : 0 ≤ i ∧ i < 64
  · rw [bl_get x _ (by omega)]
    simp [h.1, h.2]
  · by_cases h0 : 0 ≤ i
    · have h1 : ¬ i < 64 := by omega
      simp [h1]
    · simp [h0]

/-- A slice of numbers of the call's own, as a slice that is read. -/
theorem own_ints {w : World} {b : Nat} {v : Value} {l : List Nat} (h : w.ownsRow b 3 1 v l.length (ivs l)) : ∃ a cap, v = .slice a l.length cap ∧ IntsAt w a (l.map fun (i : Nat) => (i : Int)) := by
  cases l with
  | nil =>
    rcases h.2 with ⟨rfl, _⟩ | ⟨g, cap, cur, rfl, _⟩
    · exact ⟨none, 0, rfl, .inl rfl⟩
    · exact ⟨some ⟨g, 0, none⟩, cap, rfl, .inl rfl⟩
  | cons x r =>
    obtain ⟨g, cap, rfl⟩ := ownsRow_succ (k := r.length) h
    refine ⟨some ⟨g, 0, none⟩, cap, rfl, .inr ⟨g, 0, rfl, fun i hi => ?_⟩⟩
    have hi : i < (x :: r).length := by simpa using hi
    rw [Nat.zero_add, World.ownsRow.cellAt h i (by simpa using hi)]
    simp only [ivs, List.getElem?_map, List.getElem?_eq_getElem hi]
    rfl

set_option maxHeartbeats 4000000 in
theorem sets_core (m : Nat) (hm : m < 18446744073709551616) (a1 : Option Addr) (len1 cap1 K1 : Nat) (z1 : List Int) (a2 : Option Addr) (len2 cap2 K2 : Nat) (z2 : List Int) (w : World) (hT : Tab w)
    (hK1 : (200 < len1 ∧ K1 = 200) ∨ (len1 ≤ 200 ∧ K1 = len1)) (hn1 : K1 = z1.length) (hlc1 : len1 ≤ cap1) (hcm1 : cap1 ≤ 9223372036854775807) (hz1 : IntsAt w a1 z1)
    (hK2 : (200 < len2 ∧ K2 = 200) ∨ (len2 ≤ 200 ∧ K2 = len2)) (hn2 : K2 = z2.length) (hlc2 : len2 ≤ cap2) (hcm2 : cap2 ≤ 9223372036854775807) (hz2 : IntsAt w a2 z2) :
    Calls Tryd.prog 3 #[.int .u64 (m : Int), .slice a1 len1 cap1, .slice a2 len2 cap2] w fun e w' => e = .returned (.bool true) ∧ Below w.heap.size w w' := by
  have hg := tab_pos hT
  have HT := Lib.hid hT
  have HM := Lib.hid hm
  have HZ1 := Lib.hid hz1
  have HZ2 := Lib.hid hz2
  have HN1 := Lib.hid hn1
  have HN2 := Lib.hid hn2
  have hKl1 : K1 ≤ 9223372036854775807 := by omega
  have hKl2 : K2 ≤ 9223372036854775807 := by omega
  have HKl1 := Lib.hid hKl1
  have HKl2 := Lib.hid hKl2
  clear hz1 hn1 hz2 hn2 hT hKl1 hKl2 hm
  rcases hK1 with ⟨h1, rfl⟩ | ⟨h1, rfl⟩ <;> rcases hK2 with ⟨h2, rfl⟩ | ⟨h2, rfl⟩
  all_goals
    go_enter Tryd.func3, Tryd.ntmps3
    go_wp2_with fail
    go_quiet (fail)
    have hb0 : Below w.heap.size w (w.drewN nq) := below_drewN (Below.refl _ _) nq
    generalize w.drewN nq = w0 at hb0 ⊢
    go_wp2_with fail
    refine (with_n m HM.out a1 cap1 _ z1 w0 HN1.out HKl1.out (HZ1.out.later hb0)).mono ?_
    rintro e w1 ⟨rfl, rfl⟩
    have HX1 := Lib.hid (withN_lt m z1 HM.out)
    go_wp2_with fail
    refine (without_n _ HX1.out a2 cap2 _ z2 w0 HN2.out HKl2.out (HZ2.out.later hb0)).mono ?_
    rintro e w1 ⟨rfl, rfl⟩
    have HX := Lib.hid (withoutN_lt (withN m z1) z2 HX1.out)
    go_wp2_with fail
    refine (bits_any m HM.out w0).mono ?_
    rintro e w1 ⟨g1, rfl, hBA1, _, hb1⟩
    have hb01 := hb0.trans (hb1.mono hb0.size)
    clear hb1 hb0
    go_wp2_with fail
    refine (put_n g1 64 (bl m) a1 cap1 _ z1 true w1 HN1.out hBA1 HKl1.out (HZ1.out.later hb01)).mono ?_
    rintro e w2 ⟨g2, cp2, rfl, hBA2, _, hb2⟩
    rw [bl_with] at hBA2
    have hb02 := hb01.trans (hb2.mono hb01.size)
    clear hb2 hb01 hBA1
    go_wp2_with fail
    refine (put_n g2 cp2 (bl (withN m z1)) a2 cap2 _ z2 false w2 HN2.out hBA2 HKl2.out (HZ2.out.later hb02)).mono ?_
    rintro e w3 ⟨g3, cp3, rfl, hBA3, _, hb3⟩
    rw [bl_without] at hBA3
    have hb03 := hb02.trans (hb3.mono hb02.size)
    have HB3 := Lib.hid hb03
    have HBA := Lib.hid hBA3
    clear hb3 hb02 hBA2 hb03 hBA3
    obtain ⟨X, hX⟩ : ∃ X, X = withoutN (withN m z1) z2 := ⟨_, rfl⟩
    rw [← hX] at HX HBA ⊢
    clear hX HX1
    go_wp2
    go_loop [9] (fun i => ∃ z : Int, -2 ≤ z ∧ z ≤ 67 ∧ i = .int .i64 z) (fun i => (67 - intOf i).toNat)
    case atStart => exact ⟨-2, by omega, by omega, rfl⟩
    case round =>
      obtain ⟨z, hz1, hz2, rfl⟩ := hrel
      have HH := Lib.hid (hasb_bl X z)
      by_cases c0 : z < 0
      · have hv : hasb X z = false := by rw [HH.out]; simp; omega
        have HC := has_any X z HX.out w3
        rw [hv] at HC
        have HC := Lib.hid HC
        clear hv
        go_wp2_with (go_at_call 13; refine HC.out.mono ?_; rintro e w' ⟨rfl, rfl⟩)
        go_round
        case rel => exact ⟨z + 1, by omega, by omega, by go_num⟩
        case measure => simp only [intOf]; omega
      · by_cases c1 : z < 64
        · obtain ⟨v, hv⟩ : ∃ v, v = (bl X)[z.toNat]?.getD false := ⟨_, rfl⟩
          have hc := HBA.out.cell z.toNat (by omega)
          have hh : hasb X z = v := by
            rw [HH.out, ← hv, decide_eq_true (show 0 ≤ z by omega), decide_eq_true c1]; rfl
          rw [← hv] at hc
          have HC := has_any X z HX.out w3
          rw [hh] at HC
          have HC := Lib.hid HC
          clear hh hv
          have c2 : 0 ≤ z := by omega
          cases v
          · go_wp2_with (go_at_call 13; refine HC.out.mono ?_; rintro e w' ⟨rfl, rfl⟩)
            go_round
            case rel => exact ⟨z + 1, by omega, by omega, by go_num⟩
            case measure => simp only [intOf]; omega
          · go_wp2_with (go_at_call 13; refine HC.out.mono ?_; rintro e w' ⟨rfl, rfl⟩)
            go_round
            case rel => exact ⟨z + 1, by omega, by omega, by go_num⟩
            case measure => simp only [intOf]; omega
        · by_cases c2 : z < 67
          · have hv : hasb X z = false := by rw [HH.out]; simp; omega
            have HC := has_any X z HX.out w3
            rw [hv] at HC
            have HC := Lib.hid HC
            clear hv
            go_wp2_with (go_at_call 13; refine HC.out.mono ?_; rintro e w' ⟨rfl, rfl⟩)
            go_round
            case rel => exact ⟨z + 1, by omega, by omega, by go_num⟩
            case measure => simp only [intOf]; omega
          · clear HH
            go_wp2_with fail
            refine (known_any _ (HT.out.below HB3.out hg)).mono ?_
            rintro e w4 ⟨rfl, hb4⟩
            have HB4 := Lib.hid (HB3.out.trans (hb4.mono HB3.out.size))
            have HBA4 := Lib.hid (HBA.out.below hb4 HBA.out.lt)
            clear hb4
            go_wp2_with fail
            refine (word_any g3 cp3 (bl X) w4 HBA4.out).mono ?_
            rintro e w5 ⟨rfl, rfl⟩
            rw [word_bl X HX.out]
            go_wp2_with fail
            refine (len_any X HX.out w4).mono ?_
            rintro e w5 ⟨rfl, rfl⟩
            rw [Pl.pc_ones]
            go_wp2_with fail
            refine (rlist_any g3 cp3 (bl X) w4 HBA4.out).mono ?_
            rintro e w5 ⟨v5, rfl, hown5, hb5⟩
            rw [rlist_bl] at hown5
            obtain ⟨a5, cp5, rfl, _⟩ := own_ints hown5
            clear hown5
            have HB5 := Lib.hid (HB4.out.trans (hb5.mono HB4.out.size))
            have HBA5 := Lib.hid (HBA4.out.below hb5 HBA4.out.lt)
            clear hb5
            go_wp2_with fail
            refine (list_any X HX.out w5 (HT.out.below HB5.out hg)).mono ?_
            rintro e w6 ⟨v6, rfl, hown6, hb6⟩
            obtain ⟨a6, cp6, rfl, hi6⟩ := own_ints hown6
            have HB6 := Lib.hid (HB5.out.trans (hb6.mono HB5.out.size))
            have HBA6 := Lib.hid (HBA5.out.below hb6 HBA5.out.lt)
            have HI6 := Lib.hid hi6
            clear hown6 hb6 hi6
            go_wp2_with fail
            refine (rlist_any g3 cp3 (bl X) w6 HBA6.out).mono ?_
            rintro e w7 ⟨v7, rfl, hown7, hb7⟩
            rw [rlist_bl] at hown7
            obtain ⟨a7, cp7, rfl, hi7⟩ := own_ints hown7
            have HB7 := Lib.hid (HB6.out.trans (hb7.mono HB6.out.size))
            have HI67 := Lib.hid (HI6.out.later hb7)
            have HI7 := Lib.hid hi7
            clear hown7 hb7 hi7
            go_wp2_with fail
            have hsame := same_eq a6 a7 cp6 cp7 ((Pl.ones X).map fun (i : Nat) => (i : Int)) w7 (by rw [List.length_map]; have := ones_le X; omega) HI67.out HI7.out
            rw [List.length_map] at hsame
            refine hsame.mono ?_
            rintro e w8 ⟨rfl, nq8, rfl⟩
            go_wp2
            go_ret
            exact ⟨rfl, below_drewN HB7.out nq8⟩

theorem sets_law (m : Nat) (hm : m < 18446744073709551616) (a1 : Option Addr) (len1 cap1 : Nat) (z1 : List Int) (a2 : Option Addr) (len2 cap2 : Nat) (z2 : List Int) (w : World) (hT : Tab w)
    (hn1 : len1 = z1.length) (hlc1 : len1 ≤ cap1) (hcm1 : cap1 ≤ 9223372036854775807) (hz1 : IntsAt w a1 z1)
    (hn2 : len2 = z2.length) (hlc2 : len2 ≤ cap2) (hcm2 : cap2 ≤ 9223372036854775807) (hz2 : IntsAt w a2 z2) :
    Calls Tryd.prog 3 #[.int .u64 (m : Int), .slice a1 len1 cap1, .slice a2 len2 cap2] w fun e w' => e = .returned (.bool true) ∧ Below w.heap.size w w' := by
  rcases Nat.lt_or_ge 200 len1 with h1 | h1 <;> rcases Nat.lt_or_ge 200 len2 with h2 | h2
  · exact sets_core m hm a1 len1 cap1 200 (z1.take 200) a2 len2 cap2 200 (z2.take 200) w hT (.inl ⟨h1, rfl⟩) (by rw [List.length_take]; omega) hlc1 hcm1 (hz1.take 200) (.inl ⟨h2, rfl⟩) (by rw [List.length_take]; omega) hlc2 hcm2 (hz2.take 200)
  · exact sets_core m hm a1 len1 cap1 200 (z1.take 200) a2 len2 cap2 len2 z2 w hT (.inl ⟨h1, rfl⟩) (by rw [List.length_take]; omega) hlc1 hcm1 (hz1.take 200) (.inr ⟨h2, rfl⟩) hn2 hlc2 hcm2 hz2
  · exact sets_core m hm a1 len1 cap1 len1 z1 a2 len2 cap2 200 (z2.take 200) w hT (.inr ⟨h1, rfl⟩) hn1 hlc1 hcm1 hz1 (.inl ⟨h2, rfl⟩) (by rw [List.length_take]; omega) hlc2 hcm2 (hz2.take 200)
  · exact sets_core m hm a1 len1 cap1 len1 z1 a2 len2 cap2 len2 z2 w hT (.inr ⟨h1, rfl⟩) hn1 hlc1 hcm1 hz1 (.inr ⟨h2, rfl⟩) hn2 hlc2 hcm2 hz2
end Go.Proofs.YtajpjmnkjpildaaDoor
