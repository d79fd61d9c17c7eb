/-
  WheelNil, walked.
  WheelLimits, walked.
-/
import Derived.Test.YtcjemidflbfljaaDoorMgI
namespace Go.Proofs.YtcjemidflbfljaaDoor
open Go.RowKit Go.Maps

attribute [local go_sem] Oper.semAt_some

set_option maxRecDepth 100000 in
set_option maxHeartbeats 1000000 in
theorem nil_law (id at' : Int) (w : World) (hT : Mk.Tab w) :
    Calls Tryd.prog 7 #[.int .i64 id, .int .u64 at'] w fun e w' => e = .returned (.bool true) ∧ Below w.heap.size w w' := by
  have HT := Lib.hid hT
  clear hT
  go_enter Tryd.func7, Tryd.ntmps7
  go_wp2_with fail
  with_reducible refine (nil_put id at' w).mono ?_
  rintro e w1 ⟨rfl, hc1⟩
  have HB1 := Lib.hid (hc1.below w.heap.size (by simp) (Nat.le_refl _))
  clear hc1
  unfold spz
  go_wp2_with fail
  with_reducible refine (nil_next _).mono ?_
  rintro e w2 ⟨rfl, hc2⟩
  have HB2 := Lib.hid ((HB1.out.alloc HB1.out.size (.cells #[.int .i64 0, .int .i64 0, .int .u64 0, .int .u64 0] 27)).trans (hc2.below w.heap.size (by simp) (by have := HB1.out.size; simp; omega)))
  clear hc2
  go_frame
  go_wp2_with fail
  with_reducible refine (nil_find id _).mono ?_
  rintro e w3 ⟨rfl, hc3⟩
  have HB3 := Lib.hid (HB2.out.trans (hc3.below w.heap.size (by simp) HB2.out.size))
  clear hc3
  unfold spz
  go_frame
  go_wp2_with fail
  have hb3 := HB3.out.alloc HB3.out.size (.cells #[.int .i64 0, .int .i64 0, .int .u64 0, .int .u64 0] 27)
  with_reducible refine (known_any _ (HT.out.below hb3 (tab_lt HT.out))).mono ?_
  rintro e w4 ⟨rfl, hb4⟩
  have HB4 := Lib.hid (hb3.trans (hb4.mono hb3.size))
  clear hb3 hb4
  go_frame
  go_wp2_with fail
  with_reducible refine (nil_del _ _ _ _).mono ?_
  rintro e w5 ⟨rfl, rfl⟩
  go_frame
  go_wp2_with fail
  with_reducible refine (nil_to _ _).mono ?_
  rintro e w6 ⟨rfl, hc6⟩
  have hb5 := HB4.out.alloc HB4.out.size (.cells #[.int .i64 id] 3)
  have HB6 := Lib.hid (hb5.trans (hc6.below w.heap.size (by simp) hb5.size))
  clear hc6 hb5
  go_frame
  go_wp2_with fail
  with_reducible refine (nil_ids _).mono ?_
  rintro e w7 ⟨rfl, rfl⟩
  go_frame
  go_wp2_with fail
  with_reducible refine (nil_now _).mono ?_
  rintro e w8 ⟨rfl, rfl⟩
  go_frame
  go_wp2_with fail
  with_reducible refine (nil_len _).mono ?_
  rintro e w9 ⟨rfl, rfl⟩
  go_frame
  go_wp2
  go_ret
  exact ⟨rfl, HB6.out⟩
end Go.Proofs.YtcjemidflbfljaaDoor
namespace Go.Proofs.YtcjemidflbfljaaDoor
open Go.RowKit Go.Maps

attribute [local go_sem] Oper.semAt_some

theorem outs_limits {x : Int} (hx : Wd x) (k : Nat) : outs (PL 0 (fun _ => x) k) 18446744073709551615 = (List.range k).map (fun (j : Nat) => (j : Int)) ∧ later (PL 0 (fun _ => x) k) 18446744073709551615 = [] := by
  have hall : ∀ t ∈ PL 0 (fun _ => x) k, t.sp.due ≤ 18446744073709551615 := fun t ht => by
    obtain ⟨j, _, rfl⟩ := PL_mem.1 ht
    exact (fits_place ⟨by decide, by decide⟩ hx (by decide)).top
  have hu : upto (PL 0 (fun _ => x) k) 18446744073709551615 = PL 0 (fun _ => x) k := List.filter_eq_self.2 (fun t ht => by simpa using hall t ht)
  have hr : Rising (PL 0 (fun _ => x) k) := by
    unfold Rising PL
    rw [List.pairwise_map]
    exact List.pairwise_lt_range
  refine ⟨?_, List.filter_eq_nil_iff.2 (fun t ht => by have := hall t ht; simp; omega)⟩
  unfold outs
  rw [hu, DL_one hr (d := (placeV 0 x).due) (fun t ht => by obtain ⟨j, _, rfl⟩ := PL_mem.1 ht; rfl)]
  simp [PL]

set_option maxRecDepth 100000 in
set_option maxHeartbeats 2000000 in
theorem limits_law (id : Int) {at' : Int} (ha : Wd at') (w : World) (hT : Mk.Tab w) :
    Calls Tryd.prog 6 #[.int .i64 id, .int .u64 at'] w fun e w' => e = .returned (.bool true) ∧ Below w.heap.size w w' := by
  have HT := Lib.hid hT
  have HA := Lib.hid ha
  have HOut := Lib.hid (outs_limits ha 256).1
  have HLat := Lib.hid (outs_limits ha 256).2
  clear hT ha
  go_enter Tryd.func6, Tryd.ntmps6
  go_wp2_with fail
  with_reducible refine (wk_new (now := 0) ⟨by decide, by decide⟩ (Below.refl _ w) _ rfl).mono ?_
  rintro e w1 ⟨rfl, hk1, hs1⟩
  have HK1 := Lib.hid hk1
  clear hk1 hs1
  go_frame
  go_wp2_with fail
  go_loopw [6] (fun i wr => ∃ k : Nat, k ≤ 256 ∧ i = .int .i64 (k : Int) ∧ WK w wr w.heap.size 0 k (PL 0 (fun _ => at') k)) (fun i _ => 256 - (intOf i).toNat)
  case atStart => exact ⟨0, Nat.zero_le _, rfl, HK1.out⟩
  case round =>
    obtain ⟨k, hk, rfl, hwk⟩ := hrel
    by_cases hlt : k < 256
    · have hPut := Lib.hid (hwk.put (id := (k : Int)) (by omega) (by omega) PL_no HA.out (by decide) (by omega))
      have e1 := PL_succ 0 (fun _ => at') k
      skip
      rw [← e1] at hPut
      clear e1 hwk
      generalize placeV 0 at' = sp at hPut
      obtain ⟨lv, sl, sa, sd⟩ := sp
      have hb2 : (k : Int) < 256 := by omega
      go_wp2_with fail
      with_reducible refine hPut.out.mono ?_
      rintro e w2 ⟨rfl, hk2⟩
      have HK2 := Lib.hid hk2
      clear hk2
      unfold spV
      go_frame
      go_wp2_with fail
      go_roundw
      case rel => exact ⟨k + 1, by omega, by go_num, HK2.out.quiet ((Ch.refl [] w2).alloc _)⟩
      case measure => simp [intOf]; omega
    · obtain rfl : k = 256 := by omega
      have HWk := Lib.hid hwk
      clear hwk
      go_wp2_with fail
      rcases Int.lt_or_le id 0 with hi | hi
      · have hd1 : decide (0 ≤ id) = false := decide_eq_false (by omega)
        with_reducible refine (HWk.out.range (.inl hi) at').mono ?_
        rintro e w4 ⟨rfl, hk4⟩
        have HK4 := Lib.hid hk4
        clear hk4
        unfold spz
        go_frame
        go_wp2_with fail
        have hk5 := HK4.out.quiet ((Ch.refl [] w4).alloc (.cells #[.int .i64 0, .int .i64 0, .int .u64 0, .int .u64 0] 27))
        with_reducible refine (hk5.to HT.out (x := 18446744073709551615) ⟨by decide, by decide⟩).mono ?_
        rintro e w5 ⟨v, rfl, hr5, hk5'⟩
        rw [HOut.out] at hr5
        rw [HLat.out] at hk5'
        have hl5 : ((List.range 256).map fun (j : Nat) => (j : Int)).length = 256 := by simp
        rw [hl5] at hr5
        obtain ⟨g, cp, rfl⟩ := ownsRow_succ (k := 255) hr5
        have HK5 := Lib.hid hk5'
        have HCell := Lib.hid (show ∀ j : Nat, j < 256 → w5.cell? ⟨g, j, none⟩ = some (.int .i64 (j : Int)) from fun j hj => by
          rw [hr5.cellAt j (by omega)]
          simp [hj, iv])
        clear hk5 hr5 hk5' hl5
        go_frame
        go_wp2_with fail
        go_loopw [13] (fun i wr => ∃ k : Nat, k ≤ 256 ∧ i = .int .i64 (k : Int) ∧ wr = w5) (fun i _ => 256 - (intOf i).toNat)
        case atStart => exact ⟨0, Nat.zero_le _, rfl, rfl⟩
        case round =>
          obtain ⟨j, hj, rfl, rfl⟩ := hrel
          by_cases hlt : j < 256
          · have hc := HCell.out j hlt
            have hb0 : (0 : Int) ≤ (j : Int) := by omega
            have hb1 : (j : Int) < 256 := by omega
            go_wp2_with fail
            go_roundw
            case rel => exact ⟨j + 1, by omega, by go_num, trivial⟩
            case measure => simp [intOf]; omega
          · obtain rfl : j = 256 := by omega
            go_wp2_with fail
            with_reducible refine (known_any _ (HK5.out.tab HT.out)).mono ?_
            rintro e w6 ⟨rfl, hb6⟩
            have HK6 := Lib.hid (HK5.out.below hb6)
            clear hb6
            go_frame
            go_wp2_with fail
            with_reducible refine HK6.out.lenOf.mono ?_
            rintro e w7 ⟨rfl, rfl⟩
            go_frame
            go_wp2
            go_ret
            exact ⟨rfl, HK6.out.bel⟩
      · rcases Int.lt_or_le id 256 with hi2 | hi2
        · have hd1 : decide (0 ≤ id) = true := decide_eq_true hi
          have hd2 : decide (id < 256) = true := decide_eq_true hi2
          with_reducible refine (HWk.out.twice hi hi2 ⟨⟨id, placeV 0 at', id.toNat⟩, PL_mem.2 ⟨id.toNat, by omega, by rw [Int.toNat_of_nonneg hi]⟩, rfl⟩ at').mono ?_
          rintro e w4 ⟨rfl, hk4⟩
          have HK4 := Lib.hid hk4
          clear hk4
          unfold spz
          go_frame
          go_wp2_with fail
          have hk5 := HK4.out.quiet ((Ch.refl [] w4).alloc (.cells #[.int .i64 0, .int .i64 0, .int .u64 0, .int .u64 0] 27))
          with_reducible refine (hk5.to HT.out (x := 18446744073709551615) ⟨by decide, by decide⟩).mono ?_
          rintro e w5 ⟨v, rfl, hr5, hk5'⟩
          rw [HOut.out] at hr5
          rw [HLat.out] at hk5'
          have hl5 : ((List.range 256).map fun (j : Nat) => (j : Int)).length = 256 := by simp
          rw [hl5] at hr5
          obtain ⟨g, cp, rfl⟩ := ownsRow_succ (k := 255) hr5
          have HK5 := Lib.hid hk5'
          have HCell := Lib.hid (show ∀ j : Nat, j < 256 → w5.cell? ⟨g, j, none⟩ = some (.int .i64 (j : Int)) from fun j hj => by
            rw [hr5.cellAt j (by omega)]
            simp [hj, iv])
          clear hk5 hr5 hk5' hl5
          go_frame
          go_wp2_with fail
          go_loopw [13] (fun i wr => ∃ k : Nat, k ≤ 256 ∧ i = .int .i64 (k : Int) ∧ wr = w5) (fun i _ => 256 - (intOf i).toNat)
          case atStart => exact ⟨0, Nat.zero_le _, rfl, rfl⟩
          case round =>
            obtain ⟨j, hj, rfl, rfl⟩ := hrel
            by_cases hlt : j < 256
            · have hc := HCell.out j hlt
              have hb0 : (0 : Int) ≤ (j : Int) := by omega
              have hb1 : (j : Int) < 256 := by omega
              go_wp2_with fail
              go_roundw
              case rel => exact ⟨j + 1, by omega, by go_num, trivial⟩
              case measure => simp [intOf]; omega
            · obtain rfl : j = 256 := by omega
              go_wp2_with fail
              with_reducible refine (known_any _ (HK5.out.tab HT.out)).mono ?_
              rintro e w6 ⟨rfl, hb6⟩
              have HK6 := Lib.hid (HK5.out.below hb6)
              clear hb6
              go_frame
              go_wp2_with fail
              with_reducible refine HK6.out.lenOf.mono ?_
              rintro e w7 ⟨rfl, rfl⟩
              go_frame
              go_wp2
              go_ret
              exact ⟨rfl, HK6.out.bel⟩
        · have hd1 : decide (0 ≤ id) = true := decide_eq_true hi
          have hd2 : decide (id < 256) = false := decide_eq_false (by omega)
          with_reducible refine (HWk.out.range (.inr hi2) at').mono ?_
          rintro e w4 ⟨rfl, hk4⟩
          have HK4 := Lib.hid hk4
          clear hk4
          unfold spz
          go_frame
          go_wp2_with fail
          have hk5 := HK4.out.quiet ((Ch.refl [] w4).alloc (.cells #[.int .i64 0, .int .i64 0, .int .u64 0, .int .u64 0] 27))
          with_reducible refine (hk5.to HT.out (x := 18446744073709551615) ⟨by decide, by decide⟩).mono ?_
          rintro e w5 ⟨v, rfl, hr5, hk5'⟩
          rw [HOut.out] at hr5
          rw [HLat.out] at hk5'
          have hl5 : ((List.range 256).map fun (j : Nat) => (j : Int)).length = 256 := by simp
          rw [hl5] at hr5
          obtain ⟨g, cp, rfl⟩ := ownsRow_succ (k := 255) hr5
          have HK5 := Lib.hid hk5'
          have HCell := Lib.hid (show ∀ j : Nat, j < 256 → w5.cell? ⟨g, j, none⟩ = some (.int .i64 (j : Int)) from fun j hj => by
            rw [hr5.cellAt j (by omega)]
            simp [hj, iv])
          clear hk5 hr5 hk5' hl5
          go_frame
          go_wp2_with fail
          go_loopw [13] (fun i wr => ∃ k : Nat, k ≤ 256 ∧ i = .int .i64 (k : Int) ∧ wr = w5) (fun i _ => 256 - (intOf i).toNat)
          case atStart => exact ⟨0, Nat.zero_le _, rfl, rfl⟩
          case round =>
            obtain ⟨j, hj, rfl, rfl⟩ := hrel
            by_cases hlt : j < 256
            · have hc := HCell.out j hlt
              have hb0 : (0 : Int) ≤ (j : Int) := by omega
              have hb1 : (j : Int) < 256 := by omega
              go_wp2_with fail
              go_roundw
              case rel => exact ⟨j + 1, by omega, by go_num, trivial⟩
              case measure => simp [intOf]; omega
            · obtain rfl : j = 256 := by omega
              go_wp2_with fail
              with_reducible refine (known_any _ (HK5.out.tab HT.out)).mono ?_
              rintro e w6 ⟨rfl, hb6⟩
              have HK6 := Lib.hid (HK5.out.below hb6)
              clear hb6
              go_frame
              go_wp2_with fail
              with_reducible refine HK6.out.lenOf.mono ?_
              rintro e w7 ⟨rfl, rfl⟩
              go_frame
              go_wp2
              go_ret
              exact ⟨rfl, HK6.out.bel⟩
end Go.Proofs.YtcjemidflbfljaaDoor
