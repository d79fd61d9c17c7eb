/-
  BankLimits, walked; a nil bank.
-/
import Derived.Test.YtnndofeomakpiaaDoorBkK
namespace Go.Proofs.YtnndofeomakpiaaDoor
open Go.RowKit Go.Maps

attribute [local go_sem] Oper.semAt_some

def noW : Nat → Wh := fun _ => ⟨0, fun _ => False, 0, 0, []⟩
theorem bnil_next (w : World) (hT : Mk.Tab w) : Calls Tryd.prog 16 #[.pointer none, .slice none 0 0] w fun e w' => e = .returned (.tuple #[.int .u64 0, .bool false]) ∧ Ch [] w w' :=
  (bnext_any (BO.nil w 0 noW) hT (a := none) (cp := 0) (zs := []) (.inl rfl) (by decide)).mono fun _ _ ⟨x, b, he, hl, hc⟩ => by
    rcases hl with ⟨rfl, rfl, _⟩ | ⟨_, ⟨i, hi, _⟩, _⟩
    · exact ⟨he, hc⟩
    · rw [mem_selC] at hi; omega
theorem bnil_find (w : World) {k : Int} (hk : wf64 k) : Calls Tryd.prog 12 #[.pointer none, .int .i64 k] w fun e w' => e = .returned (.tuple #[.int .i64 0, spz, .bool false]) ∧ Ch [] w w' :=
  bfind_any (BO.nil w 0 noW) hk
theorem bnil_late (w : World) (hT : Mk.Tab w) (d : Int) : Calls Tryd.prog 8 #[.pointer none, .int .u64 d] w fun e w' => e = .returned (.int .u64 0) ∧ Ch [] w w' :=
  blate_any (BO.nil w 0 noW) hT d
theorem bnil_len (w : World) : Calls Tryd.prog 14 #[.pointer none] w fun e w' => e = .returned (.int .i64 0) ∧ Ch [] w w' :=
  blen_any (BO.nil w 0 noW)
set_option maxRecDepth 100000 in
set_option maxHeartbeats 2000000 in
theorem limits_law (cpus cpu : Int) {at' : Int} (ha : Wd at') (w : World) (hT : Mk.Tab w) :
    Calls Tryd.prog 5 #[.int .i64 cpus, .int .i64 cpu, .int .u64 at'] w fun e w' => e = .returned (.bool true) ∧ Below w.heap.size w w' := by
  have HT := Lib.hid hT
  clear hT
  by_cases hbad : cpus < 1 ∨ 64 < cpus
  · have HN := Lib.hid (bnew_bad hbad 0 w)
    have HB0 := Lib.hid (Below.refl w.heap.size w)
    rcases Int.lt_or_le cpus 1 with h0 | h0
    · have hd : decide (cpus < 1) = true := decide_eq_true h0
      clear hbad h0
      go_enter Tryd.func5, Tryd.ntmps5
      go_wp2_with fail
      with_reducible refine HN.out.mono ?_
      rintro e w1 ⟨rfl, hw⟩
      obtain rfl : w = w1 := hw.symm
      go_wp2_with fail
      with_reducible refine (bput_nil _ _ _ _).mono ?_
      rintro e u1 ⟨rfl, hc1⟩
      have HB1 := Lib.hid (HB0.out.trans (hc1.below w.heap.size (by simp) HB0.out.size))
      clear hc1
      unfold spz
      go_frame
      go_wp2_with fail
      have hb1 := HB1.out.alloc HB1.out.size (.cells #[.int .i64 0, .int .i64 0, .int .u64 0, .int .u64 0] 29)
      with_reducible refine (bnil_next _ (HT.out.below hb1 (tab_lt HT.out))).mono ?_
      rintro e u2 ⟨rfl, hc2⟩
      have HB2 := Lib.hid (hb1.trans (hc2.below w.heap.size (by simp) hb1.size))
      clear hc2 hb1
      go_frame
      go_wp2_with fail
      with_reducible refine (bnil_find _ (wf_small (i := 0) (by decide) (by decide))).mono ?_
      rintro e u3 ⟨rfl, hc3⟩
      have HB3 := Lib.hid (HB2.out.trans (hc3.below w.heap.size (by simp) HB2.out.size))
      clear hc3
      unfold spz
      go_frame
      go_wp2_with fail
      have hb3 := HB3.out.alloc HB3.out.size (.cells #[.int .i64 0, .int .i64 0, .int .u64 0, .int .u64 0] 29)
      with_reducible refine (known_any _ (HT.out.below hb3 (tab_lt HT.out))).mono ?_
      rintro e u4 ⟨rfl, hb4⟩
      have HB4 := Lib.hid (hb3.trans (hb4.mono hb3.size))
      clear hb3 hb4
      go_frame
      go_wp2_with fail
      with_reducible refine (bdel_nil _ _ _ _).mono ?_
      rintro e u5 ⟨rfl, hc5⟩
      have hb5 := HB4.out.alloc HB4.out.size (.cells #[.int .i64 0] 3)
      have HB5 := Lib.hid (hb5.trans (hc5.below w.heap.size (by simp) hb5.size))
      clear hc5 hb5
      go_frame
      go_wp2_with fail
      with_reducible refine (catch_nil _ _ _).mono ?_
      rintro e u6 ⟨rfl, hc6⟩
      have HB6 := Lib.hid (HB5.out.trans (hc6.below w.heap.size (by simp) HB5.out.size))
      clear hc6
      go_frame
      go_wp2_with fail
      with_reducible refine (bnil_late _ (HT.out.below HB6.out (tab_lt HT.out)) _).mono ?_
      rintro e u7 ⟨rfl, hc7⟩
      have HB7 := Lib.hid (HB6.out.trans (hc7.below w.heap.size (by simp) HB6.out.size))
      clear hc7
      go_frame
      go_wp2_with fail
      with_reducible refine (bnow_nil _ _).mono ?_
      rintro e u8 ⟨rfl, rfl⟩
      go_frame
      go_wp2_with fail
      with_reducible refine (cpus_nil _).mono ?_
      rintro e u9 ⟨rfl, rfl⟩
      go_frame
      go_wp2_with fail
      with_reducible refine (bnil_len _).mono ?_
      rintro e u10 ⟨rfl, hc10⟩
      have HB10 := Lib.hid (HB7.out.trans (hc10.below w.heap.size (by simp) HB7.out.size))
      clear hc10
      go_frame
      go_wp2
      go_ret
      exact ⟨rfl, HB10.out⟩
    · have hd : decide (cpus < 1) = false := decide_eq_false (by omega)
      have hd2 : decide (cpus > 64) = true := decide_eq_true (by omega)
      clear hbad h0
      go_enter Tryd.func5, Tryd.ntmps5
      go_wp2_with fail
      with_reducible refine HN.out.mono ?_
      rintro e w1 ⟨rfl, hw⟩
      obtain rfl : w = w1 := hw.symm
      go_wp2_with fail
      with_reducible refine (bput_nil _ _ _ _).mono ?_
      rintro e u1 ⟨rfl, hc1⟩
      have HB1 := Lib.hid (HB0.out.trans (hc1.below w.heap.size (by simp) HB0.out.size))
      clear hc1
      unfold spz
      go_frame
      go_wp2_with fail
      have hb1 := HB1.out.alloc HB1.out.size (.cells #[.int .i64 0, .int .i64 0, .int .u64 0, .int .u64 0] 29)
      with_reducible refine (bnil_next _ (HT.out.below hb1 (tab_lt HT.out))).mono ?_
      rintro e u2 ⟨rfl, hc2⟩
      have HB2 := Lib.hid (hb1.trans (hc2.below w.heap.size (by simp) hb1.size))
      clear hc2 hb1
      go_frame
      go_wp2_with fail
      with_reducible refine (bnil_find _ (wf_small (i := 0) (by decide) (by decide))).mono ?_
      rintro e u3 ⟨rfl, hc3⟩
      have HB3 := Lib.hid (HB2.out.trans (hc3.below w.heap.size (by simp) HB2.out.size))
      clear hc3
      unfold spz
      go_frame
      go_wp2_with fail
      have hb3 := HB3.out.alloc HB3.out.size (.cells #[.int .i64 0, .int .i64 0, .int .u64 0, .int .u64 0] 29)
      with_reducible refine (known_any _ (HT.out.below hb3 (tab_lt HT.out))).mono ?_
      rintro e u4 ⟨rfl, hb4⟩
      have HB4 := Lib.hid (hb3.trans (hb4.mono hb3.size))
      clear hb3 hb4
      go_frame
      go_wp2_with fail
      with_reducible refine (bdel_nil _ _ _ _).mono ?_
      rintro e u5 ⟨rfl, hc5⟩
      have hb5 := HB4.out.alloc HB4.out.size (.cells #[.int .i64 0] 3)
      have HB5 := Lib.hid (hb5.trans (hc5.below w.heap.size (by simp) hb5.size))
      clear hc5 hb5
      go_frame
      go_wp2_with fail
      with_reducible refine (catch_nil _ _ _).mono ?_
      rintro e u6 ⟨rfl, hc6⟩
      have HB6 := Lib.hid (HB5.out.trans (hc6.below w.heap.size (by simp) HB5.out.size))
      clear hc6
      go_frame
      go_wp2_with fail
      with_reducible refine (bnil_late _ (HT.out.below HB6.out (tab_lt HT.out)) _).mono ?_
      rintro e u7 ⟨rfl, hc7⟩
      have HB7 := Lib.hid (HB6.out.trans (hc7.below w.heap.size (by simp) HB6.out.size))
      clear hc7
      go_frame
      go_wp2_with fail
      with_reducible refine (bnow_nil _ _).mono ?_
      rintro e u8 ⟨rfl, rfl⟩
      go_frame
      go_wp2_with fail
      with_reducible refine (cpus_nil _).mono ?_
      rintro e u9 ⟨rfl, rfl⟩
      go_frame
      go_wp2_with fail
      with_reducible refine (bnil_len _).mono ?_
      rintro e u10 ⟨rfl, hc10⟩
      have HB10 := Lib.hid (HB7.out.trans (hc10.below w.heap.size (by simp) HB7.out.size))
      clear hc10
      go_frame
      go_wp2
      go_ret
      exact ⟨rfl, HB10.out⟩
  · obtain ⟨n, rfl⟩ : ∃ n : Nat, cpus = (n : Int) := ⟨cpus.toNat, by omega⟩
    have hd : decide ((n : Int) < 1) = false := decide_eq_false (by omega)
    have hd2 : decide ((n : Int) > 64) = false := decide_eq_false (by omega)
    have HN := Lib.hid (BL.newB w (n := n) (by omega) (by omega) (now := 0) ⟨by decide, by decide⟩)
    have HA := Lib.hid ha
    clear ha
    by_cases hin : cpu < 0 ∨ (n : Int) ≤ cpu
    · have hdec : (decide (cpu ≥ 0) && decide (cpu < (n : Int))) = false := by
        rcases hin with h | h
        · rw [decide_eq_false (by omega : ¬ cpu ≥ 0)]; rfl
        · rw [decide_eq_false (by omega : ¬ cpu < (n : Int)), Bool.and_false]
      have HIn := Lib.hid hin
      clear hbad
      rcases Int.lt_or_le cpu 0 with hc0 | hc0
      · have hd3 : decide (cpu ≥ 0) = false := decide_eq_false (by omega)
        clear hin hc0 hdec
        go_enter Tryd.func5, Tryd.ntmps5
        go_wp2_with fail
        with_reducible refine HN.out.mono ?_
        rintro e w1 ⟨K, Bs, rfl, hb⟩
        have HBk := Lib.hid hb
        clear hb
        go_wp2_with fail
        with_reducible refine (HBk.out.putOut HIn.out _ _).mono ?_
        rintro e w2 ⟨rfl, hb⟩
        have HBk2 := Lib.hid (hb.quiet ((Ch.refl [] w2).alloc (.cells #[.int .i64 0, .int .i64 0, .int .u64 0, .int .u64 0] 29)))
        clear hb
        unfold spz
        go_frame
        go_wp2_with fail
        with_reducible refine HBk2.out.cpus.mono ?_
        rintro e w3 ⟨rfl, rfl⟩
        have HB0 := Lib.hid HBk2.out.bel
        go_frame
        go_wp2_with fail
        with_reducible refine (bput_nil _ _ _ _).mono ?_
        rintro e u1 ⟨rfl, hc1⟩
        have HB1 := Lib.hid (HB0.out.trans (hc1.below w.heap.size (by simp) HB0.out.size))
        clear hc1
        unfold spz
        go_frame
        go_wp2_with fail
        have hb1 := HB1.out.alloc HB1.out.size (.cells #[.int .i64 0, .int .i64 0, .int .u64 0, .int .u64 0] 29)
        with_reducible refine (bnil_next _ (HT.out.below hb1 (tab_lt HT.out))).mono ?_
        rintro e u2 ⟨rfl, hc2⟩
        have HB2 := Lib.hid (hb1.trans (hc2.below w.heap.size (by simp) hb1.size))
        clear hc2 hb1
        go_frame
        go_wp2_with fail
        with_reducible refine (bnil_find _ (wf_small (i := 0) (by decide) (by decide))).mono ?_
        rintro e u3 ⟨rfl, hc3⟩
        have HB3 := Lib.hid (HB2.out.trans (hc3.below w.heap.size (by simp) HB2.out.size))
        clear hc3
        unfold spz
        go_frame
        go_wp2_with fail
        have hb3 := HB3.out.alloc HB3.out.size (.cells #[.int .i64 0, .int .i64 0, .int .u64 0, .int .u64 0] 29)
        with_reducible refine (known_any _ (HT.out.below hb3 (tab_lt HT.out))).mono ?_
        rintro e u4 ⟨rfl, hb4⟩
        have HB4 := Lib.hid (hb3.trans (hb4.mono hb3.size))
        clear hb3 hb4
        go_frame
        go_wp2_with fail
        with_reducible refine (bdel_nil _ _ _ _).mono ?_
        rintro e u5 ⟨rfl, hc5⟩
        have hb5 := HB4.out.alloc HB4.out.size (.cells #[.int .i64 0] 3)
        have HB5 := Lib.hid (hb5.trans (hc5.below w.heap.size (by simp) hb5.size))
        clear hc5 hb5
        go_frame
        go_wp2_with fail
        with_reducible refine (catch_nil _ _ _).mono ?_
        rintro e u6 ⟨rfl, hc6⟩
        have HB6 := Lib.hid (HB5.out.trans (hc6.below w.heap.size (by simp) HB5.out.size))
        clear hc6
        go_frame
        go_wp2_with fail
        with_reducible refine (bnil_late _ (HT.out.below HB6.out (tab_lt HT.out)) _).mono ?_
        rintro e u7 ⟨rfl, hc7⟩
        have HB7 := Lib.hid (HB6.out.trans (hc7.below w.heap.size (by simp) HB6.out.size))
        clear hc7
        go_frame
        go_wp2_with fail
        with_reducible refine (bnow_nil _ _).mono ?_
        rintro e u8 ⟨rfl, rfl⟩
        go_frame
        go_wp2_with fail
        with_reducible refine (cpus_nil _).mono ?_
        rintro e u9 ⟨rfl, rfl⟩
        go_frame
        go_wp2_with fail
        with_reducible refine (bnil_len _).mono ?_
        rintro e u10 ⟨rfl, hc10⟩
        have HB10 := Lib.hid (HB7.out.trans (hc10.below w.heap.size (by simp) HB7.out.size))
        clear hc10
        go_frame
        go_wp2
        go_ret
        exact ⟨rfl, HB10.out⟩
      · have hd3 : decide (cpu ≥ 0) = true := decide_eq_true (by omega)
        have hd4 : decide (cpu < (n : Int)) = false := decide_eq_false (by omega)
        clear hin hc0 hdec
        go_enter Tryd.func5, Tryd.ntmps5
        go_wp2_with fail
        with_reducible refine HN.out.mono ?_
        rintro e w1 ⟨K, Bs, rfl, hb⟩
        have HBk := Lib.hid hb
        clear hb
        go_wp2_with fail
        with_reducible refine (HBk.out.putOut HIn.out _ _).mono ?_
        rintro e w2 ⟨rfl, hb⟩
        have HBk2 := Lib.hid (hb.quiet ((Ch.refl [] w2).alloc (.cells #[.int .i64 0, .int .i64 0, .int .u64 0, .int .u64 0] 29)))
        clear hb
        unfold spz
        go_frame
        go_wp2_with fail
        with_reducible refine HBk2.out.cpus.mono ?_
        rintro e w3 ⟨rfl, rfl⟩
        have HB0 := Lib.hid HBk2.out.bel
        go_frame
        go_wp2_with fail
        with_reducible refine (bput_nil _ _ _ _).mono ?_
        rintro e u1 ⟨rfl, hc1⟩
        have HB1 := Lib.hid (HB0.out.trans (hc1.below w.heap.size (by simp) HB0.out.size))
        clear hc1
        unfold spz
        go_frame
        go_wp2_with fail
        have hb1 := HB1.out.alloc HB1.out.size (.cells #[.int .i64 0, .int .i64 0, .int .u64 0, .int .u64 0] 29)
        with_reducible refine (bnil_next _ (HT.out.below hb1 (tab_lt HT.out))).mono ?_
        rintro e u2 ⟨rfl, hc2⟩
        have HB2 := Lib.hid (hb1.trans (hc2.below w.heap.size (by simp) hb1.size))
        clear hc2 hb1
        go_frame
        go_wp2_with fail
        with_reducible refine (bnil_find _ (wf_small (i := 0) (by decide) (by decide))).mono ?_
        rintro e u3 ⟨rfl, hc3⟩
        have HB3 := Lib.hid (HB2.out.trans (hc3.below w.heap.size (by simp) HB2.out.size))
        clear hc3
        unfold spz
        go_frame
        go_wp2_with fail
        have hb3 := HB3.out.alloc HB3.out.size (.cells #[.int .i64 0, .int .i64 0, .int .u64 0, .int .u64 0] 29)
        with_reducible refine (known_any _ (HT.out.below hb3 (tab_lt HT.out))).mono ?_
        rintro e u4 ⟨rfl, hb4⟩
        have HB4 := Lib.hid (hb3.trans (hb4.mono hb3.size))
        clear hb3 hb4
        go_frame
        go_wp2_with fail
        with_reducible refine (bdel_nil _ _ _ _).mono ?_
        rintro e u5 ⟨rfl, hc5⟩
        have hb5 := HB4.out.alloc HB4.out.size (.cells #[.int .i64 0] 3)
        have HB5 := Lib.hid (hb5.trans (hc5.below w.heap.size (by simp) hb5.size))
        clear hc5 hb5
        go_frame
        go_wp2_with fail
        with_reducible refine (catch_nil _ _ _).mono ?_
        rintro e u6 ⟨rfl, hc6⟩
        have HB6 := Lib.hid (HB5.out.trans (hc6.below w.heap.size (by simp) HB5.out.size))
        clear hc6
        go_frame
        go_wp2_with fail
        with_reducible refine (bnil_late _ (HT.out.below HB6.out (tab_lt HT.out)) _).mono ?_
        rintro e u7 ⟨rfl, hc7⟩
        have HB7 := Lib.hid (HB6.out.trans (hc7.below w.heap.size (by simp) HB6.out.size))
        clear hc7
        go_frame
        go_wp2_with fail
        with_reducible refine (bnow_nil _ _).mono ?_
        rintro e u8 ⟨rfl, rfl⟩
        go_frame
        go_wp2_with fail
        with_reducible refine (cpus_nil _).mono ?_
        rintro e u9 ⟨rfl, rfl⟩
        go_frame
        go_wp2_with fail
        with_reducible refine (bnil_len _).mono ?_
        rintro e u10 ⟨rfl, hc10⟩
        have HB10 := Lib.hid (HB7.out.trans (hc10.below w.heap.size (by simp) HB7.out.size))
        clear hc10
        go_frame
        go_wp2
        go_ret
        exact ⟨rfl, HB10.out⟩
    · obtain ⟨c, rfl⟩ : ∃ c : Nat, cpu = (c : Int) := ⟨cpu.toNat, by omega⟩
      have hcn : c < n := by omega
      have HCn := Lib.hid hcn
      have hd3 : decide ((c : Int) ≥ 0) = true := decide_eq_true (by omega)
      have hd4 : decide ((c : Int) < (n : Int)) = true := decide_eq_true (by omega)
      clear hbad hin hcn
      go_enter Tryd.func5, Tryd.ntmps5
      go_wp2_with fail
      with_reducible refine HN.out.mono ?_
      rintro e w1 ⟨K, Bs, rfl, hb⟩
      have HBk := Lib.hid hb
      clear hb
      go_wp2_with fail
      have hput := HBk.out.put HCn.out (id := 0) (by decide) (by decide) (ownB_false fun i _ t ht => by cases ht) HA.out (by simp [newW]) (by simp [newW])
      obtain ⟨⟨lv, sl, at2, due⟩, hsp⟩ : ∃ s, s = placeV (newW Bs 0 c).now at' := ⟨_, rfl⟩
      rw [← hsp] at hput
      have HPut := Lib.hid hput
      clear hput hsp
      unfold spV at HPut
      with_reducible refine HPut.out.mono ?_
      rintro e w2 ⟨rfl, S', hb⟩
      have HBk2 := Lib.hid (hb.quiet ((Ch.refl [] w2).alloc (.cells #[.int .i64 (lv : Int), .int .i64 sl, .int .u64 at2, .int .u64 due] 29)))
      clear hb
      go_frame
      go_wp2_with fail
      with_reducible refine HBk2.out.cpus.mono ?_
      rintro e w3 ⟨rfl, rfl⟩
      have HB0 := Lib.hid HBk2.out.bel
      go_frame
      go_wp2_with fail
      with_reducible refine (bput_nil _ _ _ _).mono ?_
      rintro e u1 ⟨rfl, hc1⟩
      have HB1 := Lib.hid (HB0.out.trans (hc1.below w.heap.size (by simp) HB0.out.size))
      clear hc1
      unfold spz
      go_frame
      go_wp2_with fail
      have hb1 := HB1.out.alloc HB1.out.size (.cells #[.int .i64 0, .int .i64 0, .int .u64 0, .int .u64 0] 29)
      with_reducible refine (bnil_next _ (HT.out.below hb1 (tab_lt HT.out))).mono ?_
      rintro e u2 ⟨rfl, hc2⟩
      have HB2 := Lib.hid (hb1.trans (hc2.below w.heap.size (by simp) hb1.size))
      clear hc2 hb1
      go_frame
      go_wp2_with fail
      with_reducible refine (bnil_find _ (wf_small (i := 0) (by decide) (by decide))).mono ?_
      rintro e u3 ⟨rfl, hc3⟩
      have HB3 := Lib.hid (HB2.out.trans (hc3.below w.heap.size (by simp) HB2.out.size))
      clear hc3
      unfold spz
      go_frame
      go_wp2_with fail
      have hb3 := HB3.out.alloc HB3.out.size (.cells #[.int .i64 0, .int .i64 0, .int .u64 0, .int .u64 0] 29)
      with_reducible refine (known_any _ (HT.out.below hb3 (tab_lt HT.out))).mono ?_
      rintro e u4 ⟨rfl, hb4⟩
      have HB4 := Lib.hid (hb3.trans (hb4.mono hb3.size))
      clear hb3 hb4
      go_frame
      go_wp2_with fail
      with_reducible refine (bdel_nil _ _ _ _).mono ?_
      rintro e u5 ⟨rfl, hc5⟩
      have hb5 := HB4.out.alloc HB4.out.size (.cells #[.int .i64 0] 3)
      have HB5 := Lib.hid (hb5.trans (hc5.below w.heap.size (by simp) hb5.size))
      clear hc5 hb5
      go_frame
      go_wp2_with fail
      with_reducible refine (catch_nil _ _ _).mono ?_
      rintro e u6 ⟨rfl, hc6⟩
      have HB6 := Lib.hid (HB5.out.trans (hc6.below w.heap.size (by simp) HB5.out.size))
      clear hc6
      go_frame
      go_wp2_with fail
      with_reducible refine (bnil_late _ (HT.out.below HB6.out (tab_lt HT.out)) _).mono ?_
      rintro e u7 ⟨rfl, hc7⟩
      have HB7 := Lib.hid (HB6.out.trans (hc7.below w.heap.size (by simp) HB6.out.size))
      clear hc7
      go_frame
      go_wp2_with fail
      with_reducible refine (bnow_nil _ _).mono ?_
      rintro e u8 ⟨rfl, rfl⟩
      go_frame
      go_wp2_with fail
      with_reducible refine (cpus_nil _).mono ?_
      rintro e u9 ⟨rfl, rfl⟩
      go_frame
      go_wp2_with fail
      with_reducible refine (bnil_len _).mono ?_
      rintro e u10 ⟨rfl, hc10⟩
      have HB10 := Lib.hid (HB7.out.trans (hc10.below w.heap.size (by simp) HB7.out.size))
      clear hc10
      go_frame
      go_wp2
      go_ret
      exact ⟨rfl, HB10.out⟩
end Go.Proofs.YtnndofeomakpiaaDoor
