/-
  WheelOnce, walked.
-/
import Derived.Test.YtcjemidflbfljaaDoorMgL
import Derived.Test.YtcjemidflbfljaaDoorMgJ
namespace Go.Proofs.YtcjemidflbfljaaDoor
open Go.RowKit Go.Maps

attribute [local go_sem] Oper.semAt_some

set_option maxRecDepth 100000 in
set_option maxHeartbeats 4000000 in
theorem once_max (a1 : Option Addr) (len1 cap1 : Nat) (a2 : Option Addr) (len2 cap2 : Nat) (w : World) (hT : Mk.Tab w) (hlc1 : len1 ≤ cap1) (hcm1 : cap1 ≤ 9223372036854775807) :
    Calls Tryd.prog 3 #[.int .u64 18446744073709551615, .slice a1 len1 cap1, .slice a2 len2 cap2] w fun e w' => e = .returned (.bool true) ∧ Below w.heap.size w w' := by
  have HT := Lib.hid hT
  have hlm1 : (len1 : Int) ≤ 9223372036854775807 := by omega
  clear hT hlc1 hcm1
  go_enter Tryd.func3, Tryd.ntmps3
  go_wp2_with fail
  with_reducible refine (wk_new (now := 18446744073709551615) ⟨by decide, by decide⟩ (Below.refl _ w) _ rfl).mono ?_
  rintro e w1 ⟨rfl, hk1, hs1⟩
  have HK1 := Lib.hid hk1
  clear hk1 hs1
  go_frame
  go_wp2_with fail
  with_reducible refine (HK1.out.full (id := 0) (by decide) (by decide) (by simp) _).mono ?_
  rintro e w2 ⟨rfl, hk2⟩
  have HK2 := Lib.hid (hk2.quiet ((Ch.refl [] w2).alloc (.cells #[.int .i64 0, .int .i64 0, .int .u64 0, .int .u64 0] 27)))
  clear hk2
  unfold spz
  go_frame
  go_wp2_with fail
  with_reducible refine (known_any _ (HK2.out.tab HT.out)).mono ?_
  rintro e w3 ⟨rfl, hb3⟩
  have HK3 := Lib.hid (HK2.out.below hb3)
  clear hb3
  go_frame
  go_wp2
  go_ret
  exact ⟨rfl, HK3.out.bel⟩

set_option maxRecDepth 100000 in
set_option maxHeartbeats 4000000 in
theorem once_some {now : Int} (hnw : Wd now) (hm : now ≠ 18446744073709551615) (a1 : Option Addr) (len1 cap1 : Nat) (z1 : Nat → Int) (a2 : Option Addr) (len2 cap2 : Nat) (z2 : Nat → Int) (w : World) (hT : Mk.Tab w) (hlc1 : len1 ≤ cap1) (hcm1 : cap1 ≤ 9223372036854775807) (hz1 : WordsAt w a1 len1 z1) (hlc2 : len2 ≤ cap2) (hcm2 : cap2 ≤ 9223372036854775807) (hz2 : WordsAt w a2 len2 z2) :
    Calls Tryd.prog 3 #[.int .u64 now, .slice a1 len1 cap1, .slice a2 len2 cap2] w fun e w' => e = .returned (.bool true) ∧ Below w.heap.size w w' := by
  have HT := Lib.hid hT
  have HNow := Lib.hid hnw
  have HMx := Lib.hid hm
  have HZ1 := Lib.hid hz1
  have HZ2 := Lib.hid hz2
  have hlm1 : (len1 : Int) ≤ 9223372036854775807 := by omega
  have hlm2 : (len2 : Int) ≤ 9223372036854775807 := by omega
  have hne : (now == 18446744073709551615) = false := beq_false_of_ne hm
  obtain ⟨n, hn⟩ : ∃ n : Nat, n = min len1 100 := ⟨_, rfl⟩
  have hmin : min (len1 : Int) 100 = (n : Int) := by omega
  have hmin2 : (if (100 : Int) < (len1 : Int) then (100 : Int) else (len1 : Int)) = (n : Int) := by split <;> omega
  have HN := Lib.hid (show n ≤ len1 ∧ n ≤ 100 by omega)
  clear hT hnw hm hz1 hz2 hlc1 hcm1 hlc2 hcm2 hn
  go_enter Tryd.func3, Tryd.ntmps3
  go_wp2_with fail
  with_reducible refine (wk_new HNow.out (Below.refl _ w) _ rfl).mono ?_
  rintro e w1 ⟨rfl, hk1, hs1⟩
  have HK1 := Lib.hid hk1
  clear hk1 hs1
  go_frame
  go_wp2_with fail
  go_loopw [11] (fun i wr => ∃ k : Nat, k ≤ n ∧ i = .int .i64 (k : Int) ∧ WK w wr w.heap.size now k (PL now z1 k)) (fun i _ => n - (intOf i).toNat)
  case atStart => exact ⟨0, Nat.zero_le _, rfl, HK1.out⟩
  case round =>
    obtain ⟨k, hk, rfl, hwk⟩ := hrel
    have hn100 := HN.out
    by_cases hlt : k < n
    · obtain ⟨b, off, rfl, hc⟩ := HZ1.out.cellBelow hwk.bel (show k < len1 by omega)
      have hPut := Lib.hid (hwk.put (id := (k : Int)) (by omega) (by omega) PL_no (HZ1.out.wd k) HMx.out (by omega))
      rw [← PL_succ] at hPut
      obtain ⟨p1, p2⟩ := place_ahead HNow.out (HZ1.out.wd k) HMx.out
      have hb0 : (0 : Int) ≤ (k : Int) := by omega
      have hb1 : (k : Int) < (len1 : Int) := by omega
      have hb2 : (k : Int) < (n : Int) := by omega
      generalize placeV now (z1 k) = sp at hPut p1 p2
      obtain ⟨lv, sl, sa, sd⟩ := sp
      simp only [] at p1 p2
      have hd1 : decide (sd < sa) = false := decide_eq_false (by omega)
      have hd2 : decide (sa ≤ now) = false := decide_eq_false (by omega)
      generalize z1 k = x at hc hPut
      clear hwk p1 p2
      go_wp2_with fail
      with_reducible refine hPut.out.mono ?_
      rintro e w2 ⟨rfl, hk2⟩
      have HK2 := Lib.hid (hk2.quiet ((Ch.refl [] w2).alloc (.cells #[.int .i64 (lv : Int), .int .i64 sl, .int .u64 sa, .int .u64 sd] 27)))
      obtain ⟨d0, d1, d2, d3⟩ := Four.new w2 (.int .i64 (lv : Int)) (.int .i64 sl) (.int .u64 sa) (.int .u64 sd) 27
      clear hk2 hc
      unfold spV
      go_frame
      go_wp2_with fail
      go_roundw
      case rel => exact ⟨k + 1, by omega, by go_num, HK2.out⟩
      case measure => simp [intOf]; omega
    · obtain rfl : k = n := by omega
      have HWk := Lib.hid hwk
      clear hwk
      obtain ⟨X, hX⟩ : ∃ X, X = wr.heap.size := ⟨_, rfl⟩
      have hal := (Ch.refl [] wr).alloc (.cells Tryd.zeroCells32 32)
      have hwf := (WF.of HWk.out).quiet hal
      have hbo := BoolsAt.new wr
      rw [← hX] at hwf hbo
      have hfit := HWk.out.wi.fits
      have ho0 : (fun _ => false) = oF now z1 k now := by
        funext j
        unfold oF
        rw [eq_comm, decide_eq_false_iff_not]
        rintro ⟨h1, h2⟩
        have := (hfit _ (PL_at h1)).ahead
        unfold dueJ at h2
        simp only [] at this
        omega
      have hl0 : later (PL now z1 k) now = PL now z1 k := later_all (fun t ht => (hfit t ht).ahead)
      rw [ho0] at hbo
      rw [← hl0] at hwf
      have HW0 := Lib.hid hwf
      have HO0 := Lib.hid hbo
      have HXw := Lib.hid (show w.heap.size ≤ X by rw [hX]; exact HWk.out.bel.size)
      have HLt0 := Lib.hid (show X < (wr.alloc (.cells Tryd.zeroCells32 32)).heap.size by rw [hX]; simp)
      clear hal hwf hbo hfit ho0 hl0
      go_wp2_with fail
      rw [← hX]
      clear hX
      generalize wr.alloc (.cells Tryd.zeroCells32 32) = W2 at *
      go_loopw [15] (fun i wv => ∃ (q : Nat) (cur : Int), i = .int .i64 (q : Int) ∧ q ≤ len2 + 1 ∧ q ≤ 61 ∧ ((q ≤ len2 ∧ q ≤ 60) ∨ cur = 18446744073709551615) ∧ now ≤ cur ∧ cur ≤ 18446744073709551615 ∧ WF w wv X w.heap.size cur k (later (PL now z1 k) cur) ∧ BoolsAt wv X (oF now z1 k cur) ∧ X < wv.heap.size) (fun i _ => 61 - (intOf i).toNat)
      case atStart => exact ⟨0, now, rfl, by omega, by omega, .inl ⟨by omega, by omega⟩, by omega, HNow.out.hi, HW0.out, HO0.out, HLt0.out⟩
      case round =>
        obtain ⟨q, cur, rfl, hq1, hq2, hq3, hc1, hc2, hW, hO, hXl⟩ := hrel
        have HWv := Lib.hid hW
        have HOv := Lib.hid hO
        have HLt := Lib.hid hXl
        have HC := Lib.hid (And.intro hc1 hc2)
        have HNc := Lib.hid HNow.out.lo
        have g0 : (0 : Int) ≤ (q : Int) := by omega
        by_cases hlt : q ≤ len2 ∧ q ≤ 60
        · have g1 : (q : Int) ≤ (len2 : Int) := by omega
          have g1' : q ≤ len2 := by omega
          have g2 : (q : Int) ≤ 60 := by omega
          by_cases hA : q < len2
          · have g3 : (q : Int) < (len2 : Int) := by omega
            have g3' : q < len2 := by omega
            by_cases hB : q < 60
            · have g4 : (q : Int) < 60 := by omega
              obtain ⟨b, off, rfl, hc⟩ := HZ2.out.cellBelow hW.bel g3'
              have HTx := Lib.hid (HZ2.out.wd q)
              generalize z2 q = tx at *
              clear hW hO hXl hc1 hc2 hq3 hlt hA hB
              go_upto_if 90 with (fail)
              rename_i hKK
              have HKK := Lib.hid hKK
              clear hKK
              go_wp2_with fail
              refine HKK.out _ _ ?_
              refine once_round HT.out HN.out.2 HTx.out HXw.out HLt.out HWv.out HOv.out ?_
              intro x17 x18 x19 x20 x21 x22 x23 x24 x95 x96 x97 x98 x99 x100 x101 x102 x103 x104 x105 x106 x107 x108 x109 x110 x111 x112 x113 x114 x115 x116 x117 x118 x119 x120 x121 x122 x123 x124 x125 x126 x127 x128 x129 x130 x131 x132 x133 x134 x135 x136 x137 x138 x139 x140 x141 x142 x143 x144 x145 x146 x147 x148 x149 x150 x151 x152 x153 x154 x155 x156 x157 x158 x159 x160 x161 x162 x163 x164 x165 x166 x167 x168 x169 x170 x171 x172 x173 x174 x175 x176 x177 x178 x179 x180 x181 x182 x183 x184 x185 x186 x187 x188 x189 x190 x191 x192 x193 x194 x195 x196 x197 x198 x199 x200 x201 x202 x203 x204 x205 x206 x207 x208 x6 wq hq1 hq2 hq3
              have HQ1 := Lib.hid hq1
              have HQ2 := Lib.hid hq2
              have HQ3 := Lib.hid (Nat.lt_of_lt_of_le HLt.out hq3)
              clear hq1 hq2 hq3 HKK
              go_wp2_with fail
              refine ⟨⟨q + 1, max cur tx, by go_num, by omega, by omega, .inl ⟨by omega, by omega⟩, by have := HC.out; omega, by have := HC.out; have := HTx.out.hi; omega, HQ1.out, HQ2.out, HQ3.out⟩, by simp [intOf]; omega⟩
            · have g4 : 60 ≤ (q : Int) := by omega
              have g4' : decide ((q : Int) < 60) = false := decide_eq_false (by omega)
              clear hW hO hXl hc1 hc2 hq3 hlt hA hB
              go_upto_if 90 with (fail)
              rename_i hKK
              have HKK := Lib.hid hKK
              clear hKK
              go_wp2_with fail
              refine HKK.out _ _ ?_
              refine once_round HT.out HN.out.2 (show Wd 18446744073709551615 from ⟨by decide, by decide⟩) HXw.out HLt.out HWv.out HOv.out ?_
              intro x17 x18 x19 x20 x21 x22 x23 x24 x95 x96 x97 x98 x99 x100 x101 x102 x103 x104 x105 x106 x107 x108 x109 x110 x111 x112 x113 x114 x115 x116 x117 x118 x119 x120 x121 x122 x123 x124 x125 x126 x127 x128 x129 x130 x131 x132 x133 x134 x135 x136 x137 x138 x139 x140 x141 x142 x143 x144 x145 x146 x147 x148 x149 x150 x151 x152 x153 x154 x155 x156 x157 x158 x159 x160 x161 x162 x163 x164 x165 x166 x167 x168 x169 x170 x171 x172 x173 x174 x175 x176 x177 x178 x179 x180 x181 x182 x183 x184 x185 x186 x187 x188 x189 x190 x191 x192 x193 x194 x195 x196 x197 x198 x199 x200 x201 x202 x203 x204 x205 x206 x207 x208 x6 wq hq1 hq2 hq3
              have HQ1 := Lib.hid hq1
              have HQ2 := Lib.hid hq2
              have HQ3 := Lib.hid (Nat.lt_of_lt_of_le HLt.out hq3)
              clear hq1 hq2 hq3 HKK
              go_wp2_with fail
              refine ⟨⟨q + 1, max cur 18446744073709551615, by go_num, by omega, by omega, .inr (by have := HC.out; omega), by have := HC.out; omega, by have := HC.out; omega, HQ1.out, HQ2.out, HQ3.out⟩, by simp [intOf]; omega⟩
          · have g3 : (len2 : Int) ≤ (q : Int) := by omega
            have g3' : decide ((q : Int) < (len2 : Int)) = false := decide_eq_false (by omega)
            have g3n : decide (q < len2) = false := decide_eq_false (by omega)
            clear hW hO hXl hc1 hc2 hq3 hlt hA
            go_upto_if 90 with (fail)
            rename_i hKK
            have HKK := Lib.hid hKK
            clear hKK
            go_wp2_with fail
            refine HKK.out _ _ ?_
            refine once_round HT.out HN.out.2 (show Wd 18446744073709551615 from ⟨by decide, by decide⟩) HXw.out HLt.out HWv.out HOv.out ?_
            intro x17 x18 x19 x20 x21 x22 x23 x24 x95 x96 x97 x98 x99 x100 x101 x102 x103 x104 x105 x106 x107 x108 x109 x110 x111 x112 x113 x114 x115 x116 x117 x118 x119 x120 x121 x122 x123 x124 x125 x126 x127 x128 x129 x130 x131 x132 x133 x134 x135 x136 x137 x138 x139 x140 x141 x142 x143 x144 x145 x146 x147 x148 x149 x150 x151 x152 x153 x154 x155 x156 x157 x158 x159 x160 x161 x162 x163 x164 x165 x166 x167 x168 x169 x170 x171 x172 x173 x174 x175 x176 x177 x178 x179 x180 x181 x182 x183 x184 x185 x186 x187 x188 x189 x190 x191 x192 x193 x194 x195 x196 x197 x198 x199 x200 x201 x202 x203 x204 x205 x206 x207 x208 x6 wq hq1 hq2 hq3
            have HQ1 := Lib.hid hq1
            have HQ2 := Lib.hid hq2
            have HQ3 := Lib.hid (Nat.lt_of_lt_of_le HLt.out hq3)
            clear hq1 hq2 hq3 HKK
            go_wp2_with fail
            refine ⟨⟨q + 1, max cur 18446744073709551615, by go_num, by omega, by omega, .inr (by have := HC.out; omega), by have := HC.out; omega, by have := HC.out; omega, HQ1.out, HQ2.out, HQ3.out⟩, by simp [intOf]; omega⟩
        · obtain rfl : cur = 18446744073709551615 := hq3.resolve_left hlt
          have hnil : later (PL now z1 k) 18446744073709551615 = [] := by
            obtain ⟨S, hw, _⟩ := hW.wb
            rw [List.eq_nil_iff_forall_not_mem]
            intro t ht
            have h1 := (hw.wi.fits t ht).ahead
            have h2 := (hw.wi.fits t ht).top
            omega
          rw [hnil] at HWv
          by_cases hA : q ≤ len2
          · have g1 : (q : Int) ≤ (len2 : Int) := by omega
            have g1' : q ≤ len2 := hA
            have g2 : 60 < (q : Int) := by omega
            have g2' : decide ((q : Int) ≤ 60) = false := decide_eq_false (by omega)
            clear hW hO hXl hc1 hc2 hq3 hlt hA hnil
            go_wp2_with fail
            with_reducible refine (known_any _ (HWv.out.tab HT.out)).mono ?_
            rintro e w5 ⟨rfl, hb5⟩
            have HW5 := Lib.hid (HWv.out.quiet (.of_below hb5))
            clear hb5
            go_frame
            go_wp2_with fail
            with_reducible refine HW5.out.lenOf.mono ?_
            rintro e w6 ⟨rfl, rfl⟩
            go_frame
            go_wp2
            go_ret
            exact ⟨rfl, HW5.out.bel⟩
          · have g1 : (len2 : Int) < (q : Int) := by omega
            have g1' : decide ((q : Int) ≤ (len2 : Int)) = false := decide_eq_false (by omega)
            have g1n : decide (q ≤ len2) = false := decide_eq_false hA
            clear hW hO hXl hc1 hc2 hq3 hlt hA hnil
            go_wp2_with fail
            with_reducible refine (known_any _ (HWv.out.tab HT.out)).mono ?_
            rintro e w5 ⟨rfl, hb5⟩
            have HW5 := Lib.hid (HWv.out.quiet (.of_below hb5))
            clear hb5
            go_frame
            go_wp2_with fail
            with_reducible refine HW5.out.lenOf.mono ?_
            rintro e w6 ⟨rfl, rfl⟩
            go_frame
            go_wp2
            go_ret
            exact ⟨rfl, HW5.out.bel⟩
theorem once_law {now : Int} (hnw : Wd now) (a1 : Option Addr) (len1 cap1 : Nat) (z1 : Nat → Int) (a2 : Option Addr) (len2 cap2 : Nat) (z2 : Nat → Int) (w : World) (hT : Mk.Tab w) (hlc1 : len1 ≤ cap1) (hcm1 : cap1 ≤ 9223372036854775807) (hz1 : WordsAt w a1 len1 z1) (hlc2 : len2 ≤ cap2) (hcm2 : cap2 ≤ 9223372036854775807) (hz2 : WordsAt w a2 len2 z2) :
    Calls Tryd.prog 3 #[.int .u64 now, .slice a1 len1 cap1, .slice a2 len2 cap2] w fun e w' => e = .returned (.bool true) ∧ Below w.heap.size w w' := by
  by_cases hm : now = 18446744073709551615
  · subst hm
    exact once_max a1 len1 cap1 a2 len2 cap2 w hT hlc1 hcm1
  · exact once_some hnw hm a1 len1 cap1 z1 a2 len2 cap2 z2 w hT hlc1 hcm1 hz1 hlc2 hcm2 hz2
end Go.Proofs.YtcjemidflbfljaaDoor
