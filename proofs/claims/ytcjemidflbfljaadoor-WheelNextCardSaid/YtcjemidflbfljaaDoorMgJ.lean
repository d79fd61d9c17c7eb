/-
  WheelNext, walked.
-/
import Derived.Test.YtcjemidflbfljaaDoorMgI
namespace Go.Proofs.YtcjemidflbfljaaDoor
open Go.RowKit Go.Maps

attribute [local go_sem] Oper.semAt_some

theorem nextD_cons (t : Tm) (r : List Tm) : nextD (t :: r) = t.sp.due := rfl
theorem nextO_cons (t : Tm) (r : List Tm) : nextO (t :: r) = true := rfl
theorem WordsAt.cellBelow {w wr : World} {a : Option Addr} {len : Nat} {z : Nat → Int} (h : WordsAt w a len z) (hb : Below w.heap.size w wr) {k : Nat} (hk : k < len) : ∃ b off, a = some ⟨b, off, none⟩ ∧ wr.cell? ⟨b, off + k, none⟩ = some (.int .u64 (z k)) := by
  obtain ⟨b, off, rfl, h1⟩ := h.at'.resolve_left (by omega)
  exact ⟨b, off, rfl, (hb.cell (p := ⟨b, off + k, none⟩) (cell_lt (h1 k hk))).trans (h1 k hk)⟩

set_option maxRecDepth 100000 in
set_option maxHeartbeats 2000000 in
theorem next_max (a : Option Addr) (len cap : Nat) (z : Nat → Int) (w : World) (hT : Mk.Tab w) (hlc : len ≤ cap) (hcm : cap ≤ 9223372036854775807) (hz : WordsAt w a len z) :
    Calls Tryd.prog 5 #[.int .u64 18446744073709551615, .slice a len cap] w fun e w' => e = .returned (.bool true) ∧ Below w.heap.size w w' := by
  have HT := Lib.hid hT
  have HZ := Lib.hid hz
  have hlm : (len : Int) ≤ 9223372036854775807 := by omega
  clear hT hz hlc hcm
  go_enter Tryd.func5, Tryd.ntmps5
  go_wp2_with fail
  with_reducible refine (wk_new (now := 18446744073709551615) ⟨by decide, by decide⟩ (Below.refl _ w) _ rfl).mono ?_
  rintro e w1 ⟨rfl, hk1, hs1⟩
  have HK1 := Lib.hid hk1
  clear hk1 hs1
  go_frame
  go_wp2_with fail
  go_loopw [6] (fun i wr => ∃ k : Nat, k ≤ len ∧ k ≤ 100 ∧ i = .int .i64 (k : Int) ∧ WK w wr w.heap.size 18446744073709551615 0 []) (fun i _ => 100 - (intOf i).toNat)
  case atStart => exact ⟨0, Nat.zero_le _, Nat.zero_le _, rfl, HK1.out⟩
  case round =>
    obtain ⟨k, hk, hk100, rfl, hwk⟩ := hrel
    by_cases hlt : k < len
    · by_cases hlt2 : k < 100
      · obtain ⟨b, off, rfl, hc⟩ := HZ.out.cellBelow hwk.bel hlt
        have hPut := Lib.hid (hwk.full (id := (k : Int)) (by omega) (by omega) (by simp) (z k))
        have hb0 : (0 : Int) ≤ (k : Int) := by omega
        have hb1 : (k : Int) < (len : Int) := by omega
        have hb2 : (k : Int) < 100 := by omega
        generalize z k = x at *
        clear hwk
        go_wp2_with fail
        with_reducible refine hPut.out.mono ?_
        rintro e w2 ⟨rfl, hk2⟩
        have HK2 := Lib.hid hk2
        clear hk2 hc
        go_frame
        go_wp2_with fail
        go_roundw
        case rel => exact ⟨k + 1, by omega, by omega, by go_num, HK2.out⟩
        case measure => simp [intOf]; omega
      · obtain rfl : k = 100 := by omega
        have hb1 : (100 : Int) < (len : Int) := by omega
        have hne : ((len : Int) == 0) = false := beq_false_of_ne (by omega)
        have HWk := Lib.hid hwk
        clear hwk
        go_wp2_with fail
        with_reducible refine (HWk.out.next HT.out).mono ?_
        rintro e w2 ⟨rfl, hk2⟩
        rw [DL_nil]
        have HK2 := Lib.hid hk2
        clear hk2
        go_frame
        unfold nextD nextO
        go_wp2_with fail
        with_reducible refine (known_any _ (HK2.out.tab HT.out)).mono ?_
        rintro e w3 ⟨rfl, hb3⟩
        have HK3 := Lib.hid (HK2.out.below hb3)
        clear hb3
        go_frame
        go_wp2_with fail
        with_reducible refine HK3.out.lenOf.mono ?_
        rintro e w4 ⟨rfl, rfl⟩
        go_frame
        go_wp2
        go_ret
        exact ⟨rfl, HK3.out.bel⟩
    · obtain rfl : k = len := by omega
      rcases Nat.eq_zero_or_pos k with rfl | hpos0
      · skip
        have HWk := Lib.hid hwk
        clear hwk
        go_wp2_with fail
        with_reducible refine (HWk.out.next HT.out).mono ?_
        rintro e w2 ⟨rfl, hk2⟩
        rw [DL_nil]
        have HK2 := Lib.hid hk2
        clear hk2
        go_frame
        unfold nextD nextO
        go_wp2_with fail
        with_reducible refine (known_any _ (HK2.out.tab HT.out)).mono ?_
        rintro e w3 ⟨rfl, hb3⟩
        have HK3 := Lib.hid (HK2.out.below hb3)
        clear hb3
        go_frame
        go_wp2_with fail
        with_reducible refine HK3.out.lenOf.mono ?_
        rintro e w4 ⟨rfl, rfl⟩
        go_frame
        go_wp2
        go_ret
        exact ⟨rfl, HK3.out.bel⟩
      · have hne : ((k : Int) == 0) = false := beq_false_of_ne (by omega)
        have HWk := Lib.hid hwk
        clear hwk
        go_wp2_with fail
        with_reducible refine (HWk.out.next HT.out).mono ?_
        rintro e w2 ⟨rfl, hk2⟩
        rw [DL_nil]
        have HK2 := Lib.hid hk2
        clear hk2
        go_frame
        unfold nextD nextO
        go_wp2_with fail
        with_reducible refine (known_any _ (HK2.out.tab HT.out)).mono ?_
        rintro e w3 ⟨rfl, hb3⟩
        have HK3 := Lib.hid (HK2.out.below hb3)
        clear hb3
        go_frame
        go_wp2_with fail
        with_reducible refine HK3.out.lenOf.mono ?_
        rintro e w4 ⟨rfl, rfl⟩
        go_frame
        go_wp2
        go_ret
        exact ⟨rfl, HK3.out.bel⟩

set_option maxRecDepth 100000 in
set_option maxHeartbeats 2000000 in
theorem next_some {now : Int} (hn : Wd now) (hm : now ≠ 18446744073709551615) (a : Option Addr) (len cap : Nat) (z : Nat → Int) (w : World) (hT : Mk.Tab w) (hlc : len ≤ cap) (hcm : cap ≤ 9223372036854775807) (hz : WordsAt w a len z) :
    Calls Tryd.prog 5 #[.int .u64 now, .slice a len cap] w fun e w' => e = .returned (.bool true) ∧ Below w.heap.size w w' := by
  have HT := Lib.hid hT
  have HZ := Lib.hid hz
  have HNow := Lib.hid hn
  have HMx := Lib.hid hm
  have hlm : (len : Int) ≤ 9223372036854775807 := by omega
  clear hT hz hlc hcm hn hm
  go_enter Tryd.func5, Tryd.ntmps5
  go_wp2_with fail
  with_reducible refine (wk_new HNow.out (Below.refl _ w) _ rfl).mono ?_
  rintro e w1 ⟨rfl, hk1, hs1⟩
  have HK1 := Lib.hid hk1
  clear hk1 hs1
  go_frame
  go_wp2_with fail
  go_loopw [6] (fun i wr => ∃ k : Nat, k ≤ len ∧ k ≤ 100 ∧ i = .int .i64 (k : Int) ∧ WK w wr w.heap.size now k (PL now z k)) (fun i _ => 100 - (intOf i).toNat)
  case atStart => exact ⟨0, Nat.zero_le _, Nat.zero_le _, rfl, HK1.out⟩
  case round =>
    obtain ⟨k, hk, hk100, rfl, hwk⟩ := hrel
    by_cases hlt : k < len
    · by_cases hlt2 : k < 100
      · obtain ⟨b, off, rfl, hc⟩ := HZ.out.cellBelow hwk.bel hlt
        have hPut := Lib.hid (hwk.put (id := (k : Int)) (by omega) (by omega) PL_no (HZ.out.wd k) HMx.out (by omega))
        rw [← PL_succ] at hPut
        have hb0 : (0 : Int) ≤ (k : Int) := by omega
        have hb1 : (k : Int) < (len : Int) := by omega
        have hb2 : (k : Int) < 100 := by omega
        generalize z k = x at hc hPut
        clear hwk
        go_wp2_with fail
        with_reducible refine hPut.out.mono ?_
        rintro e w2 ⟨rfl, hk2⟩
        have HK2 := Lib.hid hk2
        clear hk2 hc
        go_frame
        go_wp2_with fail
        go_roundw
        case rel => exact ⟨k + 1, by omega, by omega, by go_num, HK2.out⟩
        case measure => simp [intOf]; omega
      · obtain rfl : k = 100 := by omega
        have hb1 : (100 : Int) < (len : Int) := by omega
        obtain ⟨L, hL⟩ : ∃ L, L = PL now z 100 := ⟨_, rfl⟩
        have hlen : L.length = 100 := by rw [hL, PL_length]
        rw [← hL] at hwk
        have HL := Lib.hid hlen
        have HWk := Lib.hid hwk
        clear hL hlen hwk
        go_wp2_with fail
        with_reducible refine (HWk.out.next HT.out).mono ?_
        rintro e w2 ⟨rfl, hk2⟩
        obtain ⟨t, r, hD⟩ : ∃ t r, DL L = t :: r := by
          cases hD : DL L with
          | nil => exfalso; have h1 := DL_length L; rw [hD, HL.out] at h1; have h2 : (0 : Nat) = 100 := h1; omega
          | cons t r => exact ⟨t, r, rfl⟩
        have hS := DL_sorted hk2.wi.rise
        rw [hD] at hS ⊢
        have ht : t ∈ L := DL_mem.1 (by rw [hD]; simp)
        have hmin : ∀ s ∈ L, t.sp.due ≤ s.sp.due := fun s hs => by
          have h1 : s ∈ t :: r := by rw [← hD]; exact DL_mem.2 hs
          rcases List.mem_cons.1 h1 with rfl | h1
          · exact Int.le_refl _
          · have := (List.pairwise_cons.1 hS).1 s h1
            unfold dueLt at this
            omega
        have hfit := hk2.wi.fits t ht
        have hax := hfit.ahead
        have htop := hfit.top
        have hn0 := HNow.out.lo
        obtain ⟨d, hd⟩ : ∃ d, d = t.sp.due := ⟨_, rfl⟩
        rw [← hd] at hax htop
        have HO1 := Lib.hid (show outs L (d - 1) = [] from outs_nil (fun s hs => by have := hmin s hs; omega))
        have HO2 := Lib.hid (show later L (d - 1) = L from later_all (fun s hs => by have := hmin s hs; omega))
        have HO3 := Lib.hid (show 0 < (outs L d).length from List.length_pos_of_mem (outs_mem.2 ⟨t, ht, by omega, rfl⟩))
        have HD := Lib.hid hD
        have HK2 := Lib.hid hk2
        have HX1 := Lib.hid (show Wd (d - 1) from ⟨by omega, by omega⟩)
        have HX2 := Lib.hid (show Wd d from ⟨by omega, by omega⟩)
        have hgt : decide (now < d) = true := decide_eq_true hax
        have hsub : IntKind.u64.wrap (d - 1) = d - 1 := by simp [IntKind.wrap, IntKind.bits, IntKind.signed]; omega
        rw [nextD_cons, nextO_cons, ← hd]
        clear hS hmin hfit hax hD hk2 hd ht
        go_frame
        go_wp2_with fail
        with_reducible refine (known_any _ (HK2.out.tab HT.out)).mono ?_
        rintro e w3 ⟨rfl, hb3⟩
        have HK3 := Lib.hid (HK2.out.below hb3)
        clear hb3
        go_frame
        go_wp2_with fail
        with_reducible refine (HK3.out.to HT.out (x := d - 1) HX1.out).mono ?_
        rintro e w4 ⟨v, rfl, hr4, hk4⟩
        rw [HO1.out] at hr4
        rw [HO2.out] at hk4
        obtain ⟨a4, c4, rfl⟩ := own_form hr4
        have HK4 := Lib.hid hk4
        clear hr4 hk4
        go_frame
        go_wp2_with fail
        with_reducible refine (HK4.out.to HT.out (x := d) HX2.out).mono ?_
        rintro e w5 ⟨v, rfl, hr5, hk5⟩
        obtain ⟨a5, c5, rfl⟩ := own_form hr5
        obtain ⟨n5, hn5⟩ : ∃ n5, n5 = (outs L d).length := ⟨_, rfl⟩
        rw [← hn5]
        have hpos : 0 < n5 := by rw [hn5]; exact HO3.out
        have HK5 := Lib.hid hk5
        clear hr5 hk5 hn5
        go_frame
        go_wp2
        go_ret
        exact ⟨rfl, HK5.out.bel⟩
    · obtain rfl : k = len := by omega
      rcases Nat.eq_zero_or_pos k with rfl | hpos0
      · skip
        have HWk := Lib.hid hwk
        clear hwk
        go_wp2_with fail
        with_reducible refine (HWk.out.next HT.out).mono ?_
        rintro e w2 ⟨rfl, hk2⟩
        rw [PL_zero, DL_nil]
        rw [PL_zero] at hk2
        have HK2 := Lib.hid hk2
        clear hk2
        go_frame
        unfold nextD nextO
        go_wp2_with fail
        with_reducible refine (known_any _ (HK2.out.tab HT.out)).mono ?_
        rintro e w3 ⟨rfl, hb3⟩
        have HK3 := Lib.hid (HK2.out.below hb3)
        clear hb3
        go_frame
        go_wp2_with fail
        with_reducible refine HK3.out.lenOf.mono ?_
        rintro e w4 ⟨rfl, rfl⟩
        go_frame
        go_wp2
        go_ret
        exact ⟨rfl, HK3.out.bel⟩
      · skip
        obtain ⟨L, hL⟩ : ∃ L, L = PL now z k := ⟨_, rfl⟩
        have hlen : L.length = k := by rw [hL, PL_length]
        rw [← hL] at hwk
        have HL := Lib.hid hlen
        have HWk := Lib.hid hwk
        clear hL hlen hwk
        go_wp2_with fail
        with_reducible refine (HWk.out.next HT.out).mono ?_
        rintro e w2 ⟨rfl, hk2⟩
        obtain ⟨t, r, hD⟩ : ∃ t r, DL L = t :: r := by
          cases hD : DL L with
          | nil => exfalso; have h1 := DL_length L; rw [hD, HL.out] at h1; have h2 : (0 : Nat) = k := h1; omega
          | cons t r => exact ⟨t, r, rfl⟩
        have hS := DL_sorted hk2.wi.rise
        rw [hD] at hS ⊢
        have ht : t ∈ L := DL_mem.1 (by rw [hD]; simp)
        have hmin : ∀ s ∈ L, t.sp.due ≤ s.sp.due := fun s hs => by
          have h1 : s ∈ t :: r := by rw [← hD]; exact DL_mem.2 hs
          rcases List.mem_cons.1 h1 with rfl | h1
          · exact Int.le_refl _
          · have := (List.pairwise_cons.1 hS).1 s h1
            unfold dueLt at this
            omega
        have hfit := hk2.wi.fits t ht
        have hax := hfit.ahead
        have htop := hfit.top
        have hn0 := HNow.out.lo
        obtain ⟨d, hd⟩ : ∃ d, d = t.sp.due := ⟨_, rfl⟩
        rw [← hd] at hax htop
        have HO1 := Lib.hid (show outs L (d - 1) = [] from outs_nil (fun s hs => by have := hmin s hs; omega))
        have HO2 := Lib.hid (show later L (d - 1) = L from later_all (fun s hs => by have := hmin s hs; omega))
        have HO3 := Lib.hid (show 0 < (outs L d).length from List.length_pos_of_mem (outs_mem.2 ⟨t, ht, by omega, rfl⟩))
        have HD := Lib.hid hD
        have HK2 := Lib.hid hk2
        have HX1 := Lib.hid (show Wd (d - 1) from ⟨by omega, by omega⟩)
        have HX2 := Lib.hid (show Wd d from ⟨by omega, by omega⟩)
        have hgt : decide (now < d) = true := decide_eq_true hax
        have hsub : IntKind.u64.wrap (d - 1) = d - 1 := by simp [IntKind.wrap, IntKind.bits, IntKind.signed]; omega
        rw [nextD_cons, nextO_cons, ← hd]
        clear hS hmin hfit hax hD hk2 hd ht
        go_frame
        go_wp2_with fail
        with_reducible refine (known_any _ (HK2.out.tab HT.out)).mono ?_
        rintro e w3 ⟨rfl, hb3⟩
        have HK3 := Lib.hid (HK2.out.below hb3)
        clear hb3
        go_frame
        go_wp2_with fail
        with_reducible refine (HK3.out.to HT.out (x := d - 1) HX1.out).mono ?_
        rintro e w4 ⟨v, rfl, hr4, hk4⟩
        rw [HO1.out] at hr4
        rw [HO2.out] at hk4
        obtain ⟨a4, c4, rfl⟩ := own_form hr4
        have HK4 := Lib.hid hk4
        clear hr4 hk4
        go_frame
        go_wp2_with fail
        with_reducible refine (HK4.out.to HT.out (x := d) HX2.out).mono ?_
        rintro e w5 ⟨v, rfl, hr5, hk5⟩
        obtain ⟨a5, c5, rfl⟩ := own_form hr5
        obtain ⟨n5, hn5⟩ : ∃ n5, n5 = (outs L d).length := ⟨_, rfl⟩
        rw [← hn5]
        have hpos : 0 < n5 := by rw [hn5]; exact HO3.out
        have HK5 := Lib.hid hk5
        clear hr5 hk5 hn5
        go_frame
        go_wp2
        go_ret
        exact ⟨rfl, HK5.out.bel⟩

theorem next_law {now : Int} (hn : Wd now) (a : Option Addr) (len cap : Nat) (z : Nat → Int) (w : World) (hT : Mk.Tab w) (hlc : len ≤ cap) (hcm : cap ≤ 9223372036854775807) (hz : WordsAt w a len z) :
    Calls Tryd.prog 5 #[.int .u64 now, .slice a len cap] w fun e w' => e = .returned (.bool true) ∧ Below w.heap.size w w' := by
  by_cases hm : now = 18446744073709551615
  · subst hm
    exact next_max a len cap z w hT hlc hcm hz
  · exact next_some hn hm a len cap z w hT hlc hcm hz
end Go.Proofs.YtcjemidflbfljaaDoor
