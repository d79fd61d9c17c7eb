/-
  The law CallsOnce, walked.
-/
import Derived.Deep.CutBlock
import Derived.Test.YtnnliimjemmekaaCoD
import Derived.Test.YtnnliimjemmekaaCoH
import Derived.Test.YtnnliimjemmekaaCoU
namespace Go.Proofs.Ytnnliimjemmekaa
open Go.RowKit Go.Maps
open rC (Th)

attribute [local go_sem] Oper.semAt_some

set_option maxRecDepth 100000 in
set_option maxHeartbeats 8000000 in
theorem once_law (a0 : Option Addr) (len0 cap0 : Nat) (z0 : List Int) (a1 : Option Addr) (len1 cap1 : Nat) (a2 : Option Addr) (len2 cap2 : Nat) (w : World) (hn0 : len0 = z0.length) (_ : len0 ≤ cap0) (_ : cap0 ≤ 9223372036854775807) (hz0 : IntsAt w a0 z0)
    (h1 : len1 ≤ 9223372036854775807 ∧ ∃ z, BoolsAt w a1 len1 z) (h2 : len2 ≤ 9223372036854775807 ∧ ∃ z, BoolsAt w a2 len2 z) :
    Calls Try.prog 4 #[.slice a0 len0 cap0, .slice a1 len1 cap1, .slice a2 len2 cap2] w fun e w' => e = .returned (.bool true) ∧ Below w.heap.size w w' := by
  obtain ⟨hm1, z1, hb1⟩ := h1
  obtain ⟨hm2, z2, hb2⟩ := h2
  have HZ := Lib.hid hz0
  have HN0 := Lib.hid hn0
  have HB1 := Lib.hid hb1
  have HB2 := Lib.hid hb2
  have HN := Lib.hid (show Calls Try.prog 7 #[.int .i64 4] w _ from lc_new (n := 4) (by decide) (by decide) w)
  have HZ61 := Lib.hid z61_zero
  have HZ4 := Lib.hid z4_zero
  clear hz0 hn0 hb1 hb2
  go_enter Try.func4, Try.ntmps4
  go_wp2_with fail
  with_reducible refine HN.out.mono ?_
  rintro e w1 ⟨A, rfl, hl, hb⟩
  have hz9 := HZ61.out w1
  have hz10 := HZ61.out (w1.alloc (.cells z61 55))
  have hz11 := HZ4.out ((w1.alloc (.cells z61 55)).alloc (.cells z61 55))
  obtain ⟨W2, hW2⟩ : ∃ W, W = w1.alloc (.cells z61 55) := ⟨_, rfl⟩
  obtain ⟨W3, hW3⟩ : ∃ W, W = W2.alloc (.cells z61 55) := ⟨_, rfl⟩
  obtain ⟨W4, hW4⟩ : ∃ W, W = W3.alloc (.cells z4 56) := ⟨_, rfl⟩
  have hs2 : W2.heap.size = w1.heap.size + 1 := by rw [hW2]; simp
  have hs3 : W3.heap.size = w1.heap.size + 1 + 1 := by rw [hW3]; simp [hs2]
  have hc24 : Ch [] W2 W4 := by rw [hW4, hW3]; exact ((Ch.refl [] W2).alloc _).alloc _
  have hc34 : Ch [] W3 W4 := by rw [hW4]; exact (Ch.refl [] W3).alloc _
  have hc14 : Ch [] w1 W4 := by rw [hW4, hW3, hW2]; exact (((Ch.refl [] w1).alloc _).alloc _).alloc _
  have a9 : Arr W4 w1.heap.size 61 (fun _ => 0) := (show Arr W2 w1.heap.size 61 (fun _ => 0) by rw [hW2]; exact Arr.new61 w1 _).ch (by decide) hc24 (by simp)
  have a10 : Arr W4 (w1.heap.size + 1) 61 (fun _ => 0) := (show Arr W3 (w1.heap.size + 1) 61 (fun _ => 0) by rw [hW3, ← hs2]; exact Arr.new61 W2 _).ch (by decide) hc34 (by simp)
  have a11 : Arr W4 (w1.heap.size + 1 + 1) 4 (fun _ => 0) := by rw [hW4, ← hs3]; exact Arr.new4 W3 _
  have HO0 := Lib.hid (show OS w W4 w.heap.size w1.heap.size A w1.heap.size (w1.heap.size + 1) (w1.heap.size + 1 + 1) 0 0 (fun _ => 0) (fun _ => 0) (fun _ => false) (fun _ => 0) from
    ⟨(hl.quiet hc14).congr (fun i _ => rfl), ⟨a9.congr (fun i _ => rfl), a10, a11, by omega, by omega, by omega⟩, ON.zero _ (fun _ => by decide), hb.trans (hc14.below _ (fun k hk => by simp at hk) hb.size), Nat.le_refl _, Nat.le_refl _, by omega, by omega⟩)
  clear hl hb a9 a10 a11 hc24 hc34 hc14
  go_frame
  go_wp2_with fail
  rw [← hW2, ← hW3, ← hW4]
  clear hz9 hz10 hz11 hs2 hs3 HZ61 HZ4 HN
  clear hW4
  clear hW3
  clear hW2
  go_loopw [12, 13, 14] (fun ge nn ix wr => ∃ (k : Nat) (gen : Int) (C : Nat → Nat) (g : Nat → Int) (t : Nat → Bool) (la : Nat → Int), k ≤ len0 ∧ k ≤ 60 ∧ ix = .int .i64 (k : Int) ∧ nn = .int .i64 (k : Int) ∧ ge = .int .i64 gen ∧ OS w wr w.heap.size w1.heap.size A w1.heap.size (w1.heap.size + 1) (w1.heap.size + 1 + 1) k gen C g t la) (fun _ _ ix _ => 60 - (intOf ix).toNat)
  case atStart => exact ⟨0, _, _, _, _, _, Nat.zero_le _, Nat.zero_le _, rfl, rfl, rfl, HO0.out⟩
  case round =>
    obtain ⟨k, gen, C, g, t, la, hk, hk6, rfl, rfl, rfl, ho⟩ := hrel
    have HO := Lib.hid ho
    clear ho HO0
    by_cases hlt : k < len0 ∧ k < 60
    · obtain ⟨hlt, h60⟩ := hlt
      rcases HZ.out with h0 | ⟨b, off, rfl, hcs⟩
      · exfalso; rw [HN0.out, h0] at hlt; simp at hlt
      have hkz : k < z0.length := by rw [← HN0.out]; exact hlt
      obtain ⟨z, hz⟩ : ∃ z, z0[k]? = some z := ⟨_, List.getElem?_eq_getElem hkz⟩
      have hcell : w.cell? ⟨b, off + k, none⟩ = some (.int .i64 z) := by rw [hcs k hkz, hz]; rfl
      have hcell := (HO.out.bel.cell (p := ⟨b, off + k, none⟩) (cell_lt hcell)).trans hcell
      clear hcs hkz hz
      have hU : 0 ≤ IntKind.u64.wrap z ∧ IntKind.u64.wrap z < 18446744073709551616 := by rw [IntKind.wrap_u64]; omega
      generalize hgU : IntKind.u64.wrap z = U at hU
      obtain ⟨c, hc⟩ : ∃ c : Nat, U % 4 = (c : Int) := ⟨(U % 4).toNat, by omega⟩
      have hc4 : c < 4 := by omega
      obtain ⟨hU0, hU1⟩ := hU
      have ht1 : decide ((k : Int) < 60) = true := by simp; omega
      have ht2 : (k : Int) < (len0 : Int) := by omega
      obtain ⟨n, hn⟩ : ∃ n : Nat, n = k + 1 := ⟨_, rfl⟩
      have hn6 : n ≤ 60 := by omega
      have hw1 : IntKind.i64.wrap ((k : Int) + 1) = (n : Int) := by rw [IntWalk.i64_in _ (by omega)]; omega
      have hw4 : IntKind.i64.wrap ((n : Int) * 4) = (n : Int) * 4 := IntWalk.i64_in _ (by omega)
      have hw5 : IntKind.i64.wrap ((n : Int) * 4 + (c : Int)) = (n : Int) * 4 + (c : Int) := IntWalk.i64_in _ (by omega)
      have hwc : IntKind.i64.wrap (c : Int) = (c : Int) := IntWalk.i64_in _ (by omega)
      have hA := HO.out.lc.add1 hc4 ((n : Int) * 4 + (c : Int))
      have hfl := fT_len C g t k c
      have hfe : updF (fT C g t k) c ((fT C g t k c ++ [fresh ((n : Int) * 4 + (c : Int))]).take 64) = fT (putC C n c) g t n := by
        subst hn
        funext i
        rw [fT_add HO.out.on c i]
        unfold updF
        rw [List.take_of_length_le (by simp; omega)]
        by_cases e : i = c
        · subst e; rw [if_pos rfl, if_pos rfl]; rfl
        · rw [if_neg e, if_neg e]
      rw [if_neg (by omega), hfe] at hA
      have HA := Lib.hid hA
      have HOn := Lib.hid (show ON n gen (putC C n c) g t la by rw [hn]; exact HO.out.on.add hc4)
      have HN := Lib.hid hn
      have HGe := Lib.hid HO.out.on.gen0
      clear hA hfl hfe hn
      go_wp2_with fail
      with_reducible refine HA.out.mono ?_
      rintro e w3 ⟨rfl, hl3, hc3⟩
      have HO3 := Lib.hid (HO.out.call hc3 hl3 HOn.out (HO.out.ar.own HO.out.t9 HO.out.t10 HO.out.t11 hc3))
      have hgn : gen < (n : Int) := by have := HGe.out; have := HN.out; omega
      clear hl3 hc3 HA HOn hw1 hw4 hw5 hwc hcell
      go_frame
      go_upto_if 55 with (fail)
      refine wp_cond (t := false) rfl ?_
      simp only [Bool.false_eq_true, if_false]
      refine wp_skip ?_
      refine go_on (by assumption) ?_
      refine wp_seq_k (fun K1 hK1 => ?_)
      have HK1 := Lib.hid hK1
      clear hK1
      have HB1' := Lib.hid (HB1.out.bel HO3.out.bel)
      refine once_x15 HO3.out hn6 hgn HB1'.out ?_
      intro x6 x12 x16 x56 x57 x58 x59 x60 x61 x62 x63 x64 x65 x66 x67 x68 x69 x70 x71 x72 x73 x74 x75 x76 x77 x78 x79 x80 x81 x82 wq ⟨gen', g', hx, ho⟩
      subst hx
      have HO' := Lib.hid ho
      clear ho
      simp only [Exit.then]
      refine HK1.out _ _ ?_
      clear HK1 HO3 HB1'
      have hw1 : IntKind.i64.wrap ((k : Int) + 1) = (n : Int) := by have := HN.out; rw [IntWalk.i64_in _ (by omega)]; omega
      have HR := Lib.hid (show n ≤ len0 ∧ 60 - n < 60 - k by have := HN.out; omega)
      by_cases hi : k < len2
      · rcases (HB2.out.bel HO'.out.bel) with h0 | ⟨b2, off2, rfl, hb⟩
        · exfalso; omega
        have hc2 := hb k hi
        have hdk : decide (len2 ≤ k) = false := decide_eq_false (by omega)
        have hk0 : (0 : Int) ≤ (k : Int) := by omega
        have hk2 : (k : Int) < (len2 : Int) := by omega
        clear hb
        cases hz2 : z2 k with
        | true =>
          rw [hz2] at hc2
          go_upto_if 93 with (fail)
          refine wp_cond (t := false) rfl ?_
          simp only [Bool.false_eq_true, if_false]
          refine wp_skip ?_
          refine go_on (by assumption) ?_
          refine once_tl HO'.out hn6 ?_
          intro y6 y17 y18 y19 y20 y21 y94 y95 y96 y97 y98 y99 y100 y101 y102 y103 y104 y105 y106 y107 y108 y109 y110 y111 y112 y113 y114 y115 y116 y117 y118 y119 y120 y121 y122 y123 y124 y125 y126 y127 y128 y129 y130 y131 y132 y133 y134 y135 y136 y137 y138 y139 y140 y141 y142 y143 y144 y145 y146 y147 y148 y149 y150 y151 y152 y153 y154 y155 y156 y157 y158 y159 y160 y161 y162 y163 y164 y165 y166 y167 y168 y169 y170 y171 y172 y173 y174 y175 y176 y177 y178 y179 wq2 ⟨t', la', ho2⟩
          have HO2 := Lib.hid ho2
          clear ho2 HO'
          go_wp2_with fail
          go_roundw
          case rel => exact ⟨n, _, _, _, _, _, HR.out.1, hn6, by go_num, rfl, rfl, HO2.out⟩
          case measure => simp [intOf]; have := HR.out.2; omega
        | false =>
          rw [hz2] at hc2
          go_wp2_with fail
          go_roundw
          case rel => exact ⟨n, _, _, _, _, _, HR.out.1, hn6, by go_num, rfl, rfl, HO'.out⟩
          case measure => simp [intOf]; have := HR.out.2; omega
      · have hdk : decide (len2 ≤ k) = true := decide_eq_true (by omega)
        go_wp2_with fail
        go_roundw
        case rel => exact ⟨n, _, _, _, _, _, HR.out.1, hn6, by go_num, rfl, rfl, HO'.out⟩
        case measure => simp [intOf]; have := HR.out.2; omega
    · have hcs : (k < len0 ∧ ¬ k < 60) ∨ k = len0 := by omega
      have HKn := Lib.hid (known_any wr)
      rcases hcs with ⟨h1, h2⟩ | h1
      · have hd : decide ((k : Int) < 60) = false := by simp; omega
        have hdl : (k : Int) < (len0 : Int) := by omega
        go_wp2_with fail
        with_reducible refine HKn.out.mono ?_
        rintro e w3 ⟨rfl, hb3⟩
        have HBl := Lib.hid (bel_bel HO.out.bel hb3)
        clear hb3
        go_frame
        go_wp2
        go_ret
        exact ⟨rfl, HBl.out⟩
      · have hdl : decide ((k : Int) < (len0 : Int)) = false := by simp; omega
        go_wp2_with fail
        with_reducible refine HKn.out.mono ?_
        rintro e w3 ⟨rfl, hb3⟩
        have HBl := Lib.hid (bel_bel HO.out.bel hb3)
        clear hb3
        go_frame
        go_wp2
        go_ret
        exact ⟨rfl, HBl.out⟩
end Go.Proofs.Ytnnliimjemmekaa
