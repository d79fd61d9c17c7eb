/-
  The law CallsPlays, walked.
-/
import Derived.Deep.CutBlock
import Derived.Test.YtnnliimjemmekaaCbS
import Derived.Test.YtnnliimjemmekaaCbT
import Derived.Test.YtnnliimjemmekaaCbU
namespace Go.Proofs.Ytnnliimjemmekaa
open Go.RowKit Go.Maps
open rC (Th flat)

attribute [local go_sem] Oper.semAt_some

set_option maxRecDepth 100000 in
set_option maxHeartbeats 8000000 in
theorem plays_law (a0 : Int) (a : Option Addr) (len cap : Nat) (w : World) (_ : len ≤ 9223372036854775807) (ha : ActsAt w a len) :
    Calls Try.prog 3 #[.int .i64 a0, .slice a len cap] w fun e w' => e = .returned (.bool true) ∧ Below w.heap.size w w' := by
  have HA := Lib.hid ha
  have u0 : 0 ≤ IntKind.u64.wrap a0 ∧ IntKind.u64.wrap a0 < 18446744073709551616 := by rw [IntKind.wrap_u64]; omega
  generalize hg0 : IntKind.u64.wrap a0 = U0 at u0
  obtain ⟨u00, u01⟩ := u0
  obtain ⟨n, hr0, hr1, hn6⟩ : ∃ n : Nat, 1 + U0 % 6 = (n : Int) ∧ 1 ≤ n ∧ n ≤ 6 := ⟨(1 + U0 % 6).toNat, by omega⟩
  have HN := Lib.hid (lc_new hr1 (Nat.le_trans hn6 (by decide)) w)
  have hbt : Try.prog.built 30 [(0, .int .i64 (n : Int))] = some #[.int .i64 (n : Int), .int .i64 0, .slice none 0 0] := by kernel_rfl
  clear ha
  go_enter Try.func3, Try.ntmps3
  go_wp2_with fail
  with_reducible refine HN.out.mono ?_
  rintro e w1 ⟨A, rfl, hl, hb⟩
  have HP0 := Lib.hid (show PS w (w1.alloc (.cells #[.int .i64 (n : Int), .int .i64 0, .slice none 0 0] 30)) w.heap.size w1.heap.size A n w1.heap.size 0 [] (.slice none 0 0) from
    ⟨hl.quiet ((Ch.refl [] w1).alloc _), Three.new w1 _ _ _ _, ⟨0, rfl, .inl ⟨rfl, rfl⟩⟩, by simp [Value.ownBlock], Nat.le_refl _, MI.nil n, hb.alloc hb.size _, Nat.le_refl _⟩)
  clear hl hb hg0 hr0 u00 u01
  go_frame
  go_wp2_with fail
  clear hbt
  generalize w1.alloc (.cells #[.int .i64 (n : Int), .int .i64 0, .slice none 0 0] 30) = w2 at *
  go_loopw [8] (fun ix wr => ∃ (k : Nat) (last : Int) (M : List Cb) (v : Value), k ≤ len ∧ k ≤ 50 ∧ ix = .int .i64 (k : Int) ∧ PS w wr w.heap.size w1.heap.size A n w1.heap.size last M v) (fun ix _ => 50 - (intOf ix).toNat)
  case atStart => exact ⟨0, _, _, _, Nat.zero_le _, Nat.zero_le _, rfl, HP0.out⟩
  case round =>
    obtain ⟨k, last, M, v, hk, hk5, rfl, hp⟩ := hrel
    have HP := Lib.hid hp
    clear hp HP0
    by_cases hlt : k < len ∧ k < 50
    · obtain ⟨hlt, h50⟩ := hlt
      rcases HA.out with h0 | ⟨b, off, rfl, hacts⟩
      · exfalso; omega
      obtain ⟨K, C, Gn, aI, cI, zs, hc0, hc1, hc2, hc3, hmc, hcm, hzs⟩ := hacts k hlt
      have hbs : b < w.heap.size := cell_lt hc0
      have hc0 := (HP.out.bel.cell (p := ⟨b, off + k * 4, none⟩) hbs).trans hc0
      have hc1 := (HP.out.bel.cell (p := ⟨b, off + k * 4 + 1, none⟩) hbs).trans hc1
      have hc2 := (HP.out.bel.cell (p := ⟨b, off + k * 4 + 2, none⟩) hbs).trans hc2
      have hc3 := (HP.out.bel.cell (p := ⟨b, off + k * 4 + 3, none⟩) hbs).trans hc3
      obtain ⟨m, hm⟩ : ∃ m, m = zs.length := ⟨_, rfl⟩
      rw [← hm] at hc3 hmc
      have HM := Lib.hid hm
      have HZ := Lib.hid hzs
      have HP3 := Lib.hid (HP.out.quiet ((Ch.refl [] wr).alloc (.cells #[.int .i64 K, .int .i64 C, .int .i64 Gn, .slice aI m cI] 33)))
      have HQa := Lib.hid (Qa.new wr K C Gn (.slice aI m cI) 33)
      have HAx := Lib.hid (show w1.heap.size ≤ wr.heap.size ∧ wr.heap.size ≠ w1.heap.size by have := HP.out.bx.lt; omega)
      have ht1 : decide ((k : Int) < 50) = true := by simp; omega
      have ht2 : (k : Int) < (len : Int) := by omega
      clear hacts hbs hzs hm
      have hU : 0 ≤ IntKind.u64.wrap K ∧ IntKind.u64.wrap K < 18446744073709551616 := by rw [IntKind.wrap_u64]; omega
      generalize hgU : IntKind.u64.wrap K = U at hU
      obtain ⟨hU0, hU1⟩ := hU
      have hqc := HQa.out.c0
      go_upto_block 2 with (fail)
      refine wp_block ?_
      refine plays_sw HP3.out HQa.out HAx.out HZ.out HM.out hmc hcm hU0 ?_
      intro x4 x10 x11 x12 x13 x14 x15 x16 x54 x55 x56 x57 x58 x59 x60 x61 x62 x63 x64 x65 x66 x67 x68 x69 x70 x71 x72 x73 x74 x75 x76 x77 x78 x79 x80 x81 x82 x83 x84 x85 x86 x87 x88 x89 x90 x91 x92 x93 x94 x95 x96 x97 x98 x99 x100 x101 x102 x103 x104 x105 x106 x107 x108 x109 x110 wq ⟨last', M', v', hp4⟩
      have HP4 := Lib.hid hp4
      clear hp4
      simp only [Exit.inBlock, Exit.then]
      refine go_on (by assumption) ?_
      refine plays_tail HP4.out hn6 ?_
      intro y4 y17 y18 y19 y20 y21 y22 y111 y112 y113 y114 y115 y116 y117 y118 y119 y120 y121 y122 y123 y124 y125 y126 y127 y128 y129 y130 y131 y132 y133 y134 y135 y136 y137 y138 y139 y140 y141 y142 y143 y144 y145 y146 y147 y148 y149 y150 y151 y152 y153 y154 y155 y156 y157 y158 y159 y160 y161 y162 y163 y164 y165 y166 y167 y168 y169 y170 y171 y172 y173 y174 y175 y176 y177 y178 y179 y180 y181 y182 y183 y184 y185 y186 y187 y188 y189 y190 y191 y192 y193 y194 y195 y196 y197 y198 y199 y200 y201 y202 y203 y204 y205 y206 y207 w5 hp5
      have HP5 := Lib.hid hp5
      clear hp5
      go_wp2_with fail
      go_roundw
      case rel => exact ⟨k + 1, _, _, _, by omega, by omega, by go_num, HP5.out⟩
      case measure => simp [intOf]; omega
    · have hcs : (k < len ∧ ¬ k < 50) ∨ k = len := by omega
      have HKn := Lib.hid (known_any wr)
      rcases hcs with ⟨h1, h2⟩ | h1
      · have hd : decide ((k : Int) < 50) = false := by simp; omega
        have hdl : (k : Int) < (len : Int) := by omega
        go_wp2_with fail
        with_reducible refine HKn.out.mono ?_
        rintro e w3 ⟨rfl, hb3⟩
        have HBl := Lib.hid (bel_bel HP.out.bel hb3)
        clear hb3
        go_frame
        go_wp2
        go_ret
        exact ⟨rfl, HBl.out⟩
      · have hdl : decide ((k : Int) < (len : Int)) = false := by simp; omega
        go_wp2_with fail
        with_reducible refine HKn.out.mono ?_
        rintro e w3 ⟨rfl, hb3⟩
        have HBl := Lib.hid (bel_bel HP.out.bel hb3)
        clear hb3
        go_frame
        go_wp2
        go_ret
        exact ⟨rfl, HBl.out⟩
end Go.Proofs.Ytnnliimjemmekaa
