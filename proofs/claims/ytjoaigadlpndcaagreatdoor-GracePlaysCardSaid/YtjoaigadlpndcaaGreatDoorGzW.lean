/-
  The law GracePlays, walked.
-/
import Derived.Deep.CutBlock
import Derived.Test.YtjoaigadlpndcaaGreatDoorGrT
import Derived.Test.YtjoaigadlpndcaaGreatDoorGzU
import Derived.Test.YtjoaigadlpndcaaGreatDoorGzV
namespace Go.Proofs.YtjoaigadlpndcaaGreatDoor
open Go.RowKit Go.Shelf
open rC (Th)

attribute [local go_sem] Oper.semAt_some

/-- Where both begin. -/
def sl0 : Sl3 := ⟨none, 0, 0, none, 0, 0, none, 0, 0⟩
def az0 : Az := ⟨[], [], 0, false, 0, 0, fun _ => false, 0, 0, 0⟩
theorem qx_new {w w1 w2 : World} {a n : Nat} (h : DL w w1 w.heap.size a w1.heap.size n dZ) (hc : Ch [] w1 w2) (hn : n ≤ 64) :
    QX w (w2.alloc (.cells #[.slice none 0 0, .int .i64 (n : Int), .int .i64 0, .slice none 0 0, .bool false, .int .i64 0, .int .i64 0, .slice none 0 0, .int .i64 0, .int .i64 0, .int .i64 0] 36)) w.heap.size a (w2.heap.size + 1) n w2.heap.size 0 0 sl0 az0 := by
  have h1 := hc.size
  have h2 := h.al
  have h3 : DL w w1 w.heap.size a (w2.heap.size + 1) n dZ := h.lift rfl (by omega)
  have h4 := (h3.quiet hc).quiet ((Ch.refl [] w2).alloc (.cells #[.slice none 0 0, .int .i64 (n : Int), .int .i64 0, .slice none 0 0, .bool false, .int .i64 0, .int .i64 0, .slice none 0 0, .int .i64 0, .int .i64 0, .int .i64 0] 36))
  refine ⟨h4, Bx.new w2 _ _ _ _ _ _ _ _ _ _ _ _, ⟨RD.nil _ _, ⟨0, rfl, .inl ⟨rfl, rfl⟩⟩, fun e => (by cases e), fun g e => ?_, fun g e => ?_, fun e => (by cases e)⟩, IZ.zero n, by omega, by omega, by rw [World.size_alloc]; exact Nat.le_refl _, by decide, hn⟩
  · simp [sl0, Value.ownBlock] at e
  · simp [sl0, Value.ownBlock] at e

set_option maxRecDepth 100000 in
set_option maxHeartbeats 8000000 in
theorem plays_law (a0 : Int) (a1 : Option Addr) (len1 cap1 : Nat) (a2 : Int) (w : World) (hT : Mk.Tab w) (_ : len1 ≤ 9223372036854775807) (ha : ActsAt w a1 len1) :
    Calls Tryz.prog 3 #[.int .i64 a0, .slice a1 len1 cap1, .int .i64 a2] w fun e w' => e = .returned (.bool true) ∧ Below w.heap.size w w' := by
  have HA := Lib.hid ha
  have HT := Lib.hid hT
  have u0 : 0 ≤ IntKind.u64.wrap a0 ∧ IntKind.u64.wrap a0 < 18446744073709551616 := by rw [IntKind.wrap_u64]; omega
  generalize hg0 : IntKind.u64.wrap a0 = U0 at u0
  obtain ⟨u00, u01⟩ := u0
  obtain ⟨n, hr0, hr1, hn4⟩ : ∃ n : Nat, 1 + U0 % 4 = (n : Int) ∧ 1 ≤ n ∧ n ≤ 4 := ⟨(1 + U0 % 4).toNat, by omega⟩
  have HN := Lib.hid (dl_new (Ch.refl [] w) hT (n := n) hr1 (Nat.le_trans hn4 (by decide)))
  clear ha hT
  go_enter Tryz.func3, Tryz.ntmps3
  go_wp2_with fail
  with_reducible refine HN.out.mono ?_
  rintro e w1 ⟨a, rfl, hd, hc1⟩
  have HG := Lib.hid (gz_new (n : Int) w1)
  have HD := Lib.hid hd
  clear hd hc1 HN
  go_frame
  go_wp2_with fail
  with_reducible refine HG.out.mono ?_
  rintro e w2 ⟨rfl, hc2⟩
  have HP0 := Lib.hid (qx_new HD.out hc2 (Nat.le_trans hn4 (by decide)))
  clear hc2 HG HD hg0 hr0 u00 u01
  go_frame
  go_wp2_with fail
  obtain ⟨L, hL⟩ : ∃ L, w2.heap.size + 1 = L := ⟨_, rfl⟩
  rw [hL] at HP0
  generalize w2.alloc (.cells #[.slice none 0 0, .int .i64 (n : Int), .int .i64 0, .slice none 0 0, .bool false, .int .i64 0, .int .i64 0, .slice none 0 0, .int .i64 0, .int .i64 0, .int .i64 0] 36) = w3 at *
  go_loopw [10] (fun ix wr => ∃ (k c : Nat) (s : Sl3) (z : Az), k ≤ len1 ∧ k ≤ 50 ∧ ix = .int .i64 (k : Int) ∧ QX w wr w.heap.size a L n w2.heap.size c k s z) (fun ix _ => 50 - (intOf ix).toNat)
  case atStart => exact ⟨0, _, _, _, Nat.zero_le _, Nat.zero_le _, rfl, HP0.out⟩
  case round =>
    obtain ⟨k, c, s, z, hk, hk5, rfl, hp⟩ := hrel
    have HP := Lib.hid hp
    clear hp HP0
    by_cases hlt : k < len1 ∧ k < 50
    · obtain ⟨hlt, h50⟩ := hlt
      rcases HA.out with h0 | ⟨b, off, rfl, hacts⟩
      · exfalso; omega
      obtain ⟨K, R, C, Id, hc0, hc1, hc2, hc3⟩ := hacts k hlt
      have hch := HP.out.dl.ch
      have hc0 := (hch.cell (p := ⟨b, off + k * 4, none⟩) (cell_lt hc0) (by simp)).trans hc0
      have hc1 := (hch.cell (p := ⟨b, off + k * 4 + 1, none⟩) (cell_lt hc1) (by simp)).trans hc1
      have hc2 := (hch.cell (p := ⟨b, off + k * 4 + 2, none⟩) (cell_lt hc2) (by simp)).trans hc2
      have hc3 := (hch.cell (p := ⟨b, off + k * 4 + 3, none⟩) (cell_lt hc3) (by simp)).trans hc3
      have HP3 := Lib.hid (show QR w (wr.alloc (.cells #[.int .i64 K, .int .i64 R, .int .i64 C, .int .i64 Id] 39)) w.heap.size a L n w2.heap.size c k s z wr.heap.size K R C Id from
        ⟨HP.out.quiet ((Ch.refl [] wr).alloc _), Qa.new wr K R C Id _, HP.out.new (Nat.le_refl _)⟩)
      have ht1 : decide ((k : Int) < 50) = true := by simp; omega
      have ht2 : (k : Int) < (len1 : Int) := by omega
      clear hacts hch
      have hU : 0 ≤ IntKind.u64.wrap K ∧ IntKind.u64.wrap K < 18446744073709551616 := by rw [IntKind.wrap_u64]; omega
      generalize hgU : IntKind.u64.wrap K = U at hU
      obtain ⟨hU0, hU1⟩ := hU
      have hqc := HP3.out.2.1.c0
      go_upto_block 2 with (fail)
      refine wp_block ?_
      refine plays_sw HP3.out h50 hU0 ?_
      intro x6 x12 x13 x14 x15 x16 x17 x18 x19 x20 x21 x22 x23 x24 x56 x57 x58 x59 x60 x61 x62 x63 x64 x65 x66 x67 x68 x69 x70 x71 x72 x73 x74 x75 x76 x77 x78 x79 x80 x81 x82 x83 x84 x85 x86 x87 x88 x89 x90 x91 x92 x93 x94 x95 x96 x97 x98 x99 x100 x101 x102 x103 x104 x105 x106 x107 x108 x109 x110 x111 x112 x113 x114 x115 x116 x117 x118 x119 x120 x121 x122 x123 x124 x125 x126 x127 x128 x129 x130 x131 x132 x133 x134 x135 x136 x137 x138 x139 x140 x141 x142 x143 x144 x145 x146 x147 x148 wq ⟨c', s', z', hp4⟩
      have HP4 := Lib.hid hp4
      clear hp4
      simp only [Exit.inBlock, Exit.then]
      refine go_on (by assumption) ?_
      refine plays_tail HP4.out ?_
      intro y6 y149 y150 y151 y152 y153 y154 y155 y156 y157 y158 y159 y160 y161 y162 y163 y164 y165 y166 y167 y168 y169 y170 y171 y172 y173 y174 y175 y176 y177 y178 y179 y180 y181 y182 y183 y184 y185 y186 y187 y188 y189 y190 y191 y192 y193 y194 y195 y196 y197 y198 y199 y200 y201 y202 y203 y204 y205 y206 y207 y208 y209 y210 y211 y212 y213 y214 y215 y216 y217 y218 w5 hp5
      have HP5 := Lib.hid hp5
      clear hp5
      go_wp2_with fail
      go_roundw
      case rel => exact ⟨k + 1, _, _, _, by omega, by omega, by go_num, HP5.out.1⟩
      case measure => simp [intOf]; omega
    · have hcs : (k < len1 ∧ ¬ k < 50) ∨ k = len1 := by omega
      have HKn := Lib.hid (known_any wr (tab_ch HT.out HP.out.dl.ch (by simp)))
      rcases hcs with ⟨h1, h2⟩ | h1
      · have hd : decide ((k : Int) < 50) = false := by simp; omega
        have hdl : (k : Int) < (len1 : Int) := by omega
        go_wp2_with fail
        with_reducible refine HKn.out.mono ?_
        rintro e w3 ⟨rfl, hb3⟩
        have HBl := Lib.hid ((HP.out.dl.ch.trans hb3).below w.heap.size (by simp) (Nat.le_refl _))
        clear hb3
        go_frame
        go_wp2
        go_ret
        exact ⟨rfl, HBl.out⟩
      · have hdl : decide ((k : Int) < (len1 : Int)) = false := by simp; omega
        go_wp2_with fail
        with_reducible refine HKn.out.mono ?_
        rintro e w3 ⟨rfl, hb3⟩
        have HBl := Lib.hid ((HP.out.dl.ch.trans hb3).below w.heap.size (by simp) (Nat.le_refl _))
        clear hb3
        go_frame
        go_wp2
        go_ret
        exact ⟨rfl, HBl.out⟩
end Go.Proofs.YtjoaigadlpndcaaGreatDoor
