/-
  The law WheelPlays, walked; what opens its calls.
-/
import Derived.Deep.CutBlock
import Derived.Test.YtcjemidflbfljaaGreatDoorWpS
import Derived.Test.YtcjemidflbfljaaGreatDoorWpT
namespace Go.Proofs.YtcjemidflbfljaaGreatDoor
open Go.RowKit Go.Maps Go.ChangeShapes Go.WideShapes Go.ChangeAt

/-- A call that came in: in three cells from o on. -/
def ActAt (W : World) (b o : Nat) : Prop := ∃ K s x, W.cell? ⟨b, o, none⟩ = some (.int .i64 K) ∧ W.cell? ⟨b, o + 1, none⟩ = some (.int .i64 s) ∧ W.cell? ⟨b, o + 2, none⟩ = some (.int .u64 x) ∧ wf64 s ∧ Wd x
def ActsAt (W : World) (a : Option Addr) (len : Nat) : Prop := len = 0 ∨ ∃ b off, a = some ⟨b, off, none⟩ ∧ ∀ i, i < len → ActAt W b (off + i * 3)

theorem acts_opened {H : Type} {enc : TypeId × Value → H} {W : World} {a : Option Addr} {len cap : Nat} {d : DataW H} {p : List MemPlace} (h : DataW.Trod enc Tryz.prog W 0 (fun _ => true) true 23 (.slice a len cap) d p) :
    len ≤ 9223372036854775807 ∧ ActsAt W a len := by
  obtain ⟨fuel, hf⟩ := h
  rcases Go.Deep.open_slice Tryz.underlying23 hf with ⟨hcs, _⟩ | ⟨x, l, c, m, n, D, Q, hcs, _, hl, hm, hmm, _, hi⟩
  · simp [Value.cells] at hcs
    obtain ⟨rfl, rfl, rfl⟩ := hcs
    exact ⟨by decide, .inl rfl⟩
  · simp [Value.cells] at hcs
    obtain ⟨rfl, rfl, rfl⟩ := hcs
    simp at hmm
    unfold maxLen at hm
    refine ⟨by omega, ?_⟩
    by_cases h0 : len = 0
    · exact .inl h0
    · have key : ∀ i, i < len → ∃ K s y, W.cell? (x.add (i * 3)) = some (.int .i64 K) ∧ W.cell? ((x.add (i * 3)).add 1) = some (.int .i64 s) ∧ W.cell? ((x.add (i * 3)).add 2) = some (.int .u64 y) ∧ wf64 s ∧ Wd y := by
        intro i hlt
        obtain ⟨cs, hc, ht⟩ := hi i (by omega)
        rw [show Tryz.prog.cellsOf 30 = 3 by kernel_rfl] at hc
        obtain ⟨n', hfa⟩ := fields_at Tryz.underlying30 (by kernel_rfl) (by kernel_rfl) (by rw [show Tryz.prog.cellsOf 30 = 3 by kernel_rfl]; exact hc) ht
        obtain ⟨v0, y0, c0, t0⟩ := hfa 0 _ rfl
        obtain ⟨v1, y1, c1, t1⟩ := hfa 1 _ rfl
        obtain ⟨v2, y2, c2, t2⟩ := hfa 2 _ rfl
        obtain ⟨K, e0, _, _⟩ := DataW.trod_int Tryz.underlying3 t0
        obtain ⟨s, e1, _, f1⟩ := DataW.trod_int Tryz.underlying3 t1
        obtain ⟨y, e2, _, f2⟩ := DataW.trod_int Tryz.underlying22 t2
        cases e0
        cases e1
        cases e2
        exact ⟨K, s, y, by rw [show (x.add (i * 3)).add 0 = x.add (i * 3) from rfl] at c0; exact c0, c1, c2, f1, wd_of f2⟩
      obtain ⟨b, off, spot⟩ := x
      obtain ⟨K, s, y, hk, _⟩ := key 0 (by omega)
      have hspot : spot = none := by simpa [Addr.add] using World.cell?_spot hk
      subst hspot
      refine .inr ⟨b, off, rfl, fun i hlt => ?_⟩
      obtain ⟨K, s, y, h1, h2, h3, h4⟩ := key i hlt
      rw [addr_add] at h1
      rw [addr_add, addr_add] at h2 h3
      exact ⟨K, s, y, h1, h2, h3, h4⟩

attribute [local go_sem] Oper.semAt_some

set_option maxRecDepth 100000 in
set_option maxHeartbeats 8000000 in
theorem plays_law {now : Int} (hnw : Wd now) (a : Option Addr) (len cap : Nat) (w : World) (hT : Mk.Tab w) (_ : len ≤ 9223372036854775807) (ha : ActsAt w a len) :
    Calls Tryz.prog 3 #[.int .u64 now, .slice a len cap] w fun e w' => e = .returned (.bool true) ∧ Below w.heap.size w w' := by
  have HT := Lib.hid hT
  have HA := Lib.hid ha
  obtain ⟨S, hS⟩ : ∃ S, S = w.heap.size := ⟨_, rfl⟩
  have HNew := Lib.hid (new_any hnw w (Nat.le_refl _) S hS.symm)
  clear hT ha hnw
  go_enter Tryz.func3, Tryz.ntmps3
  go_wp2_with fail
  with_reducible refine HNew.out.mono ?_
  rintro e w1 ⟨rfl, h1, hc1, hs1⟩
  have hq := (Ch.refl [] w1).alloc (.cells #[.int .u64 now, .slice none 0 0] 28)
  have hp2 : PP w (w1.alloc (.cells #[.int .u64 now, .slice none 0 0] 28)) S w1.heap.size 0 0 (fun _ => .bool false) now 0 [] now (.slice none 0 0) [] (.slice none 0 0) [] :=
    ⟨⟨_, h1.quiet hq, by omega, by simp [Value.ownBlock], by simp [Value.ownBlock], .inl rfl⟩, Box2.new w1 _ _ _, World.ownsRow_nil _ _ _ _, World.ownsRow_nil _ _ _ _, by omega, by simp [Value.ownBlock], by simp [Value.ownBlock],
      (hc1.trans hq).below _ (fun k hk => by simp at hk) (Nat.le_refl _), fun o ho => by omega, .inl rfl⟩
  rw [hs1] at hp2
  have HP2 := Lib.hid hp2
  have HS := Lib.hid hS
  clear hp2 h1 hc1 hq hS HNew
  go_wp2_with fail
  go_loopw [7] (fun i wr => ∃ (k A na puts : Nat) (c : Nat → Value) (nw : Int) (L : List Tm) (v : Value), k ≤ len ∧ k ≤ 80 ∧ i = .int .i64 (k : Int) ∧ puts ≤ k ∧ PP w wr S (S + 1) A na c nw puts L nw v L v L) (fun i _ => 80 - (intOf i).toNat)
  case atStart => exact ⟨0, _, _, _, _, _, _, _, Nat.zero_le _, Nat.zero_le _, rfl, Nat.zero_le _, HP2.out⟩
  case round =>
    obtain ⟨k, A, na, puts, c, nw, L, v, hk, hk8, rfl, hpk, hp⟩ := hrel
    have HP := Lib.hid hp
    have HK := Lib.hid hpk
    clear hp hpk HP2
    by_cases hlt : k < len ∧ k < 80
    · obtain ⟨hlt, h80⟩ := hlt
      rcases HA.out with h0 | ⟨b, off, rfl, hacts⟩
      · exfalso; omega
      obtain ⟨K, id, x, hc0, hc1, hc2, hwf, hwd⟩ := hacts k hlt
      have hbs : b < w.heap.size := cell_lt hc0
      have hc0 := (HP.out.bel.cell (p := ⟨b, off + k * 3, none⟩) hbs).trans hc0
      have hc1 := (HP.out.bel.cell (p := ⟨b, off + k * 3 + 1, none⟩) hbs).trans hc1
      have hc2 := (HP.out.bel.cell (p := ⟨b, off + k * 3 + 2, none⟩) hbs).trans hc2
      have HWf := Lib.hid hwf
      have HWd := Lib.hid hwd
      have ht1 : decide ((k : Int) < 80) = true := by simp; omega
      have ht2 : (k : Int) < (len : Int) := by omega
      clear hacts hbs hwf hwd
      have hU : 0 ≤ IntKind.u64.wrap K ∧ IntKind.u64.wrap K < 18446744073709551616 := by rw [IntKind.wrap_u64]; omega
      generalize hgU : IntKind.u64.wrap K = U at hU
      obtain ⟨hU0, hU1⟩ := hU
      have HU0 := Lib.hid hU0
      have HP3 := Lib.hid (HP.out.newAct (.int .i64 K) (.int .i64 id) (.int .u64 x) 30)
      go_upto_block 2 with (fail)
      refine plays_sw HT.out HP3.out rfl rfl HWd.out HWf.out (by have := HK.out; omega) HU0.out ?_
      intro x4 x9 x10 x11 x12 x13 x14 x15 x16 x17 x18 x45 x46 x47 x48 x49 x50 x51 x52 x53 x54 x55 x56 x57 x58 x59 x60 x61 x62 x63 x64 x65 x66 x67 x68 x69 x70 x71 x72 x73 x74 x75 x76 x77 x78 x79 x80 x81 x82 x83 x84 x85 x86 x87 x88 x89 x90 x91 x92 x93 x94 x95 x96 x97 x98 x99 x100 x101 x102 x103 x104 x105 x106 x107 x108 x109 x110 x111 x112 x113 x114 x115 x116 x117 x118 x119 x120 x121 x122 w4 ⟨nw', puts', L', v', hpl, hp4⟩ hs4
      have HP4 := Lib.hid hp4
      have HK4 := Lib.hid hpl
      clear hp4 hpl hs4
      simp only [Exit.then]
      refine go_on (by assumption) ?_
      refine plays_tail HT.out HP4.out rfl rfl HWd.out HWf.out (by have := HK.out; have := HK4.out; omega) ?_
      intro y4 y19 y20 y21 y22 y23 y123 y124 y125 y126 y127 y128 y129 y130 y131 y132 y133 y134 y135 y136 y137 y138 y139 y140 y141 y142 y143 y144 y145 y146 y147 y148 y149 y150 y151 y152 y153 y154 y155 y156 y157 y158 y159 y160 y161 y162 y163 y164 y165 y166 y167 y168 y169 y170 y171 y172 y173 y174 y175 y176 y177 y178 y179 y180 y181 y182 y183 y184 y185 y186 y187 y188 y189 y190 y191 y192 y193 y194 y195 y196 y197 y198 y199 y200 y201 y202 y203 y204 y205 w5 hp5 hs5
      have HP5 := Lib.hid hp5.same
      clear hp5 hs5
      go_wp2_with fail
      go_roundw
      case rel => exact ⟨k + 1, _, _, _, _, _, _, _, by omega, by omega, by go_num, by have := HK.out; have := HK4.out; omega, HP5.out⟩
      case measure => simp [intOf]; omega
    · have hcs : (k < len ∧ ¬ k < 80) ∨ k = len := by omega
      have HKn := Lib.hid (known_any _ (HP.out.tab HT.out))
      rcases hcs with ⟨h1, h2⟩ | h1
      · have hd : decide ((k : Int) < 80) = false := by simp; omega
        have hdl : (k : Int) < (len : Int) := by omega
        go_wp2_with fail
        with_reducible refine HKn.out.mono ?_
        rintro e w3 ⟨rfl, hb3⟩
        have HB := Lib.hid (HP.out.quiet (Ch.of_below hb3)).bel
        clear hb3
        go_wp2
        go_ret
        exact ⟨rfl, HB.out⟩
      · have hdl : decide ((k : Int) < (len : Int)) = false := by simp; omega
        go_wp2_with fail
        with_reducible refine HKn.out.mono ?_
        rintro e w3 ⟨rfl, hb3⟩
        have HB := Lib.hid (HP.out.quiet (Ch.of_below hb3)).bel
        clear hb3
        go_wp2
        go_ret
        exact ⟨rfl, HB.out⟩
end Go.Proofs.YtcjemidflbfljaaGreatDoor
