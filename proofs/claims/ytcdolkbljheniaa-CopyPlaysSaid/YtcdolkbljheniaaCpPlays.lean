/-
  CopyPlays: whatever becomes of the memory, each try, and what is told behind it.
-/
import Derived.Test.YtcdolkbljheniaaCpX
import Derived.Test.YtcdolkbljheniaaCpT
import Derived.Deep.RegionHeld3
namespace Go.Proofs.Ytcdolkbljheniaa
open Go.RowKit

/-- New copies, whatever comes of it. -/
theorem in_whatever {a : Int} (ha : a ≤ 9223372036854775807) (m : Int) (w : World) :
    Calls Try.prog 11 #[.int .i64 a, .int .i64 m] w fun e w' => ∃ p E, e = .returned (.tuple #[.pointer p, .int .i64 E]) ∧ Ch [] w w' := by
  by_cases hm : 0 ≤ m ∧ m ≤ 64
  · obtain ⟨k, rfl⟩ : ∃ k : Nat, m = (k : Int) := ⟨m.toNat, by omega⟩
    refine (in_ok ha (n := k) (by omega) w).mono ?_
    rintro e w' ⟨c, rfl, -, hc⟩
    exact ⟨_, _, rfl, hc⟩
  · refine (in_bad (a := a) (m := m) (by omega) w).mono ?_
    rintro e w' ⟨rfl, hc⟩
    exact ⟨_, _, rfl, hc⟩
/-- The answer's variable beside a new copy. -/
theorem PX.start {w0 w w2 : World} {b g N : Nat} {y : MS} (hp : UP w0 w b g N y) (hc : Ch [] w w2) {L D c : Nat} {z : CZ} (hk : CC w2 L D c z) (hL : w.heap.size ≤ L) {X : Nat} {v : Option Addr} {cap : Nat} (hz : BZ w2 X z v cap) (hX : w.heap.size ≤ X) (hXc : X ≠ c) (hXL : X < L ∨ X = D) (hv : BytesAt w2 v z.bs) (hvw : z.bs ≠ [] → ∀ y, v = some y → y.block < w.heap.size ∧ y.block ≠ b) : PX w0 w2 b g N y L D c z X v cap := by
  have h2 := hp.quiet hc
  have hb := hp.l.u.lt
  have hg := hp.r.lt
  have hlo := hk.lo
  exact ⟨⟨h2, hk, by omega, by omega⟩, hz, hv, Nat.le_trans hp.l.ch.size hX, by omega, hXc, by omega, hXL, fun q y e => by have := hvw q y e; omega⟩
theorem BZ.inn (w : World) (a : Int) (k : Nat) (t : TypeId) : BZ (w.alloc (.cells #[.bool false, .bool false, .bool false, .int .i64 a, .int .i64 (k : Int), .int .i64 0, .int .i64 0, .slice none 0 0] t)) w.heap.size (CZ.inn a k) none 0 := Bx.new w _ _ _ _ _ _ _ _ _
theorem BytesAt.lt {w : World} {v : Option Addr} {l : List Int} (h : BytesAt w v l) (hl : l ≠ []) : ∀ y, v = some y → y.block < w.heap.size := by
  intro y e
  rcases h with h | ⟨b, off, rfl, hk⟩
  · exact absurd h hl
  · cases e
    exact cell_lt (hk 0 (List.length_pos_iff.2 hl))

set_option maxRecDepth 100000 in
set_option maxHeartbeats 16000000 in
theorem plays_law {a0 a3 a4 : Int} (wf3 : (Lit.int .i64 a3).wf = true) (a : Option Addr) (len1 cap1 : Nat) (out : Bool) (v : Option Addr) (len cap : Nat) (aa : Option Addr) (len6 cap6 : Nat) (w : World) (ha : ActsAt w a len1) (hlc : len ≤ cap) (hvn : v = none → cap = 0) (hlb : ∃ l : List Int, l.length = len ∧ BytesAt w v l) (haa : Acts7At w aa len6) :
    Calls Try.prog 3 #[.int .i64 a0, .slice a len1 cap1, .bool out, .int .i64 a3, .int .i64 a4, .slice v len cap, .slice aa len6 cap6] w fun e w' => e = .returned (.bool true) ∧ Below w.heap.size w w' := by
  have hr3 := i64_of wf3
  have u0 : 0 ≤ IntKind.u64.wrap a0 ∧ IntKind.u64.wrap a0 < 18446744073709551616 := by rw [IntKind.wrap_u64]; omega
  generalize hg0 : IntKind.u64.wrap a0 = U0 at u0
  obtain ⟨u00, u01⟩ := u0
  obtain ⟨n, hn0, h1, h16⟩ : ∃ n : Nat, 1 + U0 % 16 = (n : Int) ∧ 1 ≤ n ∧ n ≤ 16 := ⟨(1 + U0 % 16).toNat, by omega⟩
  obtain ⟨N, hN⟩ : ∃ N, 16 * n = N := ⟨_, rfl⟩
  have hN256 : N ≤ 256 := by omega
  have hw16 : IntKind.i64.wrap (16 * (n : Int)) = (N : Int) := by rw [IntWalk.i64_in _ (by omega)]; omega
  -- the bytes
  obtain ⟨l, hl, hb⟩ := hlb
  obtain ⟨m, hm⟩ : ∃ m, m = min len 80 := ⟨_, rfl⟩
  have hmin1 : (if (80 : Int) < (len : Int) then (80 : Int) else (len : Int)) = (m : Int) := by split <;> omega
  have hmc1 : (m : Int) ≤ (cap : Int) := by omega
  obtain ⟨L1, hL1⟩ : ∃ L, L = l.take m := ⟨_, rfl⟩
  have HL1 := Lib.hid (show L1.length = m ∧ BytesAt w v L1 from ⟨by rw [hL1, List.length_take]; omega, by rw [hL1]; exact hb.take m⟩)
  have hm80 : m ≤ 80 := by omega
  have HVN := Lib.hid hvn
  have HAc := Lib.hid ha
  have HAA := Lib.hid haa
  obtain ⟨b, hb⟩ : ∃ b, w.heap.size = b := ⟨_, rfl⟩
  have HNew := Lib.hid (UL.new w (Ch.refl [] w) h1 h16 hb)
  have HN := Lib.hid hN
  have HBW := Lib.hid hb
  clear hb hN hm hL1 hl hlc ha wf3 hvn haa
  go_enter Try.func3, Try.ntmps3
  go_wp2_with fail
  clear hn0 hg0 u00 u01
  with_reducible refine HNew.out.mono ?_
  rintro e w1 ⟨rfl, hu1, -, -⟩
  have C := Lib.hid (hu1.answer HN.out)
  clear hu1 HNew
  go_wp2_with fail
  with_reducible refine C.out.mono ?_
  rintro e w3 ⟨g, cp, rfl, hup, -, -⟩
  have HU := Lib.hid hup
  clear hup C
  go_wp2_with fail
  go_loopw [17, 18] (fun v i wr => ∃ (k g cp : Nat) (y : MS), k ≤ 30 ∧ i = .int .i64 (k : Int) ∧ v = .slice (some ⟨g, 0, none⟩) N cp ∧ UP w wr b g N y) (fun _ i _ => 30 - (intOf i).toNat)
  case atStart => exact ⟨0, g, cp, _, by decide, rfl, rfl, HU.out⟩
  case round =>
    obtain ⟨j, g, cp, y, hj, rfl, rfl, hl⟩ := hrel
    clear HU
    by_cases hgo : j < len1 ∧ j < 30
    · obtain ⟨hlt, hlt4⟩ := hgo
      rcases HAc.out.ch hl.l.ch with h0 | ⟨ga, off, rfl, hcc⟩
      · exfalso; omega
      · obtain ⟨K, P, A, M, v5, le, ca, q0, q1, q2, q3, q4, hA, hlc, -, l5, hl1, hl2⟩ := hcc j hlt
        have hlt' : (j : Int) < (len1 : Int) := by omega
        have C1 := Lib.hid (hl.do cp (K := K) (P := P) (M := M) hA hlc hl1 hl2)
        clear hl hcc hA hlc hl1 hl2
        go_wp2_with fail
        with_reducible refine C1.out.mono ?_
        rintro e w3 ⟨g2, cp2, rfl, y2, h2⟩
        have H2 := Lib.hid h2
        clear h2 C1 q0 q1 q2 q3 q4
        go_wp2_with fail
        go_roundw
        case rel => exact ⟨j + 1, g2, cp2, y2, by omega, by go_num, rfl, H2.out⟩
        case measure => simp [intOf]; omega
    · have hcond : ((j : Int) < (len1 : Int) ∧ ¬ (j : Int) < 30) ∨ ¬ (j : Int) < (len1 : Int) := by
        by_cases hkn : (j : Int) < (len1 : Int)
        · exact .inl ⟨hkn, by omega⟩
        · exact .inr hkn
      have HL := Lib.hid hl
      clear hgo hl hj
      rcases hcond with ⟨hc1, hc2⟩ | hc1
      all_goals
        have hzw : ∀ {u : Int}, (u == u) = true := by simp
        cases out
        · by_cases hk : 0 ≤ a4 ∧ a4 ≤ 64
          · obtain ⟨k4, rfl⟩ : ∃ k : Nat, a4 = (k : Int) := ⟨a4.toNat, by omega⟩
            have hk64 : k4 ≤ 64 := by omega
            have C := Lib.hid (in_ok hr3.2 hk64 wr)
            have d1 : ¬ 64 < k4 := by omega
            have d2 : decide ((k4 : Int) > 64) = false := decide_eq_false (by omega)
            have d3 : ¬ (64 : Int) < (k4 : Int) := by omega
            clear hk
            go_wp2_with fail
            with_reducible refine C.out.mono ?_
            rintro e w2 ⟨c, rfl, hcc, hch⟩
            obtain ⟨X, hX⟩ : ∃ X, X = w2.heap.size := ⟨_, rfl⟩
            obtain ⟨L, hL⟩ : ∃ L, L = wr.heap.size := ⟨_, rfl⟩
            have hal : Ch [] w2 (w2.alloc (.cells #[.bool false, .bool false, .bool false, .int .i64 a3, .int .i64 (k4 : Int), .int .i64 0, .int .i64 0, .slice none 0 0] 40)) := (Ch.refl _ _).alloc _
            rw [← hL] at hcc
            have HP0 := Lib.hid (show PX w (w2.alloc (.cells #[.bool false, .bool false, .bool false, .int .i64 a3, .int .i64 (k4 : Int), .int .i64 0, .int .i64 0, .slice none 0 0] 40)) b g N y L X c (CZ.inn a3 k4) X none 0 from
              PX.start HL.out (hch.trans hal) (hcc.foreign hal (by rw [hX]; exact Nat.le_refl _) (by rw [hX]; simp)) (by rw [hL]; exact Nat.le_refl _) (by rw [hX]; exact BZ.inn w2 a3 k4 _) (by rw [hX]; exact hch.size) (by rw [hX]; have := hcc.lt; omega) (.inr rfl) (.inl rfl) (fun q => absurd rfl q))
            have HX := Lib.hid hX
            clear hcc hch hal hX hL C
            go_wp2_with fail
            rw [← HX.out]
            go_loopw [17, 22] (fun v i wr => ∃ (k g cp : Nat) (y : MS) (z : CZ) (v' : Option Addr) (cap' : Nat), k ≤ 30 ∧ i = .int .i64 (k : Int) ∧ v = .slice (some ⟨g, 0, none⟩) N cp ∧ z.t ≤ k ∧ PX w wr b g N y L X c z X v' cap') (fun _ i _ => 30 - (intOf i).toNat)
            case atStart => exact ⟨0, g, cp, y, _, _, _, by decide, rfl, rfl, Nat.zero_le _, HP0.out⟩
            case round =>
            obtain ⟨k, g, cp, y, z, v', cap', hk, rfl, rfl, hzt, hp⟩ := hrel
            have HP := Lib.hid hp
            clear hp HP0 HL
            by_cases hgo : k < len6 ∧ k < 30
            · obtain ⟨hlt, h30⟩ := hgo
              rcases HAA.out with h0 | ⟨ga, off, rfl, hcc⟩
              · exfalso; omega
              obtain ⟨T, Wt, q0, q1, hact⟩ := hcc k hlt
              have Q1 := Lib.hid q1
              have p0 := (HP.out.u.p.l.ch.cell (p := ⟨ga, off + k * 7, none⟩) (cell_lt q0) (by simp)).trans q0
              have hlt' : (k : Int) < (len6 : Int) := by omega
              have HAct := Lib.hid (hact.ch HP.out.u.p.l.ch)
              clear hcc q0 q1 hact
              cases T
              · obtain ⟨K, P, A, M, v5, le, ca, q2, q3, q4, q5, q6, hA, hlc, -, l5, hl1, hl2⟩ := HAct.out
                have C1 := Lib.hid (HP.out.do cp (K := K) (P := P) (M := M) hA hlc hl1 hl2)
                clear hA hlc hl1 hl2 HAct
                go_wp2_with fail
                with_reducible refine C1.out.mono ?_
                rintro e w8 ⟨g2, cp2, rfl, y2, h2⟩
                have H2 := Lib.hid h2
                clear h2 C1 q2 q3 q4 q5 q6 p0
                go_wp2_with fail
                go_roundw
                case rel => exact ⟨k + 1, g2, cp2, y2, z, v', cap', by omega, by go_num, rfl, by omega, H2.out⟩
                case measure => simp [intOf]; omega
              · go_upto_block 3 with (fail)
                refine wp_block ?_
                refine wp_seq_k (fun K1 hK1 => ?_)
                have HK1 := Lib.hid hK1
                clear hK1
                go_wp2_with fail
                refine HK1.out _ _ ?_
                clear HK1
                refine plays_try HP.out HN.out hN256 (by omega) hlt Q1.out ?_
                intro x14 x17 x23 x24 x25 x26 x27 x28 x29 x136 x137 x138 x139 x140 x141 x142 x143 x144 x145 x146 x147 x148 x149 x150 x151 x152 x153 x154 x155 x156 x157 x158 x159 x160 x161 x162 x163 x164 x165 x166 x167 x168 x169 x170 x171 x172 x173 x174 x175 x176 x177 x178 x179 x180 x181 x182 x183 x184 x185 x186 x187 x188 x189 x190 x191 x192 x193 x194 x195 x196 x197 x198 x199 x200 x201 x202 x203 x204 x205 x206 x207 x208 x209 x210 x211 x212 wq ⟨g2, cp2, y2, z2, v2, cap2, h17, hp2, hz2⟩
                subst h17
                have H2 := Lib.hid hp2
                clear hp2 p0
                go_wp2_with fail
                go_roundw
                case rel => exact ⟨k + 1, g2, cp2, y2, z2, v2, cap2, by omega, by go_num, rfl, by omega, H2.out⟩
                case measure => simp [intOf]; omega
            · have hcond : ((k : Int) < (len6 : Int) ∧ ¬ (k : Int) < 30) ∨ ¬ (k : Int) < (len6 : Int) := by
                by_cases hkn : (k : Int) < (len6 : Int)
                · exact .inl ⟨hkn, by omega⟩
                · exact .inr hkn
              have HCh := Lib.hid HP.out.u.p.l.ch
              clear hgo hk hzt HP
              rcases hcond with ⟨hc1, hc2⟩ | hc1
              all_goals
                go_wp2_with fail
                with_reducible refine (known14 _).mono ?_
                rintro e w6 ⟨rfl, hk6⟩
                have HZ := Lib.hid (HCh.out.trans hk6)
                clear hk6
                go_wp2_with fail
                go_ret
                exact ⟨rfl, HZ.out.below _ (by simp) (Nat.le_refl _)⟩
          · have C := Lib.hid (in_bad (a := a3) (m := a4) (by omega) wr)
            have hcb : a4 < 0 ∨ (¬ a4 < 0 ∧ 64 < a4) := by omega
            have HCh := Lib.hid HL.out.l.ch
            clear hk HL
            rcases hcb with hn0 | ⟨hn0, hn1⟩
            all_goals
              go_wp2_with fail
              with_reducible refine C.out.mono ?_
              rintro e w2 ⟨rfl, hch⟩
              have HZ2 := Lib.hid ((HCh.out.trans hch).alloc (.cells #[.bool false, .bool false, .bool false, .int .i64 a3, .int .i64 a4, .int .i64 0, .int .i64 0, .slice none 0 0] 40))
              clear hch C
              go_wp2_with fail
              with_reducible refine (known14 _).mono ?_
              rintro e w6 ⟨rfl, hk6⟩
              have HZ := Lib.hid (HZ2.out.trans hk6)
              clear hk6
              go_wp2_with fail
              go_ret
              exact ⟨rfl, HZ.out.below _ (by simp) (Nat.le_refl _)⟩
        · have C := Lib.hid (in_whatever hr3.2 a4 wr)
          go_wp2_with fail
          with_reducible refine C.out.mono ?_
          rintro e w2 ⟨p2, E2, rfl, hch⟩
          obtain ⟨X, hX⟩ : ∃ X, X = w2.heap.size := ⟨_, rfl⟩
          obtain ⟨w3, hw3⟩ : ∃ W, W = w2.alloc (.cells #[.bool false, .bool false, .bool false, .int .i64 a3, .int .i64 a4, .int .i64 0, .int .i64 0, .slice none 0 0] 40) := ⟨_, rfl⟩
          have hal : Ch [] wr w3 := by rw [hw3]; exact hch.alloc _
          have hb3 : Bx w3 X (.bool false) (.bool false) (.bool false) (.int .i64 a3) (.int .i64 a4) (.int .i64 0) (.int .i64 0) (.slice none 0 0) := by rw [hw3, hX]; exact Bx.new w2 _ _ _ _ _ _ _ _ _
          have hX3 : wr.heap.size ≤ X ∧ X < w3.heap.size := ⟨by rw [hX]; exact hch.size, hb3.lt⟩
          have HX := Lib.hid hX
          have HW3 := Lib.hid hw3
          have hv3 : BytesAt w3 v L1 := (HL1.out.2.ch HL.out.l.ch (by simp)).ch hal (by simp)
          clear hch hX hw3 C
          by_cases hm64 : m ≤ 64
          · have C := Lib.hid (out_ok hr3.2 hm64 HL1.out.1 hv3 HVN.out)
            have d1 : ¬ 64 < m := by omega
            have d2 : decide ((m : Int) > 64) = false := decide_eq_false (by omega)
            have d3 : ¬ (64 : Int) < (m : Int) := by omega
            have HB3 := Lib.hid hb3
            have HAL := Lib.hid hal
            have HX3 := Lib.hid hX3
            have HV3 := Lib.hid hv3
            clear hal hb3 hX3 hv3
            go_wp2_with fail
            rw [← HX.out, ← HW3.out]
            with_reducible refine C.out.mono ?_
            rintro e w4 ⟨c, rfl, hcc, hch⟩
            obtain ⟨L, hL⟩ : ∃ L, L = w3.heap.size := ⟨_, rfl⟩
            rw [← hL] at hcc
            have hb4 := HB3.out.quiet hch
            have e0 := hb4.c0
            have e1 := hb4.c1
            have e2 := hb4.c2
            have e3 := hb4.c3
            have e4 := hb4.c4
            have e5 := hb4.c5
            have e6 := hb4.c6
            have e7 := hb4.c7
            have ef := hb4.fr
            obtain ⟨w5, hw5⟩ : ∃ W, W = st8 w4 X (.bool true) (.bool false) (.bool false) (.int .i64 a3) (.int .i64 (m : Int)) (.int .i64 0) (.int .i64 0) (.slice v m cap) := ⟨_, rfl⟩
            have hs5 : Ch [X] w4 w5 := by rw [hw5]; exact st8_ch _ _ _ _ _ _ _ _ _ _
            have hb5 : Bx w5 X (.bool true) (.bool false) (.bool false) (.int .i64 a3) (.int .i64 (m : Int)) (.int .i64 0) (.int .i64 0) (.slice v m cap) := by rw [hw5]; exact hb4.setAll _ _ _ _ _ _ _ _
            have hlo := HX3.out
            have hcL := hcc.lo
            have hbX : b < wr.heap.size := HL.out.l.u.lt
            have HP0 := Lib.hid (show PX w w5 b g N y L c c (CZ.outn a3 L1) X v cap from
              PX.start HL.out ((HAL.out.trans hch).fresh hs5 (by simpa using hlo.1)) (hcc.ch hs5 (by simp; omega)) (by rw [hL]; exact HAL.out.size) (by have h := hb5; rw [← HL1.out.1] at h; exact h) hlo.1 (by omega) (.inl (by rw [hL]; exact hlo.2)) ((HV3.out.ch hch (by simp)).away hs5 (fun q y e => by have := HL1.out.2.lt q y e; have := HL.out.l.ch.size; simp; omega)) (fun q y e => by have := HL1.out.2.lt q y e; have := HL.out.l.ch.size; have := HBW.out; omega))
            unfold st8 at hw5
            have HW5 := Lib.hid hw5
            clear hcc hch hL hw5 hs5 hb5 hb4 hlo hcL hbX C
            go_wp2_with fail
            rw [← HW5.out]
            clear e0 e1 e2 e3 e4 e5 e6 e7 ef
            go_loopw [17, 22] (fun v i wr => ∃ (k g cp : Nat) (y : MS) (z : CZ) (v' : Option Addr) (cap' : Nat), k ≤ 30 ∧ i = .int .i64 (k : Int) ∧ v = .slice (some ⟨g, 0, none⟩) N cp ∧ z.t ≤ k ∧ PX w wr b g N y L c c z X v' cap') (fun _ i _ => 30 - (intOf i).toNat)
            case atStart => exact ⟨0, g, cp, y, _, _, _, by decide, rfl, rfl, Nat.zero_le _, HP0.out⟩
            case round =>
            obtain ⟨k, g, cp, y, z, v', cap', hk, rfl, rfl, hzt, hp⟩ := hrel
            have HP := Lib.hid hp
            clear hp HP0 HL
            by_cases hgo : k < len6 ∧ k < 30
            · obtain ⟨hlt, h30⟩ := hgo
              rcases HAA.out with h0 | ⟨ga, off, rfl, hcc⟩
              · exfalso; omega
              obtain ⟨T, Wt, q0, q1, hact⟩ := hcc k hlt
              have Q1 := Lib.hid q1
              have p0 := (HP.out.u.p.l.ch.cell (p := ⟨ga, off + k * 7, none⟩) (cell_lt q0) (by simp)).trans q0
              have hlt' : (k : Int) < (len6 : Int) := by omega
              have HAct := Lib.hid (hact.ch HP.out.u.p.l.ch)
              clear hcc q0 q1 hact
              cases T
              · obtain ⟨K, P, A, M, v5, le, ca, q2, q3, q4, q5, q6, hA, hlc, -, l5, hl1, hl2⟩ := HAct.out
                have C1 := Lib.hid (HP.out.do cp (K := K) (P := P) (M := M) hA hlc hl1 hl2)
                clear hA hlc hl1 hl2 HAct
                go_wp2_with fail
                with_reducible refine C1.out.mono ?_
                rintro e w8 ⟨g2, cp2, rfl, y2, h2⟩
                have H2 := Lib.hid h2
                clear h2 C1 q2 q3 q4 q5 q6 p0
                go_wp2_with fail
                go_roundw
                case rel => exact ⟨k + 1, g2, cp2, y2, z, v', cap', by omega, by go_num, rfl, by omega, H2.out⟩
                case measure => simp [intOf]; omega
              · go_upto_block 3 with (fail)
                refine wp_block ?_
                refine wp_seq_k (fun K1 hK1 => ?_)
                have HK1 := Lib.hid hK1
                clear hK1
                go_wp2_with fail
                refine HK1.out _ _ ?_
                clear HK1
                refine plays_try HP.out HN.out hN256 (by omega) hlt Q1.out ?_
                intro x14 x17 x23 x24 x25 x26 x27 x28 x29 x136 x137 x138 x139 x140 x141 x142 x143 x144 x145 x146 x147 x148 x149 x150 x151 x152 x153 x154 x155 x156 x157 x158 x159 x160 x161 x162 x163 x164 x165 x166 x167 x168 x169 x170 x171 x172 x173 x174 x175 x176 x177 x178 x179 x180 x181 x182 x183 x184 x185 x186 x187 x188 x189 x190 x191 x192 x193 x194 x195 x196 x197 x198 x199 x200 x201 x202 x203 x204 x205 x206 x207 x208 x209 x210 x211 x212 wq ⟨g2, cp2, y2, z2, v2, cap2, h17, hp2, hz2⟩
                subst h17
                have H2 := Lib.hid hp2
                clear hp2 p0
                go_wp2_with fail
                go_roundw
                case rel => exact ⟨k + 1, g2, cp2, y2, z2, v2, cap2, by omega, by go_num, rfl, by omega, H2.out⟩
                case measure => simp [intOf]; omega
            · have hcond : ((k : Int) < (len6 : Int) ∧ ¬ (k : Int) < 30) ∨ ¬ (k : Int) < (len6 : Int) := by
                by_cases hkn : (k : Int) < (len6 : Int)
                · exact .inl ⟨hkn, by omega⟩
                · exact .inr hkn
              have HCh := Lib.hid HP.out.u.p.l.ch
              clear hgo hk hzt HP
              rcases hcond with ⟨hc1, hc2⟩ | hc1
              all_goals
                go_wp2_with fail
                with_reducible refine (known14 _).mono ?_
                rintro e w6 ⟨rfl, hk6⟩
                have HZ := Lib.hid (HCh.out.trans hk6)
                clear hk6
                go_wp2_with fail
                go_ret
                exact ⟨rfl, HZ.out.below _ (by simp) (Nat.le_refl _)⟩
          · have C := Lib.hid (out_bad (a := a3) (n := m) (by omega) v cap w3)
            have d1 : 64 < m := by omega
            have d2 : decide ((m : Int) > 64) = true := decide_eq_true (by omega)
            have d3 : (64 : Int) < (m : Int) := by omega
            have HCh := Lib.hid HL.out.l.ch
            have HAL := Lib.hid hal
            have HB3 := Lib.hid hb3
            have HX3 := Lib.hid hX3
            clear hal hb3 hX3 hv3 HL
            go_wp2_with fail
            rw [← HX.out, ← HW3.out]
            with_reducible refine C.out.mono ?_
            rintro e w4 ⟨rfl, hch⟩
            have hb4 := HB3.out.quiet hch
            have e0 := hb4.c0
            have e1 := hb4.c1
            have e2 := hb4.c2
            have e3 := hb4.c3
            have e4 := hb4.c4
            have e5 := hb4.c5
            have e6 := hb4.c6
            have e7 := hb4.c7
            have ef := hb4.fr
            obtain ⟨w5, hw5⟩ : ∃ W, W = st8 w4 X (.bool true) (.bool false) (.bool false) (.int .i64 a3) (.int .i64 (m : Int)) (.int .i64 0) (.int .i64 0) (.slice v m cap) := ⟨_, rfl⟩
            have hs5 : Ch [X] w4 w5 := by rw [hw5]; exact st8_ch _ _ _ _ _ _ _ _ _ _
            have HZ2 := Lib.hid (((HCh.out.trans HAL.out).trans hch).fresh hs5 (by have := HX3.out.1; have := HCh.out.size; simp; omega))
            unfold st8 at hw5
            have HW5 := Lib.hid hw5
            clear hch hw5 hs5 hb4 C
            go_wp2_with fail
            rw [← HW5.out]
            with_reducible refine (known14 _).mono ?_
            rintro e w6 ⟨rfl, hk6⟩
            have HZ := Lib.hid (HZ2.out.trans hk6)
            clear hk6
            go_wp2_with fail
            go_ret
            exact ⟨rfl, HZ.out.below _ (by simp) (Nat.le_refl _)⟩
end Go.Proofs.Ytcdolkbljheniaa
