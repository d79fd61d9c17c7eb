/-
  CopyOuts: a copy out changes its piece alone, or nothing.
-/
import Derived.Test.YtcdolkbljheniaaCpH
namespace Go.Proofs.Ytcdolkbljheniaa
open Go.RowKit

/-- A byte of a slice. -/
theorem BytesAt.at {w : World} {a : Option Addr} {l : List Int} (h : BytesAt w a l) {i : Nat} (hi : i < l.length) : ∃ b off, a = some ⟨b, off, none⟩ ∧ w.cell? ⟨b, off + i, none⟩ = some (.int .u8 l[i]) := by
  rcases h with rfl | ⟨b, off, rfl, hk⟩
  · simp at hi
  · exact ⟨b, off, rfl, hk i hi⟩
theorem peek_at {w : World} {a : Option Addr} {f : Nat → Int} {N i : Nat} (h : BytesAt w a (peekL f 0 N)) (hi : i < N) : ∃ b off, a = some ⟨b, off, none⟩ ∧ w.cell? ⟨b, off + i, none⟩ = some (.int .u8 (f i)) := by
  obtain ⟨b, off, e, hc⟩ := h.at (i := i) (by rw [peekL_len]; exact hi)
  refine ⟨b, off, e, hc.trans ?_⟩
  have := peekL_at f 0 N hi
  rw [List.getElem?_eq_getElem (by rw [peekL_len]; exact hi), Nat.zero_add] at this
  rw [Option.some.inj this]

set_option maxRecDepth 100000 in
set_option maxHeartbeats 4000000 in
theorem outs_law {a0 a1 : Int} (wf1 : (Lit.int .i64 a1).wf = true) (v : Option Addr) (len cap : Nat) (a : Option Addr) (len3 cap3 : Nat) (wait : Bool) (w : World) (hlc : len ≤ cap) (hvn : v = none → cap = 0) (hlb : ∃ l : List Int, l.length = len ∧ BytesAt w v l) (ha : ActsAt w a len3) :
    Calls Try.prog 5 #[.int .i64 a0, .int .i64 a1, .slice v len cap, .slice a len3 cap3, .bool wait] w fun e w' => e = .returned (.bool true) ∧ Below w.heap.size w w' := by
  have hr1 := i64_of wf1
  have u0 : 0 ≤ IntKind.u64.wrap a0 ∧ IntKind.u64.wrap a0 < 18446744073709551616 := by rw [IntKind.wrap_u64]; omega
  generalize hg0 : IntKind.u64.wrap a0 = U0 at u0
  obtain ⟨u00, u01⟩ := u0
  obtain ⟨n, hn0, h1, h16⟩ : ∃ n : Nat, 1 + U0 % 16 = (n : Int) ∧ 1 ≤ n ∧ n ≤ 16 := ⟨(1 + U0 % 16).toNat, by omega⟩
  obtain ⟨N, hN⟩ : ∃ N, 16 * n = N := ⟨_, rfl⟩
  have hN256 : N ≤ 256 := by omega
  have hw16 : IntKind.i64.wrap (16 * (n : Int)) = (N : Int) := by rw [IntWalk.i64_in _ (by omega)]; omega
  -- the bytes
  obtain ⟨l, hl, hb⟩ := hlb
  obtain ⟨m, hm⟩ : ∃ m, m = min len 64 := ⟨_, rfl⟩
  have hmin1 : (if (64 : Int) < (len : Int) then (64 : Int) else (len : Int)) = (m : Int) := by split <;> omega
  have hmc1 : (m : Int) ≤ (cap : Int) := by omega
  obtain ⟨L1, hL1⟩ : ∃ L, L = l.take m := ⟨_, rfl⟩
  have HL1 := Lib.hid (show L1.length = m ∧ BytesAt w v L1 from ⟨by rw [hL1, List.length_take]; omega, by rw [hL1]; exact hb.take m⟩)
  have hm64 : m ≤ 64 := by omega
  have HVN := Lib.hid hvn
  have HAc := Lib.hid ha
  obtain ⟨b, hb⟩ : ∃ b, w.heap.size = b := ⟨_, rfl⟩
  have HNew := Lib.hid (UL.new w (Ch.refl [] w) h1 h16 hb)
  have HN := Lib.hid hN
  clear hb hN hm hL1 hl hlc ha wf1 hvn
  go_enter Try.func5, Try.ntmps5
  go_wp2_with fail
  clear hn0 hg0 u00 u01
  with_reducible refine HNew.out.mono ?_
  rintro e w1 ⟨rfl, hu1, -, -⟩
  have C := Lib.hid (hu1.outn (a := a1) hr1.2 hm64 (cap := cap) HL1.out.1 (HL1.out.2.ch hu1.ch (by simp)) HVN.out)
  clear hu1 HNew
  go_wp2_with fail
  with_reducible refine C.out.mono ?_
  rintro e w2 ⟨c, rfl, hu2, -⟩
  clear C
  obtain ⟨L, hL⟩ : ∃ L, L = w1.heap.size := ⟨_, rfl⟩
  rw [← hL] at hu2
  obtain ⟨z, hz⟩ : ∃ z, z = CZ.outn a1 L1 := ⟨_, rfl⟩
  rw [← hz] at hu2
  have HZ := Lib.hid (show z.out = true ∧ z.over = false ∧ z.bs = L1 ∧ z.n = m ∧ z.a = a1 ∧ z.t = 0 from by rw [hz]; exact ⟨rfl, rfl, rfl, HL1.out.1, rfl, rfl⟩)
  have C := Lib.hid (UX.answer hu2 HN.out)
  clear hu2 hL hz
  go_wp2_with fail
  with_reducible refine C.out.mono ?_
  rintro e w3 ⟨g, cp, rfl, hux⟩
  have HU := Lib.hid hux
  clear hux C
  go_wp2_with fail
  go_loopw [15, 16] (fun v i wr => ∃ (k g cp : Nat) (y : MS), k ≤ 30 ∧ i = .int .i64 (k : Int) ∧ v = .slice (some ⟨g, 0, none⟩) N cp ∧ UX w wr b g N y L c c z) (fun _ i _ => 30 - (intOf i).toNat)
  case atStart => exact ⟨0, g, cp, _, by decide, rfl, rfl, HU.out⟩
  case round =>
    obtain ⟨j, g, cp, y, hj, rfl, rfl, hl⟩ := hrel
    clear HU
    by_cases hgo : j < len3 ∧ j < 30
    · obtain ⟨hlt, hlt4⟩ := hgo
      rcases HAc.out.ch hl.p.l.ch with h0 | ⟨ga, off, rfl, hcc⟩
      · exfalso; omega
      · obtain ⟨K, P, A, M, v5, le, ca, q0, q1, q2, q3, q4, hA, hlc, -, l5, hl1, hl2⟩ := hcc j hlt
        have hlt' : (j : Int) < (len3 : Int) := by omega
        have C1 := Lib.hid (hl.do cp (K := K) (P := P) (M := M) hA hlc hl1 hl2)
        clear hl hcc hA hlc hl1 hl2
        go_wp2_with fail
        with_reducible refine C1.out.mono ?_
        rintro e w3 ⟨g2, cp2, rfl, y2, h2⟩
        have H2 := Lib.hid h2
        clear h2 C1 q0 q1 q2 q3 q4
        go_wp2_with fail
        go_roundw
        case rel => exact ⟨j + 1, g2, cp2, y2, by omega, by go_num, rfl, H2.out⟩
        case measure => simp [intOf]; omega
    · have hcond : ((j : Int) < (len3 : Int) ∧ ¬ (j : Int) < 30) ∨ ¬ (j : Int) < (len3 : Int) := by
        by_cases hkn : (j : Int) < (len3 : Int)
        · exact .inl ⟨hkn, by omega⟩
        · exact .inr hkn
      have HL := Lib.hid hl
      clear hgo hl hj
      rcases hcond with ⟨hc1, hc2⟩ | hc1
      all_goals
        have C := Lib.hid (HL.out.uc.peek HL.out.p.hN 0 (N : Int) (by decide) (e := 0) (piece_if ⟨by omega, by omega, by omega⟩) (l := peekL y.b 0 N) (by rw [if_pos ⟨by omega, by omega, by omega⟩]; rfl) (k := N) (peekL_len _ _ _))
        go_wp2_with fail
        with_reducible refine C.out.mono ?_
        rintro e w4 ⟨v4, cap4, rfl, hb4, hv4, h4, -⟩
        obtain ⟨E, z', y', hR, hbs, hyn, hcase⟩ := out_try z y wait HZ.out.1 HZ.out.2.1 (by rw [HZ.out.2.2.1, HZ.out.2.2.2.1]; exact HL1.out.1)
        have HHN := Lib.hid (show 16 * y.n = N from HL.out.p.hN)
        have C := Lib.hid (h4.try (E := E) (z' := z') (x' := y') HZ.out.2.1 (by rw [HZ.out.2.2.2.2.2]; decide) wait (by rw [hR]) (by rw [hR]) (by rw [hR]))
        have HB4 := Lib.hid hb4
        have HV4 := Lib.hid hv4
        have HY := Lib.hid (show 16 * y'.n = N by rw [hyn]; exact HHN.out)
        have HS := Lib.hid (show z'.bs = L1 by rw [hbs]; exact HZ.out.2.2.1)
        have HCase := Lib.hid hcase
        clear hb4 hv4 h4 HL hR hbs hyn hcase hc1
        go_wp2_with fail
        with_reducible refine C.out.mono ?_
        rintro e w5 ⟨rfl, h5, hc5⟩
        have HB5 := Lib.hid (HB4.out.ch hc5 HV4.out)
        have C := Lib.hid (h5.peek HY.out 0 (N : Int) (by decide) (e := 0) (piece_if ⟨by omega, by omega, by omega⟩) (l := peekL y'.b 0 N) (by rw [if_pos ⟨by omega, by omega, by omega⟩]; rfl) (k := N) (peekL_len _ _ _))
        clear hc5 h5 HB4 HV4
        go_wp2_with fail
        with_reducible refine C.out.mono ?_
        rintro e w6 ⟨v6, cap6, rfl, hb6, -, h6, hc6⟩
        have HB6 := Lib.hid hb6
        have HB6' := Lib.hid (HB5.out.ch hc6 (by simp))
        have C := Lib.hid (h6.bytes (l := L1) HS.out (k := m) HL1.out.1)
        clear hb6 h6 hc6 HB5
        go_wp2_with fail
        with_reducible refine C.out.mono ?_
        rintro e w7 ⟨v7, cap7, rfl, hb7, h7, hc7⟩
        have HB7 := Lib.hid (HB6.out.ch hc7 (by simp))
        have HB7' := Lib.hid (HB6'.out.ch hc7 (by simp))
        have C := Lib.hid (same_any cap7 cap (n := m) HL1.out.1 (by omega) hb7 (HL1.out.2.ch h7.u.ch (by simp)))
        have H7 := Lib.hid h7
        clear hb7 h7 hc7 HB6 HB6'
        go_wp2_with fail
        with_reducible refine C.out.mono ?_
        rintro e w8 ⟨rfl, hc8⟩
        have H8 := Lib.hid (H7.out.quiet hc8)
        have HB8 := Lib.hid (HB7.out.ch hc8 (by simp))
        have HB8' := Lib.hid (HB7'.out.ch hc8 (by simp))
        have HL8 := Lib.hid (HL1.out.2.ch H8.out.u.ch (by simp))
        clear hc8 H7 HB7 HB7' C
        go_wp2_with fail
        rcases HCase.out with ⟨rfl, hin, hyb, hov⟩ | ⟨rfl, rfl, hyb, hov⟩ | ⟨rfl, hyb, hov⟩
        · obtain ⟨ha1, ha2, ha3⟩ : wIn (16 * y.n) a1 m := by have := hin; rwa [HZ.out.2.2.2.2.1, HZ.out.2.2.2.1] at this
          obtain ⟨k, rfl⟩ : ∃ k : Nat, a1 = (k : Int) := ⟨a1.toNat, by omega⟩
          have hyb : y'.b = pokeF y.b k L1 := by rw [hyb, HZ.out.2.2.2.2.1, HZ.out.2.2.1]; rfl
          have hkN : k + m ≤ N := by have := HHN.out; omega
          clear ha1 ha2 ha3 hin HCase
          go_loopw [22] (fun i wr => wr = w8 ∧ ∃ j : Nat, i = .int .i64 (j : Int) ∧ j ≤ N) (fun i _ => N - (intOf i).toNat)
          case atStart => exact ⟨rfl, 0, rfl, Nat.zero_le _⟩
          case round =>
          obtain ⟨rfl, j, rfl, hj⟩ := hrel
          by_cases hlt : j < N
          · have hlt' : (j : Int) < (N : Int) := by omega
            obtain ⟨g1, o1, rfl, c1⟩ := peek_at HB8'.out hlt
            obtain ⟨g2, o2, rfl, c2⟩ := peek_at HB8.out hlt
            rw [hyb] at c2
            by_cases hjk : j < k
            · have hge : ¬ (k ≤ j) := by omega
              have hge' : decide ((j : Int) ≥ (k : Int)) = false := decide_eq_false (by omega)
              rw [pokeF_out _ _ _ (.inl hjk)] at c2
              go_wp2_with fail
              go_roundw
              case rel => exact ⟨by trivial, j + 1, by go_num, by omega⟩
              case measure => simp [intOf]; omega
            · have hge : k ≤ j := by omega
              have hge' : decide ((j : Int) ≥ (k : Int)) = true := decide_eq_true (by omega)
              obtain ⟨d, hd⟩ : ∃ d, j = k + d := ⟨j - k, by omega⟩
              have hsub : IntKind.i64.wrap ((j : Int) - (k : Int)) = (d : Int) := by rw [IntWalk.i64_in _ (by omega)]; omega
              by_cases hd2 : d < m
              · have hd2' : (d : Int) < (m : Int) := by omega
                obtain ⟨g3, o3, rfl, c3⟩ := HL8.out.at (i := d) (by rw [HL1.out.1]; exact hd2)
                have ez : pokeF y.b k L1 j = L1[d]'(by rw [HL1.out.1]; exact hd2) := by
                  rw [hd]
                  exact pokeF_in _ _ _ (by rw [HL1.out.1]; exact hd2)
                generalize L1[d]'(by rw [HL1.out.1]; exact hd2) = zz at c3 ez
                rw [ez] at c2
                have HD := Lib.hid hd
                clear ez hd hjk
                go_wp2_with fail
                go_roundw
                case rel => exact ⟨by trivial, j + 1, by go_num, by omega⟩
                case measure => simp [intOf]; omega
              · rw [pokeF_out _ _ _ (.inr (by rw [HL1.out.1]; omega))] at c2
                have HD := Lib.hid hd
                clear hd hjk
                go_wp2_with fail
                go_roundw
                case rel => exact ⟨by trivial, j + 1, by go_num, by omega⟩
                case measure => simp [intOf]; omega
          · obtain rfl : j = N := by omega
            have H8o := Lib.hid (H8.out.over hov)
            have HC8 := Lib.hid H8.out.u.ch
            clear hlt hj
            go_wp2_with fail
            with_reducible refine (known14 _).mono ?_
            rintro e w9 ⟨rfl, hk9⟩
            have HZ9 := Lib.hid (HC8.out.trans hk9)
            have C := Lib.hid ((H8.out.quiet hk9).over hov)
            clear hk9 H8o HC8
            go_wp2_with fail
            with_reducible refine C.out.mono ?_
            rintro e w' ⟨rfl, rfl⟩
            clear C
            go_wp2_with fail
            go_ret
            exact ⟨rfl, HZ9.out.below _ (by simp) (Nat.le_refl _)⟩
        · clear HCase
          go_loopw [22] (fun i wr => wr = w8 ∧ ∃ j : Nat, i = .int .i64 (j : Int) ∧ j ≤ N) (fun i _ => N - (intOf i).toNat)
          case atStart => exact ⟨rfl, 0, rfl, Nat.zero_le _⟩
          case round =>
          obtain ⟨rfl, j, rfl, hj⟩ := hrel
          by_cases hlt : j < N
          · have hlt' : (j : Int) < (N : Int) := by omega
            obtain ⟨g1, o1, rfl, c1⟩ := peek_at HB8'.out hlt
            obtain ⟨g2, o2, rfl, c2⟩ := peek_at HB8.out hlt
            rw [hyb] at c2
            go_wp2_with fail
            go_roundw
            case rel => exact ⟨by trivial, j + 1, by go_num, by omega⟩
            case measure => simp [intOf]; omega
          · obtain rfl : j = N := by omega
            have H8o := Lib.hid (H8.out.over hov)
            have HC8 := Lib.hid H8.out.u.ch
            clear hlt hj
            go_wp2_with fail
            with_reducible refine (known14 _).mono ?_
            rintro e w9 ⟨rfl, hk9⟩
            have HZ9 := Lib.hid (HC8.out.trans hk9)
            have C := Lib.hid ((H8.out.quiet hk9).over hov)
            clear hk9 H8o HC8
            go_wp2_with fail
            with_reducible refine C.out.mono ?_
            rintro e w' ⟨rfl, rfl⟩
            clear C
            go_wp2_with fail
            go_ret
            exact ⟨rfl, HZ9.out.below _ (by simp) (Nat.le_refl _)⟩
        · clear HCase
          go_loopw [22] (fun i wr => wr = w8 ∧ ∃ j : Nat, i = .int .i64 (j : Int) ∧ j ≤ N) (fun i _ => N - (intOf i).toNat)
          case atStart => exact ⟨rfl, 0, rfl, Nat.zero_le _⟩
          case round =>
          obtain ⟨rfl, j, rfl, hj⟩ := hrel
          by_cases hlt : j < N
          · have hlt' : (j : Int) < (N : Int) := by omega
            obtain ⟨g1, o1, rfl, c1⟩ := peek_at HB8'.out hlt
            obtain ⟨g2, o2, rfl, c2⟩ := peek_at HB8.out hlt
            rw [hyb] at c2
            go_wp2_with fail
            go_roundw
            case rel => exact ⟨by trivial, j + 1, by go_num, by omega⟩
            case measure => simp [intOf]; omega
          · obtain rfl : j = N := by omega
            have H8o := Lib.hid (H8.out.over hov)
            have HC8 := Lib.hid H8.out.u.ch
            clear hlt hj
            go_wp2_with fail
            with_reducible refine (known14 _).mono ?_
            rintro e w9 ⟨rfl, hk9⟩
            have HZ9 := Lib.hid (HC8.out.trans hk9)
            have C := Lib.hid ((H8.out.quiet hk9).over hov)
            clear hk9 H8o HC8
            go_wp2_with fail
            with_reducible refine C.out.mono ?_
            rintro e w' ⟨rfl, rfl⟩
            clear C
            go_wp2_with fail
            go_ret
            exact ⟨rfl, HZ9.out.below _ (by simp) (Nat.le_refl _)⟩
end Go.Proofs.Ytcdolkbljheniaa
