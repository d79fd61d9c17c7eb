/-
  UserTouches: a piece is touched as its bytes are.
-/
import Derived.Test.YtgiacoclddoboaaUsPlays
namespace Go.Proofs.Ytgiacoclddoboaa
open Go.RowKit

set_option maxRecDepth 100000 in
set_option maxHeartbeats 4000000 in
theorem touches_law {a0 a2 a3 : Int} (a : Option Addr) (len cap : Nat) (w : World) (ha : ActsAt w a len) :
    Calls Try.prog 5 #[.int .i64 a0, .slice a len cap, .int .i64 a2, .int .i64 a3] w fun e w' => e = .returned (.bool true) ∧ Below w.heap.size w w' := by
  have u0 : 0 ≤ IntKind.u64.wrap a0 ∧ IntKind.u64.wrap a0 < 18446744073709551616 := by rw [IntKind.wrap_u64]; omega
  have u2 : 0 ≤ IntKind.u64.wrap a2 ∧ IntKind.u64.wrap a2 < 18446744073709551616 := by rw [IntKind.wrap_u64]; omega
  have u3 : 0 ≤ IntKind.u64.wrap a3 ∧ IntKind.u64.wrap a3 < 18446744073709551616 := by rw [IntKind.wrap_u64]; omega
  generalize hg0 : IntKind.u64.wrap a0 = U0 at u0
  generalize hg2 : IntKind.u64.wrap a2 = U2 at u2
  generalize hg3 : IntKind.u64.wrap a3 = U3 at u3
  obtain ⟨u00, u01⟩ := u0
  obtain ⟨n, hn0, h1, h16⟩ : ∃ n : Nat, 1 + U0 % 16 = (n : Int) ∧ 1 ≤ n ∧ n ≤ 16 := ⟨(1 + U0 % 16).toNat, by omega⟩
  obtain ⟨N, hN⟩ : ∃ N, 16 * n = N := ⟨_, rfl⟩
  have hN256 : N ≤ 256 := by omega
  have hw16 : IntKind.i64.wrap (16 * (n : Int)) = (N : Int) := by rw [IntWalk.i64_in _ (by omega)]; omega
  -- how many, and from where on
  obtain ⟨D3, hD3⟩ : ∃ D : Nat, D = N + 1 := ⟨_, rfl⟩
  have hw3 : IntKind.i64.wrap ((N : Int) + 1) = (D3 : Int) := by rw [IntWalk.i64_in _ (by omega)]; omega
  have hv3 : IntKind.u64.wrap (D3 : Int) = (D3 : Int) := by rw [IntKind.wrap_u64]; omega
  have hd3 : ¬ (D3 : Int) = 0 := by omega
  obtain ⟨m, hm⟩ : ∃ m : Nat, U3 % (D3 : Int) = (m : Int) := ⟨(U3 % (D3 : Int)).toNat, by have := Int.emod_nonneg U3 hd3; omega⟩
  have hmN : m ≤ N := by have := Int.emod_lt_of_pos U3 (show (0 : Int) < (D3 : Int) by omega); omega
  have ht3 : Int.tmod U3 (D3 : Int) = (m : Int) := by rw [Int.tmod_eq_emod_of_nonneg u3.1]; exact hm
  obtain ⟨e2, he2⟩ : ∃ D : Nat, D = N - m := ⟨_, rfl⟩
  obtain ⟨D2, hD2⟩ : ∃ D : Nat, D = e2 + 1 := ⟨_, rfl⟩
  have hx2 : IntKind.i64.wrap ((N : Int) - (m : Int)) = (e2 : Int) := by rw [IntWalk.i64_in _ (by omega)]; omega
  have hw2 : IntKind.i64.wrap ((e2 : Int) + 1) = (D2 : Int) := by rw [IntWalk.i64_in _ (by omega)]; omega
  have hv2 : IntKind.u64.wrap (D2 : Int) = (D2 : Int) := by rw [IntKind.wrap_u64]; omega
  have hd2 : ¬ (D2 : Int) = 0 := by omega
  obtain ⟨k, hk⟩ : ∃ k : Nat, U2 % (D2 : Int) = (k : Int) := ⟨(U2 % (D2 : Int)).toNat, by have := Int.emod_nonneg U2 hd2; omega⟩
  have hkm : k + m ≤ N := by have := Int.emod_lt_of_pos U2 (show (0 : Int) < (D2 : Int) by omega); omega
  have ht2 : Int.tmod U2 (D2 : Int) = (k : Int) := by rw [Int.tmod_eq_emod_of_nonneg u2.1]; exact hk
  have hzm : IntKind.i64.wrap ((m : Int) - 1) = (m : Int) - 1 := IntWalk.i64_in _ (by omega)
  have HAc := Lib.hid ha
  obtain ⟨b, hb⟩ : ∃ b, w.heap.size = b := ⟨_, rfl⟩
  have HNew := Lib.hid (UL.new w (Ch.refl [] w) h1 h16 hb)
  have HN := Lib.hid hN
  clear ha hb hN hm hk u2 u3 he2 hD2 hD3
  go_enter Try.func5, Try.ntmps5
  go_wp2_with fail
  clear hn0 hg0 u00 u01 h1 h16
  with_reducible refine HNew.out.mono ?_
  rintro e w1 ⟨rfl, h1, -, -⟩
  have C2 := Lib.hid (h1.answer HN.out)
  clear h1 HNew
  go_wp2_with fail
  with_reducible refine C2.out.mono ?_
  rintro e w2 ⟨g, cp, rfl, hup⟩
  have HU := Lib.hid hup
  clear hup C2
  go_wp2_with fail
  go_loopw [11, 12] (fun v i wr => ∃ (k g cp : Nat) (y : MS), k ≤ 40 ∧ i = .int .i64 (k : Int) ∧ v = .slice (some ⟨g, 0, none⟩) N cp ∧ UP w wr b g N y) (fun _ i _ => 40 - (intOf i).toNat)
  case atStart => exact ⟨0, g, cp, _, by decide, rfl, rfl, HU.out⟩
  case round =>
    obtain ⟨j, g, cp, y, hj, rfl, rfl, hl⟩ := hrel
    clear HU
    by_cases hgo : j < len ∧ j < 40
    · obtain ⟨hlt, hlt4⟩ := hgo
      rcases HAc.out.ch hl.l.ch with h0 | ⟨ga, off, rfl, hcc⟩
      · exfalso; omega
      · obtain ⟨K, P, A, M, v, le, ca, q0, q1, q2, q3, q4, hA, hlc, -, l, hl1, hl2⟩ := hcc j hlt
        have hlt' : (j : Int) < (len : Int) := by omega
        have C1 := Lib.hid (do_any (cap := cp) hl K P A M v le ca hA hlc hl1 hl2)
        clear hl hcc hA hlc hl1 hl2
        go_wp2_with fail
        with_reducible refine C1.out.mono ?_
        rintro e w3 ⟨g2, cp2, rfl, y2, h2⟩
        have H2 := Lib.hid h2
        clear h2 C1 q0 q1 q2 q3 q4
        go_wp2_with fail
        go_roundw
        case rel => exact ⟨j + 1, g2, cp2, y2, by omega, by go_num, rfl, H2.out⟩
        case measure => simp [intOf]; omega
    · have hcond : ((j : Int) < (len : Int) ∧ ¬ (j : Int) < 40) ∨ ¬ (j : Int) < (len : Int) := by
        by_cases hkn : (j : Int) < (len : Int)
        · exact .inl ⟨hkn, by omega⟩
        · exact .inr hkn
      have HL := Lib.hid hl
      clear hgo hl hj
      rcases hcond with ⟨hc1, hc2⟩ | hc1
      all_goals
        go_wp2_with fail
        clear hc1
        go_loopw [13, 14, 15] (fun f e i wq => wq = wr ∧ ∃ (z P Q : Int), f = .int .i64 P ∧ e = .int .i64 Q ∧ i = .int .i64 z ∧ -1 ≤ z ∧ z < (m : Int) ∧ tch (byPage y.s) (k + (z + 1).toNat) (m - (z + 1).toNat) = (P, Q)) (fun _ _ i _ => (intOf i + 1).toNat)
        case atStart => exact ⟨rfl, (m : Int) - 1, 0, 0, rfl, rfl, rfl, by omega, by omega, by rw [show ((m : Int) - 1 + 1).toNat = m by omega, Nat.sub_self, tch_zero]⟩
        case round =>
          obtain ⟨rfl, z, P, Q, rfl, rfl, rfl, hz1, hz2, hPQ⟩ := hrel
          have HPQ := Lib.hid hPQ
          clear hPQ
          by_cases hz : 0 ≤ z
          · obtain ⟨t, rfl⟩ : ∃ t : Nat, z = (t : Int) := ⟨z.toNat, by omega⟩
            obtain ⟨c, hc⟩ : ∃ c, c = k + t := ⟨_, rfl⟩
            have hadd : IntKind.i64.wrap ((k : Int) + (t : Int)) = (c : Int) := by rw [IntWalk.i64_in _ (by omega)]; omega
            have hsub : IntKind.i64.wrap ((t : Int) - 1) = (t : Int) - 1 := IntWalk.i64_in _ (by omega)
            have hge : decide ((t : Int) ≥ 0) = true := decide_eq_true (by omega)
            obtain ⟨⟨p, q⟩, hpq⟩ : ∃ r : Int × Int, tch (byPage y.s) c 1 = r := ⟨_, rfl⟩
            have C1 := Lib.hid (HL.out.l.touch (a := (c : Int)) (m := 1) (p := p) (q := q) (by omega) (by
              have hN := HL.out.hN
              unfold touchR
              rw [if_pos ⟨by omega, by omega, by omega⟩, Int.toNat_natCast]
              exact hpq))
            have hstep := tch_cons (byPage y.s) c (m - (t + 1))
            rw [hpq, show m - (t + 1) + 1 = m - t by omega, show c + 1 = k + ((t : Int) + 1).toNat by omega, show m - (t + 1) = m - ((t : Int) + 1).toNat by omega, HPQ.out, hc, show k + t = k + ((t : Int) - 1 + 1).toNat by omega, show m - t = m - ((t : Int) - 1 + 1).toNat by omega] at hstep
            simp only at hstep
            by_cases hq : q = 0
            · rw [if_pos hq] at hstep
              have HS := Lib.hid hstep
              have hq' : (q != 0) = false := by simp [hq]
              subst hq
              clear hstep hpq hc hz
              go_wp2_with fail
              with_reducible refine C1.out.mono ?_
              rintro e w' ⟨rfl, rfl⟩
              go_wp2_with fail
              go_roundw
              case rel => exact ⟨by trivial, (t : Int) - 1, P, Q, rfl, rfl, rfl, by omega, by omega, HS.out⟩
              case measure => simp [intOf]
            · rw [if_neg hq] at hstep
              have HS := Lib.hid hstep
              have hq' : (q != 0) = true := by simp [hq]
              clear hstep hpq hc hz hq
              go_wp2_with fail
              with_reducible refine C1.out.mono ?_
              rintro e w' ⟨rfl, rfl⟩
              go_wp2_with fail
              go_roundw
              case rel => exact ⟨by trivial, (t : Int) - 1, p, q, rfl, rfl, rfl, by omega, by omega, HS.out⟩
              case measure => simp [intOf]
          · obtain rfl : z = -1 := by omega
            have C1 := Lib.hid (HL.out.l.touch (a := (k : Int)) (m := (m : Int)) (p := P) (q := Q) (by omega) (by
              have hN := HL.out.hN
              unfold touchR
              rw [if_pos ⟨by omega, by omega, by omega⟩, Int.toNat_natCast, Int.toNat_natCast]
              exact HPQ.out))
            have HC := Lib.hid HL.out.l.ch
            clear HPQ hz hz1 hz2
            go_wp2_with fail
            with_reducible refine C1.out.mono ?_
            rintro e w' ⟨rfl, rfl⟩
            go_wp2_with fail
            with_reducible refine (known_any _).mono ?_
            rintro e w6 ⟨rfl, hk6⟩
            have HZ := Lib.hid (HC.out.trans hk6)
            clear hk6
            go_wp2_with fail
            go_ret
            exact ⟨rfl, HZ.out.below _ (by simp) (Nat.le_refl _)⟩
end Go.Proofs.Ytgiacoclddoboaa
