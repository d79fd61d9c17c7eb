/-
  UserPlays: whatever is poked, brought, evicted, broken and touched.
-/
import Derived.Test.YtgiacoclddoboaaUsQ
namespace Go.Proofs.Ytgiacoclddoboaa
open Go.RowKit

theorem UL.answer {w0 w : World} {b n N : Nat} (h : UL w0 w b (MS.zero n)) (hN : 16 * n = N) :
    Calls Try.prog 10 #[.int .i64 (n : Int)] w fun e w' => ∃ g cp, e = .returned (.slice (some ⟨g, 0, none⟩) N cp) ∧ UP w0 w' b g N (MS.zero n) := by
  subst hN
  refine (rnew_any h.u.lo h.u.hi w).mono ?_
  rintro e w' ⟨cp, rfl, hr, hc, -⟩
  exact ⟨_, cp, rfl, h.quiet hc, rfl, hr, h.ch.size, fun e => by have := h.u.lt; omega⟩

set_option maxRecDepth 100000 in
set_option maxHeartbeats 4000000 in
theorem plays_in {n : Nat} (h1 : 1 ≤ n) (h16 : n ≤ 16) (a : Option Addr) (len cap : Nat) (w : World) (ha : ActsAt w a len) :
    Calls Try.prog 3 #[.int .i64 (n : Int), .slice a len cap] w fun e w' => e = .returned (.bool true) ∧ Below w.heap.size w w' := by
  have HAc := Lib.hid ha
  obtain ⟨b, hb⟩ : ∃ b, w.heap.size = b := ⟨_, rfl⟩
  have HNew := Lib.hid (UL.new w (Ch.refl [] w) h1 h16 hb)
  obtain ⟨N, hN⟩ : ∃ N, 16 * n = N := ⟨_, rfl⟩
  have hw16 : IntKind.i64.wrap (16 * (n : Int)) = (N : Int) := by rw [IntWalk.i64_in _ (by omega)]; omega
  have d1 : ¬ n < 1 := by omega
  have d2 : ¬ 16 < n := by omega
  have d1' : decide ((n : Int) < 1) = false := decide_eq_false (by omega)
  have d2' : decide ((n : Int) > 16) = false := decide_eq_false (by omega)
  have HN := Lib.hid hN
  clear ha hb hN
  go_enter Try.func3, Try.ntmps3
  go_wp2_with fail
  with_reducible refine HNew.out.mono ?_
  rintro e w1 ⟨rfl, h1, -, -⟩
  have C1 := Lib.hid (h1.size (N := (N : Int)) (by have := HN.out; show 16 * (n : Int) = N; omega))
  have C2 := Lib.hid (h1.answer HN.out)
  clear h1 HNew
  go_wp2_with fail
  with_reducible refine C1.out.mono ?_
  rintro e w' ⟨rfl, rfl⟩
  go_wp2_with fail
  with_reducible refine C2.out.mono ?_
  rintro e w2 ⟨g, cp, rfl, hup⟩
  have HU := Lib.hid hup
  clear hup C1 C2
  go_wp2_with fail
  go_loopw [7, 8] (fun v i wr => ∃ (k g cp : Nat) (y : MS), k ≤ 40 ∧ i = .int .i64 (k : Int) ∧ v = .slice (some ⟨g, 0, none⟩) N cp ∧ UP w wr b g N y) (fun _ i _ => 40 - (intOf i).toNat)
  case atStart => exact ⟨0, g, cp, _, by decide, rfl, rfl, HU.out⟩
  case round =>
    obtain ⟨k, g, cp, y, hk, rfl, rfl, hl⟩ := hrel
    clear HU
    by_cases hgo : k < len ∧ k < 40
    · obtain ⟨hlt, hlt4⟩ := hgo
      rcases HAc.out.ch hl.l.ch with h0 | ⟨ga, off, rfl, hcc⟩
      · exfalso; omega
      · obtain ⟨K, P, A, M, v, le, ca, q0, q1, q2, q3, q4, hA, hlc, -, l, hl1, hl2⟩ := hcc k hlt
        have hlt' : (k : Int) < (len : Int) := by omega
        have C1 := Lib.hid (do_any (cap := cp) hl K P A M v le ca hA hlc hl1 hl2)
        clear hl hcc hA hlc hl1 hl2
        go_wp2_with fail
        with_reducible refine C1.out.mono ?_
        rintro e w3 ⟨g2, cp2, rfl, y2, h2⟩
        have H2 := Lib.hid h2
        clear h2 C1 q0 q1 q2 q3 q4
        go_wp2_with fail
        go_loopw [10] (fun p wq => wq = w3 ∧ ∃ z : Int, p = .int .i64 z ∧ -1 ≤ z ∧ z ≤ 18) (fun p _ => (18 - intOf p).toNat)
        case atStart => exact ⟨rfl, -1, rfl, by decide, by decide⟩
        case round =>
          obtain ⟨rfl, z, rfl, hz1, hz2⟩ := hrel
          by_cases hz : z < 18
          · obtain ⟨sv, S1, S2⟩ := H2.out.state cp2 z
            have S1 := Lib.hid S1
            have S2 := Lib.hid S2
            have hzw : IntKind.i64.wrap (z + 1) = z + 1 := IntWalk.i64_in _ (by omega)
            go_wp2_with fail
            with_reducible refine S1.out.mono ?_
            rintro e w' ⟨rfl, rfl⟩
            go_wp2_with fail
            with_reducible refine S2.out.mono ?_
            rintro e w' ⟨rfl, rfl⟩
            go_wp2_with fail
            go_roundw
            case rel => exact ⟨by trivial, z + 1, rfl, by omega, by omega⟩
            case measure => simp [intOf]; omega
          · have C := Lib.hid (H2.out.peek cp2 0 (N : Int) (by decide))
            clear hz1 hz2
            go_wp2_with fail
            with_reducible refine C.out.mono ?_
            rintro e w4 ⟨p, j, cp4, E, L, rfl, hE, -, hL, C4⟩
            obtain rfl : E = 0 := by rw [hE]; exact piece_if ⟨by omega, by omega, by omega⟩
            clear C hE H2
            go_wp2_with fail
            with_reducible refine C4.out.mono ?_
            rintro e w5 ⟨p2, cp5, rfl, h5⟩
            have C5 := Lib.hid (same_any cp4 cp5 hL.out.1 (Nat.le_trans hL.out.2.1 (by decide)) h5.out.1 h5.out.2.1)
            clear C4
            go_wp2_with fail
            with_reducible refine C5.out.mono ?_
            rintro e w6 ⟨rfl, hc6⟩
            have HY := Lib.hid (h5.out.2.2.quiet hc6)
            clear hc6 C5 h5 hL
            go_wp2_with fail
            go_roundw
            case rel => exact ⟨k + 1, g2, cp2, y2, by omega, by go_num, rfl, HY.out⟩
            case measure => simp [intOf]; omega
    · have hcond : ((k : Int) < (len : Int) ∧ ¬ (k : Int) < 40) ∨ ¬ (k : Int) < (len : Int) := by
        by_cases hkn : (k : Int) < (len : Int)
        · exact .inl ⟨hkn, by omega⟩
        · exact .inr hkn
      have HL := Lib.hid hl.l.ch
      clear hgo hl hk
      rcases hcond with ⟨hc1, hc2⟩ | hc1
      all_goals
        go_wp2_with fail
        with_reducible refine (known_any _).mono ?_
        rintro e w6 ⟨rfl, hk6⟩
        have HZ := Lib.hid (HL.out.trans hk6)
        clear hk6
        go_wp2_with fail
        go_ret
        exact ⟨rfl, HZ.out.below _ (by simp) (Nat.le_refl _)⟩
theorem plays_law {p : Int} (a : Option Addr) (len cap : Nat) (w : World) (ha : ActsAt w a len) :
    Calls Try.prog 3 #[.int .i64 p, .slice a len cap] w fun e w' => e = .returned (.bool true) ∧ Below w.heap.size w w' := by
  by_cases hp : 1 ≤ p ∧ p ≤ 16
  · obtain ⟨n, rfl⟩ : ∃ n : Nat, p = (n : Int) := ⟨p.toNat, by omega⟩
    exact plays_in (by omega) (by omega) a len cap w ha
  · have HNew := Lib.hid (new_out (p := p) (by omega) w)
    have hcase : p < 1 ∨ (¬ p < 1 ∧ 16 < p) := by omega
    clear ha hp
    go_enter Try.func3, Try.ntmps3
    rcases hcase with h0 | ⟨h0, h1⟩
    all_goals
      go_wp2_with fail
      with_reducible refine HNew.out.mono ?_
      rintro e w' ⟨rfl, rfl⟩
      go_wp2_with fail
      with_reducible refine (known_any _).mono ?_
      rintro e w6 ⟨rfl, hk6⟩
      have HZ := Lib.hid hk6
      clear hk6
      go_wp2_with fail
      go_ret
      exact ⟨rfl, HZ.out.below _ (by simp) (Nat.le_refl _)⟩
end Go.Proofs.Ytgiacoclddoboaa
