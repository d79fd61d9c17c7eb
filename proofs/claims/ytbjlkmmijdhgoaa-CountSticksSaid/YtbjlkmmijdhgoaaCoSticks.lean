/-
  The law CountSticks, walked.
-/
import Derived.Test.YtbjlkmmijdhgoaaCoB
namespace Go.Proofs.Ytbjlkmmijdhgoaa
open Go.RowKit

attribute [local go_sem] Oper.semAt_some

set_option maxHeartbeats 1000000 in
theorem sticks_law (a0 a1 : Int) (w : World) :
    Calls Try.prog 4 #[.int .i64 a0, .int .i64 a1] w fun e w' => e = .returned (.bool true) ∧ Below w.heap.size w w' := by
  have u0 : 0 ≤ IntKind.u64.wrap a0 ∧ IntKind.u64.wrap a0 < 18446744073709551616 := by rw [IntKind.wrap_u64]; omega
  have u1 : 0 ≤ IntKind.u64.wrap a1 ∧ IntKind.u64.wrap a1 < 18446744073709551616 := by rw [IntKind.wrap_u64]; omega
  generalize hg0 : IntKind.u64.wrap a0 = U0 at u0
  generalize hg1 : IntKind.u64.wrap a1 = U1 at u1
  obtain ⟨u00, u01⟩ := u0
  obtain ⟨u10, u11⟩ := u1
  obtain ⟨top, hr0, hr1, hr2⟩ : ∃ top : Nat, 1 + U0 % 65535 = (top : Int) ∧ 1 ≤ top ∧ top ≤ 65535 := ⟨(1 + U0 % 65535).toNat, by omega⟩
  obtain ⟨n, hn0, hn1⟩ : ∃ n : Nat, U1 % 200 = (n : Int) ∧ n ≤ 200 := ⟨(U1 % 200).toNat, by omega⟩
  obtain ⟨S, hS⟩ : ∃ S, w.heap.size = S := ⟨_, rfl⟩
  have HNew := Lib.hid (new_ok top top w S hS hr1 hr2 (Nat.le_refl _))
  have HS := Lib.hid hS
  have HG := Lib.hid (show getN top top false = (top, true, 13) by simp [getN]; omega)
  have HG2 := Lib.hid (show getN top top true = (top, true, 13) by simp [getN]; omega)
  have HP := Lib.hid (show putN top true = (top, false, 0) by simp [putN]; omega)
  clear hS
  go_enter Try.func4, Try.ntmps4
  go_wp2_with fail
  refine HNew.out.mono ?_
  rintro e w1 ⟨rfl, hx1, hc1, -⟩
  have HX1 := Lib.hid hx1
  have HC1 := Lib.hid hc1
  clear hx1 hc1 HNew
  go_wp2_with fail
  with_reducible refine (get_at HX1.out HG.out).mono ?_
  rintro e w2 ⟨rfl, hx2, hc2, -⟩
  have HX2 := Lib.hid hx2
  have HC2 := Lib.hid (ch_own HC1.out hc2 (by rw [HS.out]; exact Nat.le_refl _))
  clear hx2 hc2 HX1 HC1
  go_wp2_with fail
  clear hn0 hr0
  go_loopw [7] (fun v wr => ∃ k : Nat, k ≤ n ∧ v = .int .i64 (k : Int) ∧ Cnt wr S top top true ∧ Ch [] w wr) (fun v _ => n - (intOf v).toNat)
  case atStart => exact ⟨0, Nat.zero_le _, rfl, HX2.out, HC2.out⟩
  case round =>
    obtain ⟨k, hk, rfl, hx, hc⟩ := hrel
    have HX := Lib.hid hx
    have HC := Lib.hid hc
    clear hx hc HX2 HC2
    by_cases hlt : k < n
    · go_wp2_with fail
      with_reducible refine (put_at HX.out HP.out).mono ?_
      rintro e w3 ⟨rfl, hx3, hc3, -⟩
      have HX3 := Lib.hid hx3
      have HC3 := Lib.hid (ch_own HC.out hc3 (by rw [HS.out]; exact Nat.le_refl _))
      clear hx3 hc3 HX HC
      go_wp2_with fail
      with_reducible refine (get_at HX3.out HG2.out).mono ?_
      rintro e w4 ⟨rfl, hx4, hc4, -⟩
      have HX4 := Lib.hid hx4
      have HC4 := Lib.hid (ch_own HC3.out hc4 (by rw [HS.out]; exact Nat.le_refl _))
      clear hx4 hc4 HX3 HC3
      go_wp2_with fail
      go_roundw
      case rel => exact ⟨k + 1, by omega, by go_num, HX4.out, HC4.out⟩
      case measure => simp [intOf]; omega
    · obtain rfl : k = n := by omega
      go_wp2_with fail
      with_reducible refine (known_any _).mono ?_
      rintro e w5 ⟨rfl, hc5⟩
      have HX5 := Lib.hid (HX.out.ch hc5 (by simp))
      have HC5 := Lib.hid (HC.out.trans hc5)
      clear hc5 HX HC
      go_wp2_with fail
      with_reducible refine (value_any HX5.out).mono ?_
      rintro e w6 ⟨rfl, rfl⟩
      go_wp2_with fail
      with_reducible refine (stuck_any HX5.out).mono ?_
      rintro e w7 ⟨rfl, rfl⟩
      go_wp2
      go_ret
      exact ⟨rfl, HC5.out.below _ (by simp) (Nat.le_refl _)⟩
end Go.Proofs.Ytbjlkmmijdhgoaa
