/-
  The law CountBalance, walked.
-/
import Derived.Test.YtbjlkmmijdhgoaaCoB
namespace Go.Proofs.Ytbjlkmmijdhgoaa
open Go.RowKit

attribute [local go_sem] Oper.semAt_some

theorem getN_bal {m : Nat} (h1 : m ≠ 0) (h2 : m < 65535) : getN m 65535 false = (m + 1, false, 0) := by unfold getN; rw [if_neg h1, if_neg (by omega)]
theorem putN_bal {m : Nat} (h1 : m ≠ 0) : putN m false = (m - 1, m == 1, 0) := by unfold putN; rw [if_neg h1, if_neg (by simp)]

set_option maxHeartbeats 2000000 in
theorem balance_law (a0 : Int) (ab : Option Addr) (len cap : Nat) (w : World) (hl : len ≤ 9223372036854775807) (hb : BoolsAt w ab len) :
    Calls Try.prog 5 #[.int .i64 a0, .slice ab len cap] w fun e w' => e = .returned (.bool true) ∧ Below w.heap.size w w' := by
  have u0 : 0 ≤ IntKind.u64.wrap a0 ∧ IntKind.u64.wrap a0 < 18446744073709551616 := by rw [IntKind.wrap_u64]; omega
  generalize hg0 : IntKind.u64.wrap a0 = U0 at u0
  obtain ⟨u00, u01⟩ := u0
  obtain ⟨n, hr0, hr1, hr2⟩ : ∃ n : Nat, 1 + U0 % 60000 = (n : Int) ∧ 1 ≤ n ∧ n ≤ 60000 := ⟨(1 + U0 % 60000).toNat, by omega⟩
  obtain ⟨S, hS⟩ : ∃ S, w.heap.size = S := ⟨_, rfl⟩
  have HNew := Lib.hid (new_ok n 65535 w S hS (by decide) (by decide) (by omega))
  have HS := Lib.hid hS
  have HBo := Lib.hid hb
  have HL := Lib.hid hl
  clear hS hb hl
  go_enter Try.func5, Try.ntmps5
  go_wp2_with fail
  refine HNew.out.mono ?_
  rintro e w1 ⟨rfl, hx1, hc1, -⟩
  have HX1 := Lib.hid hx1
  have HC1 := Lib.hid hc1
  clear hx1 hc1 HNew
  go_wp2_with fail
  clear hr0 hg0 u00 u01
  go_loopw [0, 7] (fun nv iv wr => ∃ k m : Nat, k ≤ len ∧ k ≤ 100 ∧ m ≤ 60000 + k ∧ iv = .int .i64 (k : Int) ∧ nv = .int .i64 (m : Int) ∧ Cnt wr S m 65535 false ∧ Ch [] w wr) (fun _ iv _ => 100 - (intOf iv).toNat)
  case atStart => exact ⟨0, n, Nat.zero_le _, Nat.zero_le _, hr2, rfl, rfl, HX1.out, HC1.out⟩
  case round =>
    obtain ⟨k, m, hk, hk2, hm, rfl, rfl, hx, hc⟩ := hrel
    have HX := Lib.hid hx
    have HC := Lib.hid hc
    clear hx hc HX1 HC1
    have HE := Lib.hid (show (k < len ∧ k < 100 ∧ m ≠ 0) ∨ ¬ (k < len ∧ k < 100 ∧ m ≠ 0) by omega)
    rcases HE.out with h | h
    · obtain ⟨h1, h2, h3⟩ := h
      have hd1 : decide ((k : Int) < (len : Int)) = true := by simpa using h1
      have hd2 : decide ((k : Int) < 100) = true := by simp; omega
      have hd3 : decide (0 < (m : Int)) = true := by simp; omega
      obtain ⟨b, off, rfl, hcells⟩ := (HBo.out.below HC.out).resolve_left (by omega)
      obtain ⟨x, hx⟩ := hcells k h1
      have hb0 : (0 : Int) ≤ (k : Int) := by omega
      have hb1 : (k : Int) < (len : Int) := by omega
      have hL := HL.out
      clear hcells
      cases x with
      | true =>
        have HG := Lib.hid (getN_bal h3 (by omega))
        go_wp2_with fail
        with_reducible refine (get_at HX.out HG.out).mono ?_
        rintro e w2 ⟨rfl, hx2, hc2, -⟩
        have HX2 := Lib.hid hx2
        have HC2 := Lib.hid (ch_own HC.out hc2 (by rw [HS.out]; exact Nat.le_refl _))
        clear hx2 hc2 HX HC hx
        have hw : IntKind.i64.wrap ((m : Int) + 1) = (m : Int) + 1 := by rw [IntKind.wrap_i64]; omega
        go_wp2_with fail
        with_reducible refine (value_at HX2.out (z := (m : Int) + 1) (by omega)).mono ?_
        rintro e w3 ⟨rfl, rfl⟩
        go_wp2_with fail
        with_reducible refine (stuck_any HX2.out).mono ?_
        rintro e w4 ⟨rfl, rfl⟩
        go_wp2_with fail
        go_roundw
        case rel => exact ⟨k + 1, m + 1, by omega, by omega, by omega, by go_num, by go_num, HX2.out, HC2.out⟩
        case measure => simp [intOf]; omega
      | false =>
        have HP := Lib.hid (putN_bal h3)
        go_wp2_with fail
        with_reducible refine (put_at HX.out HP.out).mono ?_
        rintro e w2 ⟨rfl, hx2, hc2, -⟩
        have HX2 := Lib.hid hx2
        have HC2 := Lib.hid (ch_own HC.out hc2 (by rw [HS.out]; exact Nat.le_refl _))
        clear hx2 hc2 HX HC hx
        have hw : IntKind.i64.wrap ((m : Int) - 1) = ((m - 1 : Nat) : Int) := by rw [IntKind.wrap_i64]; omega
        have hz : (m == 1) = (((m - 1 : Nat) : Int) == 0) := by rw [Bool.eq_iff_iff]; simp; omega
        rw [hz]
        have HM := Lib.hid (show m - 1 ≤ 60000 + k by omega)
        generalize m - 1 = m' at *
        clear hz
        go_wp2_with fail
        with_reducible refine (value_any HX2.out).mono ?_
        rintro e w3 ⟨rfl, rfl⟩
        go_wp2_with fail
        with_reducible refine (stuck_any HX2.out).mono ?_
        rintro e w4 ⟨rfl, rfl⟩
        go_wp2_with fail
        go_roundw
        case rel => exact ⟨k + 1, m', by omega, by omega, by have := HM.out; omega, by go_num, rfl, HX2.out, HC2.out⟩
        case measure => simp [intOf]; omega
    · have hcase : ¬ k < len ∨ (k < len ∧ ¬ k < 100) ∨ (k < len ∧ k < 100 ∧ m = 0) := by omega
      rcases hcase with h1 | ⟨h1, h2⟩ | ⟨h1, h2, h3⟩
      · have hd1 : decide ((k : Int) < (len : Int)) = false := by simpa using h1
        go_wp2_with fail
        with_reducible refine (known_any _).mono ?_
        rintro e w5 ⟨rfl, hc5⟩
        have HC5 := Lib.hid (HC.out.trans hc5)
        clear hc5
        go_wp2
        go_ret
        exact ⟨rfl, HC5.out.below _ (by simp) (Nat.le_refl _)⟩
      · have hd1 : decide ((k : Int) < (len : Int)) = true := by simpa using h1
        have hd2 : decide ((k : Int) < 100) = false := by simp; omega
        go_wp2_with fail
        with_reducible refine (known_any _).mono ?_
        rintro e w5 ⟨rfl, hc5⟩
        have HC5 := Lib.hid (HC.out.trans hc5)
        clear hc5
        go_wp2
        go_ret
        exact ⟨rfl, HC5.out.below _ (by simp) (Nat.le_refl _)⟩
      · have hd1 : decide ((k : Int) < (len : Int)) = true := by simpa using h1
        have hd2 : decide ((k : Int) < 100) = true := by simp; omega
        subst h3
        go_wp2_with fail
        with_reducible refine (known_any _).mono ?_
        rintro e w5 ⟨rfl, hc5⟩
        have HC5 := Lib.hid (HC.out.trans hc5)
        clear hc5
        go_wp2
        go_ret
        exact ⟨rfl, HC5.out.below _ (by simp) (Nat.le_refl _)⟩
end Go.Proofs.Ytbjlkmmijdhgoaa
