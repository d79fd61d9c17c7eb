/-
  The answer's mask of who is inside.
-/
import Derived.Test.YtjoaigadlpndcaaGreatDoorGzA
namespace Go.Proofs.YtjoaigadlpndcaaGreatDoor
open Go.RowKit

set_option maxHeartbeats 1000000 in
theorem rin_any {w : World} {D : Nat} {m : Value} {l : List (Nat × Bool)} (h : RD w D m l) (hl : l.length ≤ 900) (t : Int) :
    Calls Tryz.prog 20 #[m, .int .i64 t] w fun e w' => e = .returned (.int .u64 ((mskN (refP (runS l) t) : Nat) : Int)) ∧ Ch [] w w' := by
  obtain ⟨p, cap, rfl⟩ := h.form
  have HH := Lib.hid h
  have HL := Lib.hid hl
  obtain ⟨n, hn⟩ : ∃ n, n = l.length := ⟨_, rfl⟩
  rw [← hn] at HH ⊢
  have hsn := (near_run l).s1
  obtain ⟨x, hx⟩ : ∃ x, x = runS l := ⟨_, rfl⟩
  rw [← hx] at hsn ⊢
  have HX := Lib.hid hx
  have HSn := Lib.hid hsn
  have HA := Lib.hid (dwnN_all (refP x t))
  clear h hl hn hx hsn
  go_enter Tryz.func20, Tryz.ntmps20
  go_wp2
  go_loopw [5, 6] (fun v i wr => ∃ j : Nat, j ≤ 64 ∧ i = .int .i64 (63 - (j : Int)) ∧ v = .int .u64 ((dwnN (refP x t) j : Nat) : Int) ∧ Ch [] w wr) (fun _ i _ => (intOf i + 1).toNat)
  case atStart => exact ⟨0, by decide, rfl, rfl, Ch.refl _ _⟩
  case round =>
    obtain ⟨j, hj, rfl, rfl, hc⟩ := hrel
    by_cases hlt : j < 64
    · obtain ⟨k, hk⟩ : ∃ k : Nat, k = 63 - j := ⟨_, rfl⟩
      have hki : (63 : Int) - (j : Int) = (k : Int) := by omega
      have hk64 : k < 64 := by omega
      have HS := Lib.hid (rstamps_any (HH.out.quiet hc) (by have := HL.out; omega) (k : Int))
      rw [sOf_nat _ hk64, ← HX.out] at HS
      obtain ⟨M, hM⟩ : ∃ M, M = dwnN (refP x t) j := ⟨_, rfl⟩
      have hww := u64_twice (M := M) (by rw [hM]; exact dwnN_lt _ j) hlt
      have hsucc : dwnN (refP x t) (j + 1) = M * 2 + (if refP x t k = true then 1 else 0) := by rw [hM, hk]; rfl
      obtain ⟨P, hP⟩ : ∃ P, P = M * 2 := ⟨_, rfl⟩
      rw [← hP] at hww hsucc
      obtain ⟨hw1, hw2⟩ := hww
      obtain ⟨P1, hP1⟩ : ∃ P1, P1 = P + 1 := ⟨_, rfl⟩
      rw [← hP1] at hw2
      have HP1 := Lib.hid hP1
      rw [← hM]
      obtain ⟨b, hb⟩ : ∃ b, b = refP x t k := ⟨_, rfl⟩
      rw [← hb] at hsucc
      replace hb : b = (decide (0 < x.s k) && (decide (t < 0) || decide (x.s k ≤ t))) := hb
      have HSu := Lib.hid hsucc
      have HC := Lib.hid hc
      have hge : decide ((k : Int) ≥ 0) = true := decide_eq_true (by omega)
      have hsub : IntKind.i64.wrap ((k : Int) - 1) = (k : Int) - 1 := IntWalk.i64_in _ (by omega)
      have hki2 : (63 : Int) - ((j + 1 : Nat) : Int) = (k : Int) - 1 := by omega
      have HK := Lib.hid hki2
      rw [hki]
      generalize x.s k = s at hb HS
      generalize x.n = q at HS
      clear hsucc hc hki hki2 hM hk HSn hP hP1
      by_cases h0 : 0 < s
      · have hgt : decide (s > 0) = true := decide_eq_true h0
        by_cases h1 : t < 0
        · obtain rfl : b = true := by rw [hb]; simp [h0, h1]
          clear hb h0
          go_wp2_with fail
          with_reducible refine HS.out.mono ?_
          rintro e w2 ⟨rfl, hc2⟩
          have HC2 := Lib.hid (HC.out.trans hc2)
          clear hc2
          go_wp2_with fail
          go_roundw
          case rel => exact ⟨j + 1, by omega, by rw [HK.out], by first | (rw [HSu.out, HP1.out]; rfl) | (rw [HSu.out]; rfl), HC2.out⟩
          case measure => simp [intOf]
        · by_cases h2 : s ≤ t
          · obtain rfl : b = true := by rw [hb]; simp [h0, h2]
            clear hb h0
            go_wp2_with fail
            with_reducible refine HS.out.mono ?_
            rintro e w2 ⟨rfl, hc2⟩
            have HC2 := Lib.hid (HC.out.trans hc2)
            clear hc2
            go_wp2_with fail
            go_roundw
            case rel => exact ⟨j + 1, by omega, by rw [HK.out], by first | (rw [HSu.out, HP1.out]; rfl) | (rw [HSu.out]; rfl), HC2.out⟩
            case measure => simp [intOf]
          · obtain rfl : b = false := by rw [hb]; simp [h1, h2]
            have h2' : decide (s ≤ t) = false := decide_eq_false h2
            clear hb h0 h2
            go_wp2_with fail
            with_reducible refine HS.out.mono ?_
            rintro e w2 ⟨rfl, hc2⟩
            have HC2 := Lib.hid (HC.out.trans hc2)
            clear hc2
            go_wp2_with fail
            go_roundw
            case rel => exact ⟨j + 1, by omega, by rw [HK.out], by first | (rw [HSu.out, HP1.out]; rfl) | (rw [HSu.out]; rfl), HC2.out⟩
            case measure => simp [intOf]
      · have hgt : decide (s > 0) = false := decide_eq_false h0
        obtain rfl : b = false := by rw [hb]; simp [h0]
        clear hb h0
        go_wp2_with fail
        with_reducible refine HS.out.mono ?_
        rintro e w2 ⟨rfl, hc2⟩
        have HC2 := Lib.hid (HC.out.trans hc2)
        clear hc2
        go_wp2_with fail
        go_roundw
        case rel => exact ⟨j + 1, by omega, by rw [HK.out], by first | (rw [HSu.out, HP1.out]; rfl) | (rw [HSu.out]; rfl), HC2.out⟩
        case measure => simp [intOf]
    · obtain rfl : j = 64 := by omega
      clear hlt
      go_wp2_with fail
      go_ret
      exact ⟨by rw [← HA.out]; rfl, hc⟩
end Go.Proofs.YtjoaigadlpndcaaGreatDoor
