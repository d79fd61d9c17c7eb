/-
  The document's Check.
-/
import Derived.Test.YtadogffllkompaaDoorCkM
namespace Go.Proofs.YtadogffllkompaaDoor
open Go.RowKit

attribute [local go_sem] Oper.semAt_some

set_option maxRecDepth 10000 in
set_option maxHeartbeats 8000000 in
theorem rcheckp_any {w : World} {a : Option Addr} {n cap : Nat} {L : List I5} {sl : Bool} (hL : L.length = n) (hfit : ∀ x ∈ L, Fit x) (hI : InsAt w a L) :
    Calls Tryd.prog 19 #[.slice a n cap, .bool sl] w fun e w' => e = .returned (.tuple #[.int .i64 (((res L sl).1 : Nat) : Int), .int .i64 (res L sl).2]) ∧ Ch [] w w' := by
  by_cases hlong : n < 1 ∨ 64 < n
  · have hr := res_long (L := L) (sl := sl) (by rw [hL]; exact hlong)
    rw [hr]
    clear hL hfit hI hr
    by_cases h1 : n < 1
    · have h1' : (n : Int) < 1 := by omega
      clear hlong h1
      go_enter Tryd.func19, Tryd.ntmps19
      go_wp2_with fail
      go_ret2
      exact ⟨rfl, Ch.refl _ _⟩
    · have h1' : ¬ (n : Int) < 1 := by omega
      have h2' : (64 : Int) < (n : Int) := by omega
      clear hlong h1
      go_enter Tryd.func19, Tryd.ntmps19
      go_wp2_with fail
      go_ret2
      exact ⟨rfl, Ch.refl _ _⟩
  · rcases hI with h0 | ⟨b, off, rfl, hI⟩
    · rw [h0] at hL; simp at hL; omega
    obtain ⟨r, hr⟩ : ∃ r, r = res L sl := ⟨_, rfl⟩
    rw [← hr]
    have HRs := Lib.hid hr
    have HI := Lib.hid hI
    have HL0 := Lib.hid (fun (k : Nat) (hk : k < n) (W : World) => show Calls Tryd.prog 30 #[iv (ia L k)] W fun e w' => e = .returned (.int .i64 (lk L sl 0 k)) ∧ Ch [] W w' from rcheck_any (ia L k) W)
    have HL1 := Lib.hid (fun (k : Nat) (hk : k < n) (W : World) (h : Ch [] w W) => show Calls Tryd.prog 31 #[.slice (some ⟨b, off, none⟩) n cap, .bool sl, .int .i64 (k : Int)] W fun e w' => e = .returned (.int .i64 (lk L sl 1 k)) ∧ Ch [] W w' from by
      have := rwrong_any (cap := cap) (w := W) sl k hL (by omega) hk (by rw [← ia_at (by omega)]; exact hfit _ (List.getElem_mem _)) (fun i hi => (hI i hi).ch h (by simp))
      unfold lk
      rw [if_neg (by decide), if_pos rfl, hL]
      exact this)
    have HL2 := Lib.hid (fun (k : Nat) => show lk L sl 2 k = if rb L k = true then 0 else 19 from rfl)
    have HRe := Lib.hid (fun (W : World) (h : Ch [] w W) => rreached_any (w := W) (cap := cap) hL (by omega) (.inr ⟨b, off, rfl, fun i hi => (hI i hi).ch h (by simp)⟩))
    have HLen := Lib.hid hL
    have HOk := Lib.hid (show (∀ j, j < 3 → ∀ c, c < n → lk L sl j c = 0) → res L sl = (0, 0) from fun h => res_ok (by rw [hL]; omega) (by rw [hL]; exact h))
    have HAt := Lib.hid (fun (j k : Nat) (hj : j < 3) (hk : k < n) (hz : lk L sl j k ≠ 0) (hl : ∀ c, c < k → lk L sl j c = 0) (hq : ∀ i, i < j → ∀ c, c < n → lk L sl i c = 0) => res_at (L := L) (sl := sl) (by rw [hL]; omega) hj (by rw [hL]; exact hk) hz hl (by rw [hL]; exact hq))
    have h1' : ¬ (n : Int) < 1 := by omega
    have h2' : ¬ (64 : Int) < (n : Int) := by omega
    have hn64 : n ≤ 64 := by omega
    clear hr hI hL hfit hlong
    go_enter Tryd.func19, Tryd.ntmps19
    go_wp2_with fail
    go_loopw [6] (fun i wr => ∃ k : Nat, i = .int .i64 (k : Int) ∧ k ≤ n ∧ Ch [] w wr ∧ ∀ c, c < k → lk L sl 0 c = 0) (fun i _ => n - (intOf i).toNat)
    case atStart => exact ⟨0, rfl, Nat.zero_le _, Ch.refl _ _, fun c h => absurd h (by omega)⟩
    case round =>
      obtain ⟨k, rfl, hk, hc, hz⟩ := hrel
      have HC := Lib.hid hc
      have HZ := Lib.hid hz
      clear hc hz
      by_cases hkn : k < n
      · have hkn' : (k : Int) < (n : Int) := by omega
        obtain ⟨c0, c1, c2, c3, c4⟩ := (InsAt.at HI.out (k := k) (by rw [HLen.out]; exact hkn)).ch HC.out (by simp)
        have HCa := Lib.hid (fun W => HL0.out k hkn W)
        have HV := Lib.hid (show lk L sl 0 k = 0 → ∀ c, c < k + 1 → lk L sl 0 c = 0 from fun h c hc => by
          by_cases e : c = k
          · rw [e]; exact h
          · exact HZ.out c (by omega))
        have HW := Lib.hid (show lk L sl 0 k ≠ 0 → res L sl = (k, lk L sl 0 k) from fun h => HAt.out 0 k (by omega) hkn h HZ.out (fun i hi => absurd hi (by omega)))
        unfold iv at HCa
        generalize ia L k = x at *
        obtain ⟨op, d, s, o, i⟩ := x
        simp only at *
        by_cases hv : lk L sl 0 k = 0
        · have HV := Lib.hid (HV.out hv)
          rw [hv] at HCa
          clear hv hkn
          go_wp2_with (first
            | (with_reducible refine (HCa.out _).mono ?_; rintro e w9 ⟨rfl, hc9⟩; have HC9 := Lib.hid (HC.out.trans hc9); clear hc9)
            | fail)
          go_roundw
          case rel => exact ⟨k + 1, by go_num, by omega, HC9.out, HV.out⟩
          case measure => simp [intOf]; omega
        · have HW := Lib.hid (HW.out hv)
          generalize lk L sl 0 k = v at *
          have hvb : (v != 0) = true := by simpa using hv
          clear hv hkn
          go_wp2_with (first
            | (with_reducible refine (HCa.out _).mono ?_; rintro e w9 ⟨rfl, hc9⟩; have HC9 := Lib.hid (HC.out.trans hc9); clear hc9)
            | fail)
          go_ret2
          exact ⟨by rw [HRs.out, HW.out]; rfl, HC9.out⟩
      · have hkn' : ¬ (k : Int) < (n : Int) := by omega
        have HZ0 := Lib.hid (show ∀ c, c < n → lk L sl 0 c = 0 from fun c hc => HZ.out c (by omega))
        clear hkn
        go_wp2_with fail
        go_loopw [8] (fun i wr => ∃ k : Nat, i = .int .i64 (k : Int) ∧ k ≤ n ∧ Ch [] w wr ∧ ∀ c, c < k → lk L sl 1 c = 0) (fun i _ => n - (intOf i).toNat)
        case atStart => exact ⟨0, rfl, Nat.zero_le _, HC.out, fun c h => absurd h (by omega)⟩
        case round =>
          obtain ⟨k, rfl, hk, hc, hz⟩ := hrel
          have HC := Lib.hid hc
          have HZ := Lib.hid hz
          clear hc hz
          by_cases hkn : k < n
          · have hkn' : (k : Int) < (n : Int) := by omega
            have HCa := Lib.hid (HL1.out k hkn _ HC.out)
            have HV := Lib.hid (show lk L sl 1 k = 0 → ∀ c, c < k + 1 → lk L sl 1 c = 0 from fun h c hc => by
              by_cases e : c = k
              · rw [e]; exact h
              · exact HZ.out c (by omega))
            have HW := Lib.hid (show lk L sl 1 k ≠ 0 → res L sl = (k, lk L sl 1 k) from fun h => HAt.out 1 k (by omega) hkn h HZ.out (fun i hi c hc => by rw [show i = 0 by omega]; exact HZ0.out c hc))
            by_cases hv : lk L sl 1 k = 0
            · have HV := Lib.hid (HV.out hv)
              rw [hv] at HCa
              clear hv hkn
              go_wp2_with (first
                | (with_reducible refine HCa.out.mono ?_; rintro e w9 ⟨rfl, hc9⟩; have HC9 := Lib.hid (HC.out.trans hc9); clear hc9)
                | fail)
              go_roundw
              case rel => exact ⟨k + 1, by go_num, by omega, HC9.out, HV.out⟩
              case measure => simp [intOf]; omega
            · have HW := Lib.hid (HW.out hv)
              generalize lk L sl 1 k = v at *
              have hvb : (v != 0) = true := by simpa using hv
              clear hv hkn
              go_wp2_with (first
                | (with_reducible refine HCa.out.mono ?_; rintro e w9 ⟨rfl, hc9⟩; have HC9 := Lib.hid (HC.out.trans hc9); clear hc9)
                | fail)
              go_ret2
              exact ⟨by rw [HRs.out, HW.out]; rfl, HC9.out⟩
          · have hkn' : ¬ (k : Int) < (n : Int) := by omega
            have HZ1 := Lib.hid (show ∀ c, c < n → lk L sl 1 c = 0 from fun c hc => HZ.out c (by omega))
            have HRw := Lib.hid (HRe.out _ HC.out)
            clear hkn
            go_wp2_with fail
            with_reducible refine HRw.out.mono ?_
            rintro e w3 ⟨g, cp, bs, rfl, hba, hg, hbs, hc3⟩
            have HBA := Lib.hid hba
            have HBS := Lib.hid hbs
            have HC3 := Lib.hid (HC.out.trans hc3)
            clear hba hbs hc3 hg
            go_wp2_with fail
            go_loopw [11] (fun i wr => ∃ k : Nat, i = .int .i64 (k : Int) ∧ k ≤ n ∧ wr = w3 ∧ ∀ c, c < k → lk L sl 2 c = 0) (fun i _ => n - (intOf i).toNat)
            case atStart => exact ⟨0, rfl, Nat.zero_le _, rfl, fun c h => absurd h (by omega)⟩
            case round =>
              obtain ⟨k, rfl, hk, rfl, hz⟩ := hrel
              have HZ := Lib.hid hz
              clear hz
              by_cases hkn : k < n
              · have hkn' : (k : Int) < (n : Int) := by omega
                have hk64 : (k : Int) < 64 := by omega
                have cb := HBA.out.cell k (by omega)
                have hrb : bs[k]?.getD false = rb L k := by
                  rw [Bool.eq_iff_iff, rb_iff, ← HBS.out k, List.getD_eq_getElem?_getD]
                rw [hrb] at cb
                have HV := Lib.hid (show rb L k = true → ∀ c, c < k + 1 → lk L sl 2 c = 0 from fun h c hc => by
                  by_cases e : c = k
                  · rw [e, HL2.out, if_pos h]
                  · exact HZ.out c (by omega))
                have HW := Lib.hid (show rb L k = false → res L sl = (k, 19) from fun h => by
                  have e : lk L sl 2 k = 19 := by rw [HL2.out, if_neg (by rw [h]; simp)]
                  have := HAt.out 2 k (by omega) hkn (by rw [e]; decide) HZ.out (fun i hi c hc => by
                    by_cases e0 : i = 0
                    · rw [e0]; exact HZ0.out c hc
                    · obtain rfl : i = 1 := by omega
                      exact HZ1.out c hc)
                  rw [e] at this
                  exact this)
                clear hrb hkn
                cases hrk : rb L k with
                | true =>
                  rw [hrk] at cb
                  have HV := Lib.hid (HV.out hrk)
                  clear hrk
                  go_wp2_with fail
                  go_roundw
                  case rel => exact ⟨k + 1, by go_num, by omega, by trivial, HV.out⟩
                  case measure => simp [intOf]; omega
                | false =>
                  rw [hrk] at cb
                  have HW := Lib.hid (HW.out hrk)
                  clear hrk
                  go_wp2_with fail
                  go_ret2
                  exact ⟨by rw [HRs.out, HW.out]; rfl, HC3.out⟩
              · have hkn' : ¬ (k : Int) < (n : Int) := by omega
                have HE := Lib.hid (HOk.out (fun i hi c hc => by
                  by_cases e0 : i = 0
                  · rw [e0]; exact HZ0.out c hc
                  · by_cases e1 : i = 1
                    · rw [e1]; exact HZ1.out c hc
                    · obtain rfl : i = 2 := by omega
                      exact HZ.out c (by omega)))
                clear hkn
                go_wp2_with fail
                go_ret2
                exact ⟨by rw [HRs.out, HE.out]; rfl, HC3.out⟩
end Go.Proofs.YtadogffllkompaaDoor
