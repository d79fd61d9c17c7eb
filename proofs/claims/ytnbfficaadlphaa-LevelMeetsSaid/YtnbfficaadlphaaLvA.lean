/-
  Granularities, the level of a distance: the program's answers and the document's.
-/
import Derived.Test.YtnbfficaadlphaaLvP
import Derived.WalkMore
namespace Go.Proofs.Ytnbfficaadlphaa
open Go.RowKit

attribute [local go_sem] Oper.semAt_some

theorem gran_k {k : Nat} (hk : k < 8) (w : World) : Calls Try.prog 13 #[.int .i64 (k : Int)] w fun e w' => e = .returned (.int .u64 (g8 k)) ∧ w' = w := by
  rcases eight hk with h | h | h | h | h | h | h | h <;> subst h <;> clear hk
  all_goals
    go_enter Try.func13, Try.ntmps13
    go_wp2
    go_ret
    exact ⟨rfl, rfl⟩
theorem gran_no {n : Int} (hn : n < 0 ∨ 8 ≤ n) (w : World) : Calls Try.prog 13 #[.int .i64 n] w fun e w' => e = .returned (.int .u64 0) ∧ w' = w := by
  rcases Int.lt_or_le n 0 with h | h
  · have hd : decide (n < 0) = true := decide_eq_true h
    clear h hn
    go_enter Try.func13, Try.ntmps13
    go_wp2
    go_ret
    exact ⟨rfl, rfl⟩
  · have hd : decide (n < 0) = false := decide_eq_false (by omega)
    have hd2 : decide (8 ≤ n) = true := decide_eq_true (by omega)
    clear h hn
    go_enter Try.func13, Try.ntmps13
    go_wp2
    go_ret
    exact ⟨rfl, rfl⟩
theorem gran_any (n : Int) (w : World) : Calls Try.prog 13 #[.int .i64 n] w fun e w' => e = .returned (.int .u64 (granV n)) ∧ w' = w := by
  by_cases h : 0 ≤ n ∧ n < 8
  · obtain ⟨k, rfl⟩ := Int.eq_ofNat_of_zero_le h.1
    have := gran_k (k := k) (by omega) w
    unfold granV
    rw [if_pos h]
    exact this
  · have := gran_no (n := n) (by omega) w
    unfold granV
    rw [if_neg h]
    exact this

theorem rgran_k {k : Nat} (hk : k < 8) (w : World) : Calls Try.prog 14 #[.int .i64 (k : Int)] w fun e w' => e = .returned (.int .u64 (g8 k)) ∧ w' = w := by
  have hd0 : decide ((k : Int) < 0) = false := decide_eq_false (by omega)
  have hd1 : decide ((7 : Int) < (k : Int)) = false := decide_eq_false (by omega)
  go_enter Try.func14, Try.ntmps14
  go_wp2_with fail
  go_loopw [3, 4] (fun g i wr => ∃ j : Nat, j ≤ k ∧ g = .int .u64 (g8 j) ∧ i = .int .i64 (j : Int) ∧ wr = w) (fun _ i _ => k - (intOf i).toNat)
  case atStart => exact ⟨0, Nat.zero_le _, rfl, rfl, rfl⟩
  case round =>
    obtain ⟨j, hj, rfl, rfl, rfl⟩ := hrel
    by_cases hlt : j < k
    · have hg := g8_lo (k := j) (by omega)
      have hs : IntKind.u64.wrap (g8 j * 8) = g8 (j + 1) := by rw [IntKind.wrap_u64]; show _ = g8 j * 8; omega
      have HS := Lib.hid hg
      clear hg
      go_wp2_with fail
      go_roundw
      case rel => exact ⟨j + 1, by omega, rfl, by go_num, by trivial⟩
      case measure => simp [intOf]; omega
    · obtain rfl : j = k := by omega
      clear hlt hj
      go_wp2
      go_ret
      exact ⟨rfl, rfl⟩
theorem rgran_no {n : Int} (hn : n < 0 ∨ 8 ≤ n) (w : World) : Calls Try.prog 14 #[.int .i64 n] w fun e w' => e = .returned (.int .u64 0) ∧ w' = w := by
  rcases Int.lt_or_le n 0 with h | h
  · have hd : decide (n < 0) = true := decide_eq_true h
    clear h hn
    go_enter Try.func14, Try.ntmps14
    go_wp2
    go_ret
    exact ⟨rfl, rfl⟩
  · have hd : decide (n < 0) = false := decide_eq_false (by omega)
    have hd2 : decide (7 < n) = true := decide_eq_true (by omega)
    clear h hn
    go_enter Try.func14, Try.ntmps14
    go_wp2
    go_ret
    exact ⟨rfl, rfl⟩
theorem rgran_any (n : Int) (w : World) : Calls Try.prog 14 #[.int .i64 n] w fun e w' => e = .returned (.int .u64 (granV n)) ∧ w' = w := by
  by_cases h : 0 ≤ n ∧ n < 8
  · obtain ⟨k, rfl⟩ := Int.eq_ofNat_of_zero_le h.1
    have := rgran_k (k := k) (by omega) w
    unfold granV
    rw [if_pos h]
    exact this
  · have := rgran_no (n := n) (by omega) w
    unfold granV
    rw [if_neg h]
    exact this

def ofB (d : Int) : Bool := !decide (ofN d = 8)

theorem of_any (d : Int) (w : World) : Calls Try.prog 10 #[.int .u64 d] w fun e w' => e = .returned (.tuple #[.int .i64 (ofL d), .bool (ofB d)]) ∧ w' = w := by
  have HI := Lib.hid (fun j h => ofN_iff d (j := j) h)
  have HE := Lib.hid (ofN_le d)
  have HL := Lib.hid (show ofL d = if ofN d = 8 then 0 else (ofN d : Int) from rfl)
  have HB := Lib.hid (show ofB d = !decide (ofN d = 8) from rfl)
  generalize ofL d = L at *
  generalize ofB d = B at *
  generalize ofN d = K at *
  go_enter Try.func10, Try.ntmps10
  go_wp2_with fail
  go_step3
  go_wp2_with fail
  go_step3
  go_wp2_with fail
  go_loopw [4] (fun i wr => ∃ j : Nat, j ≤ K ∧ i = .int .i64 (j : Int) ∧ wr = w) (fun i _ => K - (intOf i).toNat)
  case atStart => exact ⟨0, Nat.zero_le _, rfl, rfl⟩
  case round =>
    obtain ⟨j, hj, rfl, rfl⟩ := hrel
    by_cases h8 : j = 8
    · obtain rfl : K = 8 := by have := HE.out; omega
      obtain rfl : L = 0 := by rw [HL.out]; rfl
      obtain rfl : B = false := by rw [HB.out]; rfl
      have he : ((j : Int) == 8) = true := by simp [h8]
      clear h8 hj
      go_wp2
      try rw [Exit.noGoto_ret]
      go_ret2
      exact ⟨rfl, rfl⟩
    · have hj8 : j < 8 := by have := HE.out; omega
      have he : ((j : Int) == 8) = false := by simp; omega
      have HG := Lib.hid (gran_k hj8 wr)
      have hi := HI.out j hj8
      have HM := Lib.hid (show IntKind.u64.wrap (63 * g8 j) = 63 * g8 j by have := g8_lo hj8; rw [IntKind.wrap_u64]; omega)
      generalize g8 j = g at *
      by_cases hK : K ≤ j
      · obtain rfl : j = K := by omega
        obtain rfl : L = (j : Int) := by rw [HL.out, if_neg h8]
        obtain rfl : B = true := by rw [HB.out, decide_eq_false h8]; rfl
        have hdd : decide (d < 63 * g) = true := decide_eq_true (hi.2 hK)
        clear hK hi h8 hj hj8
        go_wp2_with fail
        with_reducible refine HG.out.mono ?_
        rintro e w1 ⟨rfl, rfl⟩
        have hm := HM.out
        go_wp2
        try rw [Exit.noGoto_ret]
        go_ret2
        exact ⟨rfl, rfl⟩
      · have hdd : decide (d < 63 * g) = false := decide_eq_false (fun h => hK (hi.1 h))
        clear hi h8
        go_wp2_with fail
        with_reducible refine HG.out.mono ?_
        rintro e w1 ⟨rfl, rfl⟩
        have hm := HM.out
        go_wp2_with fail
        go_roundw
        case rel => exact ⟨j + 1, by omega, by go_num, by trivial⟩
        case measure => simp [intOf]; omega

theorem rof_any {d : Int} (hd : Wd d) (w : World) : Calls Try.prog 11 #[.int .u64 d] w fun e w' => e = .returned (.tuple #[.int .i64 (ofL d), .bool (ofB d)]) ∧ w' = w := by
  have HI := Lib.hid (fun j h => ofN_iff d (j := j) h)
  have HE := Lib.hid (ofN_le d)
  have HL := Lib.hid (show ofL d = if ofN d = 8 then 0 else (ofN d : Int) from rfl)
  have HB := Lib.hid (show ofB d = !decide (ofN d = 8) from rfl)
  generalize ofL d = L at *
  generalize ofB d = B at *
  generalize ofN d = K at *
  obtain ⟨q, hq⟩ : ∃ q, d / 63 = q := ⟨_, rfl⟩
  have ht : Int.tdiv d 63 = q := by rw [Int.tdiv_eq_ediv_of_nonneg hd.lo]; exact hq
  have hqw : IntKind.u64.wrap q = q := by have := hd.lo; have := hd.hi; rw [IntKind.wrap_u64]; omega
  have HQ := Lib.hid (show ∀ g : Int, q < g ↔ d < 63 * g by intro g; omega)
  clear hd hq
  go_enter Try.func11, Try.ntmps11
  go_wp2_with fail
  go_loopw [4] (fun i wr => ∃ j : Nat, j ≤ K ∧ i = .int .i64 (j : Int) ∧ wr = w) (fun i _ => K - (intOf i).toNat)
  case atStart => exact ⟨0, Nat.zero_le _, rfl, rfl⟩
  case round =>
    obtain ⟨j, hj, rfl, rfl⟩ := hrel
    by_cases h8 : j = 8
    · obtain rfl : K = 8 := by have := HE.out; omega
      obtain rfl : L = 0 := by rw [HL.out]; rfl
      obtain rfl : B = false := by rw [HB.out]; rfl
      have he : decide ((j : Int) < 8) = false := decide_eq_false (by omega)
      clear h8 hj
      go_wp2
      go_ret2
      exact ⟨rfl, rfl⟩
    · have hj8 : j < 8 := by have := HE.out; omega
      have he : decide ((j : Int) < 8) = true := decide_eq_true (by omega)
      have HG := Lib.hid (rgran_k hj8 wr)
      have hi := HI.out j hj8
      have hq := HQ.out (g8 j)
      generalize g8 j = g at *
      by_cases hK : K ≤ j
      · obtain rfl : j = K := by omega
        obtain rfl : L = (j : Int) := by rw [HL.out, if_neg h8]
        obtain rfl : B = true := by rw [HB.out, decide_eq_false h8]; rfl
        have hdd : decide (q < g) = true := decide_eq_true (hq.2 (hi.2 hK))
        clear hK hi hq h8 hj hj8
        go_wp2_with fail
        with_reducible refine HG.out.mono ?_
        rintro e w1 ⟨rfl, rfl⟩
        go_wp2
        go_ret2
        exact ⟨rfl, rfl⟩
      · have hdd : decide (q < g) = false := decide_eq_false (fun h => hK (hi.1 (hq.1 h)))
        clear hi hq h8
        go_wp2_with fail
        with_reducible refine HG.out.mono ?_
        rintro e w1 ⟨rfl, rfl⟩
        go_wp2_with fail
        go_roundw
        case rel => exact ⟨j + 1, by omega, by go_num, by trivial⟩
        case measure => simp [intOf]; omega

theorem mul_any {k g : Int} (hg : Wd g) (h0 : g ≠ 0) (hi : 18446744073709551615 / g < k ↔ 18446744073709551615 < k * g) (hn : 0 ≤ k * g) (w : World) :
    Calls Try.prog 24 #[.int .u64 k, .int .u64 g] w fun e w' => e = .returned (.int .u64 (mulV k g)) ∧ w' = w := by
  obtain ⟨q, hq⟩ : ∃ q, 18446744073709551615 / g = q := ⟨_, rfl⟩
  have hg0 : ¬ g = 0 := h0
  have hg1 := hg.lo
  have ht : Int.tdiv 18446744073709551615 g = q := by rw [Int.tdiv_eq_ediv_of_nonneg (by decide)]; exact hq
  have hqn : 0 ≤ q := by rw [← hq]; exact Int.ediv_nonneg (by decide) hg1
  have hq1 : q ≤ 18446744073709551615 := by rw [← hq]; exact Int.ediv_le_self _ (by decide)
  have hqw : IntKind.u64.wrap q = q := by rw [IntKind.wrap_u64]; omega
  rw [hq] at hi
  unfold mulV
  obtain ⟨P, hP⟩ : ∃ P, k * g = P := ⟨_, rfl⟩
  rw [hP] at hi hn ⊢
  by_cases h : q < k
  · have hd : decide (q < k) = true := decide_eq_true h
    rw [show min P 18446744073709551615 = 18446744073709551615 by have := hi.1 h; omega]
    clear h hi hn hP hg hq hqn hq1 hg1 h0
    go_enter Try.func24, Try.ntmps24
    go_wp2
    go_ret
    exact ⟨rfl, rfl⟩
  · have hd : decide (q < k) = false := decide_eq_false h
    have hlt : ¬ 18446744073709551615 < P := fun h2 => h (hi.2 h2)
    rw [show min P 18446744073709551615 = P by omega]
    have hw : IntKind.u64.wrap (k * g) = P := by rw [IntKind.wrap_u64, hP]; omega
    clear h hi hn hP hg hq hqn hq1 hlt hg1 h0
    go_enter Try.func24, Try.ntmps24
    go_wp2
    go_ret
    exact ⟨rfl, rfl⟩
end Go.Proofs.Ytnbfficaadlphaa
