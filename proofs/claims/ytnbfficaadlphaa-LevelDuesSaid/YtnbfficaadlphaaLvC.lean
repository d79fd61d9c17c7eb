/-
  When a slot is due: the program's answer and the document's; the chapter's examples.
-/
import Derived.Test.YtnbfficaadlphaaLvB
namespace Go.Proofs.Ytnbfficaadlphaa
open Go.RowKit

attribute [local go_sem] Oper.semAt_some

def timeOk (n s : Int) : Prop := 0 ≤ n ∧ n < 8 ∧ 0 ≤ s ∧ s < 64
instance (n s : Int) : Decidable (timeOk n s) := by unfold timeOk; infer_instance
def timeR (x n s : Int) : Int × Int := if timeOk n s then (timeV x n.toNat s, 0) else (0, 2)

theorem cut_iff {N : Int} (_ : 0 ≤ N) {k : Nat} (hk : k < 8) {g : Int} (hg : g8 k = g) : 18446744073709551615 / g < N ↔ 18446744073709551615 < N * g := by
  rcases eight hk with h | h | h | h | h | h | h | h <;> subst h <;> simp only [g8] at hg <;> subst hg <;> omega

theorem time_any {x s : Int} {n : Nat} (hx : Wd x) (hn : n < 8) (hs : 0 ≤ s ∧ s < 64) (w : World) :
    Calls Try.prog 18 #[.int .u64 x, .int .i64 (n : Int), .int .i64 s] w fun e w' => e = .returned (.tuple #[.int .u64 (timeV x n s), .int .i64 0]) ∧ w' = w := by
  obtain ⟨g, hg⟩ : ∃ g, g8 n = g := ⟨_, rfl⟩
  obtain ⟨q, h, hq, hN, h1, h2, q0, q1, q2, q3, h3, h4, hadd, hah, -, -, -, -⟩ := ahead hx hs hn hg
  have hgl := g8_lo hn
  have HGr := Lib.hid (gran_k hn w)
  have HAdd := Lib.hid (add_any (a := q * g) (b := h * g) ⟨q2, by have := hx.hi; omega⟩ ⟨h4, by omega⟩ w)
  rw [hadd] at HAdd
  rw [hg] at HGr hgl
  have hT : timeV x n s = mulV (q + h) g := by unfold timeV; rw [hg, hN]
  rw [hT]
  have hg0 : ¬ g = 0 := by omega
  have hge : (g == 0) = false := by simpa using hg0
  have hs1 : decide (s < 0) = false := decide_eq_false (by omega)
  have hs2 : decide (64 ≤ s) = false := decide_eq_false (by omega)
  have hd1 : Int.tdiv x g = q := by rw [Int.tdiv_eq_ediv_of_nonneg hx.lo]; exact hq
  have hd2 : IntKind.u64.wrap q = q := by rw [IntKind.wrap_u64]; omega
  have hd3 : IntKind.u64.wrap s = s := by rw [IntKind.wrap_u64]; omega
  obtain ⟨a, ha⟩ : ∃ a, (q + 1) % 18446744073709551616 = a := ⟨_, rfl⟩
  have hd4 : IntKind.u64.wrap (q + 1) = a := by rw [IntKind.wrap_u64]; exact ha
  rw [ha] at hah
  obtain ⟨b, hb⟩ : ∃ b, (s - a) % 18446744073709551616 = b := ⟨_, rfl⟩
  have hd5 : IntKind.u64.wrap (s - a) = b := by rw [IntKind.wrap_u64]; exact hb
  rw [hb] at hah
  have hb0 : 0 ≤ b := by omega
  have hd6 : Int.tmod b 64 = b % 64 := Int.tmod_eq_emod_of_nonneg hb0
  have hd7 : IntKind.u64.wrap (1 + b % 64) = h := by rw [IntKind.wrap_u64]; omega
  have hd8 : IntKind.u64.wrap (q * g) = q * g := by have := hx.hi; rw [IntKind.wrap_u64]; omega
  have hd9 : IntKind.u64.wrap (h * g) = h * g := by rw [IntKind.wrap_u64]; omega
  generalize b % 64 = c at *
  generalize mulV (q + h) g = D at *
  generalize addO (q * g) (h * g) = O at *
  clear hx hn hs hg hgl hq hN h1 h2 q0 q1 q2 q3 h3 h4 hadd hah hT ha hb hb0
  go_enter Try.func18, Try.ntmps18
  go_wp2_with fail
  with_reducible refine HGr.out.mono ?_
  rintro e w1 ⟨rfl, rfl⟩
  go_wp2_with fail
  with_reducible refine HAdd.out.mono ?_
  rintro e w1 ⟨rfl, rfl⟩
  go_wp2
  go_ret2
  exact ⟨rfl, rfl⟩

theorem time_no {x n s : Int} (h : ¬ timeOk n s) (w : World) :
    Calls Try.prog 18 #[.int .u64 x, .int .i64 n, .int .i64 s] w fun e w' => e = .returned (.tuple #[.int .u64 0, .int .i64 2]) ∧ w' = w := by
  unfold timeOk at h
  by_cases hn : 0 ≤ n ∧ n < 8
  · obtain ⟨k, rfl⟩ := Int.eq_ofNat_of_zero_le hn.1
    have HGr := Lib.hid (gran_k (k := k) (by omega) w)
    have hgl := g8_lo (k := k) (by omega)
    have hge : (g8 k == 0) = false := by simp; omega
    generalize g8 k = g at *
    rcases Int.lt_or_le s 0 with h0 | h0
    · have hs1 : decide (s < 0) = true := decide_eq_true h0
      clear h hn hgl h0
      go_enter Try.func18, Try.ntmps18
      go_wp2_with fail
      with_reducible refine HGr.out.mono ?_
      rintro e w1 ⟨rfl, rfl⟩
      go_wp2
      go_ret2
      exact ⟨rfl, rfl⟩
    · have hs1 : decide (s < 0) = false := decide_eq_false (by omega)
      have hs2 : decide (64 ≤ s) = true := decide_eq_true (by omega)
      clear h hn hgl h0
      go_enter Try.func18, Try.ntmps18
      go_wp2_with fail
      with_reducible refine HGr.out.mono ?_
      rintro e w1 ⟨rfl, rfl⟩
      go_wp2
      go_ret2
      exact ⟨rfl, rfl⟩
  · have HGr := Lib.hid (gran_no (n := n) (by omega) w)
    clear h hn
    go_enter Try.func18, Try.ntmps18
    go_wp2_with fail
    with_reducible refine HGr.out.mono ?_
    rintro e w1 ⟨rfl, rfl⟩
    go_wp2
    go_ret2
    exact ⟨rfl, rfl⟩

theorem time_all {x : Int} (hx : Wd x) (n s : Int) (w : World) :
    Calls Try.prog 18 #[.int .u64 x, .int .i64 n, .int .i64 s] w fun e w' => e = .returned (.tuple #[.int .u64 (timeR x n s).1, .int .i64 (timeR x n s).2]) ∧ w' = w := by
  unfold timeR
  by_cases h : timeOk n s
  · rw [if_pos h]
    obtain ⟨h1, h2, h3, h4⟩ := h
    obtain ⟨k, rfl⟩ := Int.eq_ofNat_of_zero_le h1
    exact time_any hx (by omega) ⟨h3, h4⟩ w
  · rw [if_neg h]
    exact time_no h w

theorem rtime_any {x s : Int} {n : Nat} (hx : Wd x) (hn : n < 8) (hs : 0 ≤ s ∧ s < 64) (w : World) :
    Calls Try.prog 19 #[.int .u64 x, .int .i64 (n : Int), .int .i64 s] w fun e w' => e = .returned (.tuple #[.int .u64 (timeV x n s), .int .i64 0]) ∧ w' = w := by
  obtain ⟨g, hg⟩ : ∃ g, g8 n = g := ⟨_, rfl⟩
  obtain ⟨q, h, hq, hN, h1, h2, q0, q1, q2, q3, h3, h4, hadd, hah, hmod, hno, hcut, hin⟩ := ahead hx hs hn hg
  have hgl := g8_lo hn
  have HGr := Lib.hid (rgran_k hn w)
  rw [hg] at HGr hgl
  have hT : timeV x n s = mulV (q + h) g := by unfold timeV; rw [hg, hN]
  have HMul := Lib.hid (fun W => mul_any (k := q + h) (g := g) ⟨by omega, by omega⟩ (by omega) (cut_iff (by omega) hn hg) (Int.mul_nonneg (by omega) (by omega)) W)
  rw [hT]
  have hg0 : ¬ g = 0 := by omega
  have hge : (g == 0) = false := by simpa using hg0
  have hs1 : decide (s < 0) = false := decide_eq_false (by omega)
  have hs2 : decide (63 < s) = false := decide_eq_false (by omega)
  have hd1 : Int.tdiv x g = q := by rw [Int.tdiv_eq_ediv_of_nonneg hx.lo]; exact hq
  have hd2 : IntKind.u64.wrap q = q := by rw [IntKind.wrap_u64]; omega
  have hd3 : IntKind.u64.wrap s = s := by rw [IntKind.wrap_u64]; omega
  generalize mulV (q + h) g = D at *
  have HH := Lib.hid (show 1 ≤ h ∧ h ≤ 64 from ⟨h1, h2⟩)
  have HQ := Lib.hid q0
  have HM := Lib.hid hmod
  have HN := Lib.hid hno
  have HC := Lib.hid hcut
  have HI := Lib.hid hin
  clear hx hn hs hg hgl hq hN h1 h2 q0 q1 q2 q3 h3 h4 hadd hah hT hmod hno hcut hin
  go_enter Try.func19, Try.ntmps19
  go_wp2_with fail
  with_reducible refine HGr.out.mono ?_
  rintro e w1 ⟨rfl, rfl⟩
  go_wp2_with fail
  go_loopw [9] (fun v wr => ∃ j : Int, 1 ≤ j ∧ j ≤ h ∧ v = .int .u64 j ∧ wr = w1) (fun v _ => (h - intOf v).toNat)
  case atStart => exact ⟨1, by decide, HH.out.1, rfl, rfl⟩
  case round =>
    obtain ⟨j, j1, j2, rfl, rfl⟩ := hrel
    have j64 : j ≤ 64 := by have := HH.out; omega
    have hdj : decide (j ≤ 64) = true := decide_eq_true j64
    have hw1 : IntKind.u64.wrap (18446744073709551615 - j) = 18446744073709551615 - j := by rw [IntKind.wrap_u64]; omega
    by_cases hc : 18446744073709551615 - j < q
    · obtain rfl : D = 18446744073709551615 := HC.out j j1 j64 hc j2
      have hdc : decide (18446744073709551615 - j < q) = true := decide_eq_true hc
      clear hc j1 j2 j64
      go_wp2
      go_ret2
      exact ⟨rfl, rfl⟩
    · have hdc : decide (18446744073709551615 - j < q) = false := decide_eq_false hc
      have hle := HI.out j j1 j64 (by omega)
      have hq0 := HQ.out
      have hw2 : IntKind.u64.wrap (q + j) = q + j := by rw [IntKind.wrap_u64]; omega
      have hw3 : Int.tmod (q + j) 64 = (q + j) % 64 := Int.tmod_eq_emod_of_nonneg (by omega)
      by_cases hj : j = h
      · subst hj
        have hm := HM.out
        have hde : ((q + j) % 64 == s) = true := by simp [hm]
        rw [hm] at hw3 
        clear hc hle hq0 hm j1 j2 j64 hde
        have hde : (s == s) = true := by simp
        go_wp2_with fail
        with_reducible refine (HMul.out _).mono ?_
        rintro e w2 ⟨rfl, rfl⟩
        go_wp2
        go_ret2
        exact ⟨rfl, rfl⟩
      · have hm := HN.out j j1 (by omega)
        have hde : ((q + j) % 64 == s) = false := by simpa using hm
        generalize (q + j) % 64 = r at *
        clear hc hm hle hq0
        go_wp2_with fail
        go_roundw
        case rel => exact ⟨j + 1, by omega, by omega, by go_num, by trivial⟩
        case measure => simp [intOf]; omega

theorem rtime_no {x n s : Int} (h : ¬ timeOk n s) (w : World) :
    Calls Try.prog 19 #[.int .u64 x, .int .i64 n, .int .i64 s] w fun e w' => e = .returned (.tuple #[.int .u64 0, .int .i64 2]) ∧ w' = w := by
  unfold timeOk at h
  by_cases hn : 0 ≤ n ∧ n < 8
  · obtain ⟨k, rfl⟩ := Int.eq_ofNat_of_zero_le hn.1
    have HGr := Lib.hid (rgran_k (k := k) (by omega) w)
    have hgl := g8_lo (k := k) (by omega)
    have hge : (g8 k == 0) = false := by simp; omega
    generalize g8 k = g at *
    rcases Int.lt_or_le s 0 with h0 | h0
    · have hs1 : decide (s < 0) = true := decide_eq_true h0
      clear h hn hgl h0
      go_enter Try.func19, Try.ntmps19
      go_wp2_with fail
      with_reducible refine HGr.out.mono ?_
      rintro e w1 ⟨rfl, rfl⟩
      go_wp2
      go_ret2
      exact ⟨rfl, rfl⟩
    · have hs1 : decide (s < 0) = false := decide_eq_false (by omega)
      have hs2 : decide (63 < s) = true := decide_eq_true (by omega)
      clear h hn hgl h0
      go_enter Try.func19, Try.ntmps19
      go_wp2_with fail
      with_reducible refine HGr.out.mono ?_
      rintro e w1 ⟨rfl, rfl⟩
      go_wp2
      go_ret2
      exact ⟨rfl, rfl⟩
  · have HGr := Lib.hid (rgran_no (n := n) (by omega) w)
    clear h hn
    go_enter Try.func19, Try.ntmps19
    go_wp2_with fail
    with_reducible refine HGr.out.mono ?_
    rintro e w1 ⟨rfl, rfl⟩
    go_wp2
    go_ret2
    exact ⟨rfl, rfl⟩

theorem rtime_all {x : Int} (hx : Wd x) (n s : Int) (w : World) :
    Calls Try.prog 19 #[.int .u64 x, .int .i64 n, .int .i64 s] w fun e w' => e = .returned (.tuple #[.int .u64 (timeR x n s).1, .int .i64 (timeR x n s).2]) ∧ w' = w := by
  unfold timeR
  by_cases h : timeOk n s
  · rw [if_pos h]
    obtain ⟨h1, h2, h3, h4⟩ := h
    obtain ⟨k, rfl⟩ := Int.eq_ofNat_of_zero_le h1
    exact rtime_any hx (by omega) ⟨h3, h4⟩ w
  · rw [if_neg h]
    exact rtime_no h w

theorem kgran (w : World) : Calls Try.prog 13 #[.int .i64 2] w fun e w' => e = .returned (.int .u64 64) ∧ w' = w := gran_k (k := 2) (by decide) w
theorem kof1 (w : World) : Calls Try.prog 10 #[.int .u64 62] w fun e w' => e = .returned (.tuple #[.int .i64 0, .bool true]) ∧ w' = w := of_any 62 w
theorem kof2 (w : World) : Calls Try.prog 10 #[.int .u64 503] w fun e w' => e = .returned (.tuple #[.int .i64 1, .bool true]) ∧ w' = w := of_any 503 w
theorem kp1 (w : World) : Calls Try.prog 15 #[.int .u64 0, .int .u64 100] w fun e w' => e = .returned (.tuple #[.agg #[.int .i64 1, .int .i64 13, .int .u64 100, .int .u64 104], .int .i64 0]) ∧ Ch [] w w' :=
  place_any (f := 0) (a := 100) ⟨by decide, by decide⟩ ⟨by decide, by decide⟩ (by decide) w
theorem kp2 (w : World) : Calls Try.prog 15 #[.int .u64 100, .int .u64 100] w fun e w' => e = .returned (.tuple #[.agg #[.int .i64 0, .int .i64 37, .int .u64 101, .int .u64 101], .int .i64 0]) ∧ Ch [] w w' :=
  place_any (f := 100) (a := 100) ⟨by decide, by decide⟩ ⟨by decide, by decide⟩ (by decide) w
theorem kt (w : World) : Calls Try.prog 18 #[.int .u64 104, .int .i64 1, .int .i64 13] w fun e w' => e = .returned (.tuple #[.int .u64 616, .int .i64 0]) ∧ w' = w :=
  time_any (x := 104) (n := 1) (s := 13) ⟨by decide, by decide⟩ (by decide) ⟨by decide, by decide⟩ w

/-- The chapter's examples. -/
theorem known_any (w : World) : Calls Try.prog 12 #[] w fun e w' => e = .returned (.bool true) ∧ Ch [] w w' := by
  go_enter Try.func12, Try.ntmps12
  go_wp2_with fail
  with_reducible refine (kof1 w).mono ?_
  rintro e w1 ⟨rfl, rfl⟩
  go_wp2_with fail
  with_reducible refine (kof2 _).mono ?_
  rintro e w2 ⟨rfl, rfl⟩
  go_wp2_with fail
  with_reducible refine (kp1 _).mono ?_
  rintro e w3 ⟨rfl, hc3⟩
  have HC3 := Lib.hid (hc3.alloc (.cells #[.int .i64 1, .int .i64 13, .int .u64 100, .int .u64 104] 29))
  have HF3 := Lib.hid (Four.new w3 (.int .i64 1) (.int .i64 13) (.int .u64 100) (.int .u64 104) 29)
  clear hc3
  go_wp2_with fail
  with_reducible refine (kp2 _).mono ?_
  rintro e w4 ⟨rfl, hc4⟩
  have HC4 := Lib.hid ((HC3.out.trans hc4).alloc (.cells #[.int .i64 0, .int .i64 37, .int .u64 101, .int .u64 101] 29))
  have HF4 := Lib.hid (Four.new w4 (.int .i64 0) (.int .i64 37) (.int .u64 101) (.int .u64 101) 29)
  have HE4 := Lib.hid ((HF3.out.ch hc4 (by simp)).ch ((Ch.refl [] w4).alloc (.cells #[.int .i64 0, .int .i64 37, .int .u64 101, .int .u64 101] 29)) (by simp))
  clear hc4
  go_wp2_with fail
  with_reducible refine (kt _).mono ?_
  rintro e w5 ⟨rfl, rfl⟩
  go_wp2_with fail
  with_reducible refine (kgran _).mono ?_
  rintro e w5 ⟨rfl, rfl⟩
  obtain ⟨a0, a1, a2, a3⟩ := HF4.out
  obtain ⟨b0, b1, b2, b3⟩ := HE4.out
  go_wp2
  go_ret
  exact ⟨rfl, HC4.out⟩
end Go.Proofs.Ytnbfficaadlphaa
