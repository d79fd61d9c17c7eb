/-
  The law LevelDues, walked.
-/
import Derived.Test.YtnbfficaadlphaaLvG
namespace Go.Proofs.Ytnbfficaadlphaa
open Go.RowKit Go.BigFrame

attribute [local go_sem] Oper.semAt_some

/-- Spots that came in, or that were handed on. -/
structure SpotsAt (w : World) (a : Option Addr) (len : Nat) (z : Nat → Int × Int × Int × Int) : Prop where
  at' : len = 0 ∨ ∃ b off, a = some ⟨b, off, none⟩ ∧ ∀ i, i < len → w.cell? ⟨b, off + i * 4, none⟩ = some (.int .i64 (z i).1) ∧ w.cell? ⟨b, off + i * 4 + 1, none⟩ = some (.int .i64 (z i).2.1) ∧
    w.cell? ⟨b, off + i * 4 + 2, none⟩ = some (.int .u64 (z i).2.2.1) ∧ w.cell? ⟨b, off + i * 4 + 3, none⟩ = some (.int .u64 (z i).2.2.2)
theorem SpotsAt.ch {w w' : World} {a : Option Addr} {len : Nat} {z : Nat → Int × Int × Int × Int} (h : SpotsAt w a len z) (hc : Ch [] w w') : SpotsAt w' a len z := by
  rcases h.at' with h0 | ⟨b, off, rfl, h1⟩
  · exact ⟨.inl h0⟩
  · refine ⟨.inr ⟨b, off, rfl, fun i hi => ?_⟩⟩
    obtain ⟨p0, p1, p2, p3⟩ := h1 i hi
    exact ⟨(hc.cell (cell_lt p0) (by simp)).trans p0, (hc.cell (cell_lt p1) (by simp)).trans p1, (hc.cell (cell_lt p2) (by simp)).trans p2, (hc.cell (cell_lt p3) (by simp)).trans p3⟩
theorem SpotsAt.take {w : World} {a : Option Addr} {len : Nat} {z : Nat → Int × Int × Int × Int} (h : SpotsAt w a len z) (k : Nat) (hk : k ≤ len) : SpotsAt w a k z := by
  rcases h.at' with h0 | ⟨b, off, rfl, h1⟩
  · exact ⟨.inl (by omega)⟩
  · exact ⟨.inr ⟨b, off, rfl, fun i hi => h1 i (by omega)⟩⟩

/-- The least time of the first k; whether all of them are right. -/
def dL (x : Int) (z : Nat → Int × Int × Int × Int) : Nat → Int
  | 0 => 18446744073709551615
  | k + 1 => if (timeR x (z k).1 (z k).2.1).1 < dL x z k then (timeR x (z k).1 (z k).2.1).1 else dL x z k
def dB (z : Nat → Int × Int × Int × Int) : Nat → Bool
  | 0 => true
  | k + 1 => dB z k && decide (timeOk (z k).1 (z k).2.1)
theorem dB_false {z : Nat → Int × Int × Int × Int} {k m : Nat} (h : dB z k = false) (hk : k ≤ m) : dB z m = false := by
  induction m with
  | zero => rw [show k = 0 by omega] at h; exact h
  | succ m ih =>
    by_cases e : k = m + 1
    · rw [← e]; exact h
    · show (dB z m && _) = false
      rw [ih (by omega)]
      rfl
theorem timeR_err (x n s : Int) : (timeR x n s).2 = if timeOk n s then 0 else 2 := by
  unfold timeR
  split <;> rfl

/-- What the closure of Dues tells. -/
theorem asks_any {w : World} {B : Nat} {x : Int} (hx : Wd x) (hB : w.cell? ⟨B, 0, none⟩ = some (.int .u64 x)) (n s c D : Int) :
    Calls Try.prog 26 #[.agg #[.int .i64 n, .int .i64 s, .int .u64 c, .int .u64 D], .pointer (some ⟨B, 0, none⟩)] w fun e w' => e = .returned (.tuple #[.int .u64 (timeR x n s).1, .int .i64 (timeR x n s).2]) ∧ Ch [] w w' := by
  have hal := (Ch.refl [] w).alloc (.cells #[.int .i64 n, .int .i64 s, .int .u64 c, .int .u64 D] 29)
  have HC := Lib.hid hal
  have hb := (hal.cell (cell_lt hB) (by simp)).trans hB
  obtain ⟨c0, c1, c2, c3⟩ := Four.new w (.int .i64 n) (.int .i64 s) (.int .u64 c) (.int .u64 D) 29
  have HT := Lib.hid (fun W => time_all hx n s W)
  generalize (timeR x n s).1 = T at *
  generalize (timeR x n s).2 = E at *
  clear hx hal hB c2 c3
  go_enter Try.func26, Try.ntmps26
  go_wp2_with fail
  with_reducible refine (HT.out _).mono ?_
  rintro e w1 ⟨rfl, rfl⟩
  go_wp2
  go_ret2
  exact ⟨rfl, HC.out⟩

set_option maxHeartbeats 2000000 in
theorem least_any {w : World} {B : Nat} {x : Int} {a : Option Addr} {len cap : Nat} {z : Nat → Int × Int × Int × Int} (hx : Wd x) (hB : w.cell? ⟨B, 0, none⟩ = some (.int .u64 x)) (hz : SpotsAt w a len z) (hl : len ≤ 9223372036854775807) :
    Calls Try.prog 25 #[.slice a len cap, .func (.func 26) #[] #[.pointer (some ⟨B, 0, none⟩)]] w fun e w' =>
      e = .returned (.tuple #[.int .u64 (if decide (0 < len) && dB z len then dL x z len else 0), .bool (decide (0 < len) && dB z len)]) ∧ Ch [] w w' := by
  have HZ := Lib.hid hz
  have HL := Lib.hid hl
  have HA := Lib.hid (fun W (h : Ch [] w W) => asks_any (w := W) hx ((h.cell (cell_lt hB) (by simp)).trans hB))
  clear hz hl hB hx
  by_cases h0 : len = 0
  · subst h0
    go_enter Try.func25, Try.ntmps25
    go_wp2
    go_ret2
    exact ⟨rfl, Ch.refl _ _⟩
  have hne : ((len : Int) == 0) = false := by simpa using h0
  rw [show decide (0 < len) = true from decide_eq_true (by omega), Bool.true_and]
  obtain ⟨R, hR⟩ : ∃ R, R = if dB z len = true then dL x z len else 0 := ⟨_, rfl⟩
  have HR := Lib.hid hR
  rw [← hR]
  obtain ⟨O, hO⟩ : ∃ O, O = dB z len := ⟨_, rfl⟩
  have HO := Lib.hid hO
  rw [← hO]
  clear hR hO h0
  go_enter Try.func25, Try.ntmps25
  go_wp2_with fail
  go_loopw [6, 16] (fun dv v wr => ∃ k : Nat, k ≤ len ∧ v = .int .i64 (k : Int) ∧ dv = .int .u64 (dL x z k) ∧ dB z k = true ∧ Ch [] w wr) (fun _ v _ => len - (intOf v).toNat)
  case atStart => exact ⟨0, Nat.zero_le _, rfl, rfl, rfl, Ch.refl _ _⟩
  case round =>
    obtain ⟨k, hk, rfl, rfl, hb, hc⟩ := hrel
    have HB := Lib.hid hb
    have HC := Lib.hid hc
    have hL := HL.out
    clear hb hc
    by_cases hlt : k < len
    · obtain ⟨g, off, rfl, hcell⟩ := (HZ.out.ch HC.out).at'.resolve_left (by omega)
      obtain ⟨p0, p1, p2, p3⟩ := hcell k hlt
      have hb0 : (0 : Int) ≤ (k : Int) := by omega
      have hb1 : (k : Int) < (len : Int) := by omega
      have HE := Lib.hid (show dL x z (k + 1) = if (timeR x (z k).1 (z k).2.1).1 < dL x z k then (timeR x (z k).1 (z k).2.1).1 else dL x z k from rfl)
      have HD := Lib.hid (show dB z (k + 1) = (dB z k && decide (timeOk (z k).1 (z k).2.1)) from rfl)
      have HX := Lib.hid (timeR_err x (z k).1 (z k).2.1)
      have hal := (Ch.refl [] wr).alloc (.cells #[.int .i64 (z k).1, .int .i64 (z k).2.1, .int .u64 (z k).2.2.1, .int .u64 (z k).2.2.2] 29)
      have HAl := Lib.hid (HC.out.trans hal)
      have HAk := Lib.hid (HA.out _ HAl.out (z k).1 (z k).2.1 (z k).2.2.1 (z k).2.2.2)
      obtain ⟨q0, q1, q2, q3⟩ := Four.new wr (.int .i64 (z k).1) (.int .i64 (z k).2.1) (.int .u64 (z k).2.2.1) (.int .u64 (z k).2.2.2) 29
      generalize dL x z k = U at *
      generalize (timeR x (z k).1 (z k).2.1).1 = T at *
      generalize (timeR x (z k).1 (z k).2.1).2 = Er at *
      by_cases hok : timeOk (z k).1 (z k).2.1
      · obtain rfl : Er = 0 := by rw [HX.out, if_pos hok]
        have HD2 := Lib.hid (show dB z (k + 1) = true by rw [HD.out, HB.out, decide_eq_true hok]; rfl)
        clear hok HX hcell
        generalize (z k).1 = z0 at *
        generalize (z k).2.1 = z1 at *
        generalize (z k).2.2.1 = z2 at *
        generalize (z k).2.2.2 = z3 at *
        clear HD hal
        go_wp2_with fail
        with_reducible refine HAk.out.mono ?_
        rintro e w1 ⟨rfl, hc1⟩
        have HC1 := Lib.hid (HAl.out.trans hc1)
        clear hc1 p0 p1 p2 p3 q0 q1 q2 q3
        obtain ⟨M, hM⟩ : ∃ M, (if T < U then T else U) = M := ⟨_, rfl⟩
        have HE2 := Lib.hid (show dL x z (k + 1) = M by rw [HE.out, hM])
        go_wp2_with fail
        go_roundw
        case rel => exact ⟨k + 1, by omega, by go_num, by rw [HE2.out], HD2.out, HC1.out⟩
        case measure => simp [intOf]; omega
      · obtain rfl : Er = 2 := by rw [HX.out, if_neg hok]
        have hD2 : dB z (k + 1) = false := by rw [HD.out, decide_eq_false hok]; simp
        obtain rfl : O = false := by rw [HO.out]; exact dB_false hD2 (by omega)
        obtain rfl : R = 0 := by rw [HR.out, dB_false hD2 (show k + 1 ≤ len by omega)]; rfl
        clear hok HX hcell hD2
        generalize (z k).1 = z0 at *
        generalize (z k).2.1 = z1 at *
        generalize (z k).2.2.1 = z2 at *
        generalize (z k).2.2.2 = z3 at *
        clear HD hal
        go_wp2_with fail
        with_reducible refine HAk.out.mono ?_
        rintro e w1 ⟨rfl, hc1⟩
        have HC1 := Lib.hid (HAl.out.trans hc1)
        clear hc1 p0 p1 p2 p3 q0 q1 q2 q3
        go_wp2
        go_ret2
        exact ⟨rfl, HC1.out⟩
    · obtain rfl : k = len := by omega
      obtain rfl : O = true := by rw [HO.out]; exact HB.out
      obtain rfl : R = dL x z k := by rw [HR.out, HB.out]; rfl
      clear hlt hk
      go_wp2
      go_ret2
      exact ⟨rfl, HC.out⟩

theorem dues_any {w : World} {x : Int} {a : Option Addr} {len cap : Nat} {z : Nat → Int × Int × Int × Int} (hx : Wd x) (hz : SpotsAt w a len z) (hl : len ≤ 9223372036854775807) :
    Calls Try.prog 20 #[.int .u64 x, .slice a len cap] w fun e w' =>
      e = .returned (.tuple #[.int .u64 (if decide (0 < len) && dB z len then dL x z len else 0), .bool (decide (0 < len) && dB z len)]) ∧ Ch [] w w' := by
  have hal := (Ch.refl [] w).alloc (.cells #[.int .u64 x] 22)
  have HN := Lib.hid (least_any (cap := cap) hx (cell_new w (.int .u64 x) 22).1 (hz.ch hal) hl)
  have HC := Lib.hid hal
  generalize (if decide (0 < len) && dB z len then dL x z len else 0) = R at *
  generalize (decide (0 < len) && dB z len) = O at *
  clear hx hz hl hal
  go_enter Try.func20, Try.ntmps20
  go_wp2_with fail
  with_reducible refine HN.out.mono ?_
  rintro e w1 ⟨rfl, hc1⟩
  have HC1 := Lib.hid (HC.out.trans hc1)
  clear hc1
  go_wp2
  go_ret2
  exact ⟨rfl, HC1.out⟩

set_option maxHeartbeats 2000000 in
theorem dues_law {x : Int} (hx : Wd x) (a : Option Addr) (len cap : Nat) (z : Nat → Int × Int × Int × Int) (w : World) (hl : len ≤ cap) (hcap : cap ≤ 9223372036854775807) (hz : SpotsAt w a len z) :
    Calls Try.prog 9 #[.int .u64 x, .slice a len cap] w fun e w' => e = .returned (.bool true) ∧ Below w.heap.size w w' := by
  obtain ⟨m, hm⟩ : ∃ m, m = min len 40 := ⟨_, rfl⟩
  have hmin : (if (40 : Int) < (len : Int) then (40 : Int) else (len : Int)) = (m : Int) := by split <;> omega
  have hdm : decide ((m : Int) < 0) = false := decide_eq_false (by omega)
  have hmc : (m : Int) ≤ (cap : Int) := by omega
  have HZ := Lib.hid (hz.take m (by omega))
  have HM := Lib.hid (show m ≤ 9223372036854775807 by omega)
  have hm40 : m ≤ 40 := by omega
  have HX := Lib.hid hx
  have HI := Lib.hid (show decide ((0 : Int) < (m : Int)) = decide (0 < m) by rw [decide_eq_decide]; omega)
  obtain ⟨P, hP⟩ : ∃ P, decide (0 < m) = P := ⟨_, rfl⟩
  have HP := Lib.hid hP
  have hpm : decide ((0 : Int) < (m : Int)) = P := by rw [← hP]; exact HI.out
  clear hm hl hz hx hP
  go_enter Try.func9, Try.ntmps9
  go_wp2_with fail
  clear hmin hmc hpm
  go_loopw [5, 6, 7] (fun lv bv iv wr => ∃ i : Nat, i ≤ m ∧ iv = .int .i64 (i : Int) ∧ lv = .int .u64 (dL x z i) ∧ bv = .bool (P && dB z i) ∧ Ch [] w wr) (fun _ _ iv _ => m - (intOf iv).toNat)
  case atStart => exact ⟨0, Nat.zero_le _, rfl, rfl, by simpa [dB] using HP.out, Ch.refl _ _⟩
  case round =>
    obtain ⟨i, hi, rfl, rfl, rfl, hc⟩ := hrel
    have HC := Lib.hid hc
    clear hc
    by_cases hlt : i < m
    · obtain ⟨g0, off, rfl, hcell⟩ := (HZ.out.ch HC.out).at'.resolve_left (by omega)
      obtain ⟨p0, p1, -, -⟩ := hcell i hlt
      have hb0 : (0 : Int) ≤ (i : Int) := by omega
      have hb1 : (i : Int) < (m : Int) := by omega
      have HE := Lib.hid (show dL x z (i + 1) = if (timeR x (z i).1 (z i).2.1).1 < dL x z i then (timeR x (z i).1 (z i).2.1).1 else dL x z i from rfl)
      have HD := Lib.hid (show dB z (i + 1) = (dB z i && decide (timeOk (z i).1 (z i).2.1)) from rfl)
      have HR := Lib.hid (timeR_err x (z i).1 (z i).2.1)
      have HT := Lib.hid (fun W => rtime_all HX.out (z i).1 (z i).2.1 W)
      obtain rfl : P = true := by rw [← HP.out]; exact decide_eq_true (by omega)
      obtain ⟨G, f', hf1, hf2⟩ := worlds_of wr
      have hx0 : ∀ g : G, (f' g).cell? ⟨g0, off + i * 4, none⟩ = some (.int .i64 (z i).1) := fun g => ((hf1 g).cell (cell_lt p0) (by simp)).trans p0
      have hx1 : ∀ g : G, (f' g).cell? ⟨g0, off + i * 4 + 1, none⟩ = some (.int .i64 (z i).2.1) := fun g => ((hf1 g).cell (cell_lt p1) (by simp)).trans p1
      have hne : Nonempty G := ⟨(hf2 wr (Ch.refl _ _)).choose⟩
      have HX1 := Lib.hid hf1
      have HX2 := Lib.hid hf2
      have HQ := Ch.refl [] wr
      generalize dL x z i = U at *
      generalize dB z i = Bo at *
      generalize (timeR x (z i).1 (z i).2.1).1 = T at *
      generalize (timeR x (z i).1 (z i).2.1).2 = Er at *
      by_cases hok : timeOk (z i).1 (z i).2.1
      · obtain rfl : Er = 0 := by rw [HR.out, if_pos hok]
        have HD2 := Lib.hid (show dB z (i + 1) = Bo by rw [HD.out, decide_eq_true hok, Bool.and_true])
        clear hok HR HD hcell p0 p1 hf1 hf2
        generalize (z i).1 = z0 at *
        generalize (z i).2.1 = z1 at *
        obtain ⟨M, hM⟩ : ∃ M, (if T < U then T else U) = M := ⟨_, rfl⟩
        have HE2 := Lib.hid (show dL x z (i + 1) = M by rw [HE.out, hM])
        cases Bo with
        | true =>
          go_wp2_with fail
          refine wp_region_worlds f' (by kernel_rfl) (by kernel_rfl) (HX2.out _ HQ.drew) ?_
          repeat (go_big_quiet_step (first
            | (with_reducible refine (HT.out _).mono ?_; rintro r w' ⟨rfl, rfl⟩; exact ⟨rfl, _, rfl⟩)))
          refine wpQuiet_nil ?_
          rintro _ ⟨gz, rfl⟩
          have HZ2 := Lib.hid (HC.out.trans (HX1.out gz))
          generalize f' gz = wz at *
          clear hx0 hx1 hne HQ
          go_wp2_with fail
          go_roundw
          case rel => exact ⟨i + 1, by omega, by go_num, by rw [HE2.out], by rw [HD2.out]; rfl, HZ2.out⟩
          case measure => simp [intOf]; omega
        | false =>
          go_wp2_with fail
          refine wp_region_worlds f' (by kernel_rfl) (by kernel_rfl) (HX2.out _ HQ.drew) ?_
          repeat (go_big_quiet_step (first
            | (with_reducible refine (HT.out _).mono ?_; rintro r w' ⟨rfl, rfl⟩; exact ⟨rfl, _, rfl⟩)))
          refine wpQuiet_nil ?_
          rintro _ ⟨gz, rfl⟩
          have HZ2 := Lib.hid (HC.out.trans (HX1.out gz))
          generalize f' gz = wz at *
          clear hx0 hx1 hne HQ
          go_wp2_with fail
          go_roundw
          case rel => exact ⟨i + 1, by omega, by go_num, by rw [HE2.out], by rw [HD2.out]; rfl, HZ2.out⟩
          case measure => simp [intOf]; omega
      · obtain rfl : Er = 2 := by rw [HR.out, if_neg hok]
        have HD2 := Lib.hid (show dB z (i + 1) = false by rw [HD.out, decide_eq_false hok, Bool.and_false])
        clear hok HR HD hcell p0 p1 hf1 hf2
        generalize (z i).1 = z0 at *
        generalize (z i).2.1 = z1 at *
        obtain ⟨M, hM⟩ : ∃ M, (if T < U then T else U) = M := ⟨_, rfl⟩
        have HE2 := Lib.hid (show dL x z (i + 1) = M by rw [HE.out, hM])
        cases Bo with
        | true =>
          go_wp2_with fail
          refine wp_region_worlds f' (by kernel_rfl) (by kernel_rfl) (HX2.out _ HQ.drew) ?_
          repeat (go_big_quiet_step (first
            | (with_reducible refine (HT.out _).mono ?_; rintro r w' ⟨rfl, rfl⟩; exact ⟨rfl, _, rfl⟩)))
          refine wpQuiet_nil ?_
          rintro _ ⟨gz, rfl⟩
          have HZ2 := Lib.hid (HC.out.trans (HX1.out gz))
          generalize f' gz = wz at *
          clear hx0 hx1 hne HQ
          go_wp2_with fail
          go_roundw
          case rel => exact ⟨i + 1, by omega, by go_num, by rw [HE2.out], by rw [HD2.out]; rfl, HZ2.out⟩
          case measure => simp [intOf]; omega
        | false =>
          go_wp2_with fail
          refine wp_region_worlds f' (by kernel_rfl) (by kernel_rfl) (HX2.out _ HQ.drew) ?_
          repeat (go_big_quiet_step (first
            | (with_reducible refine (HT.out _).mono ?_; rintro r w' ⟨rfl, rfl⟩; exact ⟨rfl, _, rfl⟩)))
          refine wpQuiet_nil ?_
          rintro _ ⟨gz, rfl⟩
          have HZ2 := Lib.hid (HC.out.trans (HX1.out gz))
          generalize f' gz = wz at *
          clear hx0 hx1 hne HQ
          go_wp2_with fail
          go_roundw
          case rel => exact ⟨i + 1, by omega, by go_num, by rw [HE2.out], by rw [HD2.out]; rfl, HZ2.out⟩
          case measure => simp [intOf]; omega
    · obtain rfl : i = m := by omega
      clear hlt hi
      have HDu := Lib.hid (fun W (h : Ch [] w W) => dues_any (cap := cap) HX.out (HZ.out.ch h) HM.out)
      rw [HP.out] at HDu
      generalize dL x z i = U at *
      generalize dB z i = Bo at *
      obtain ⟨V, hV⟩ : ∃ V, (P && Bo) = V := ⟨_, rfl⟩
      rw [hV] at HDu ⊢
      clear hV HP HI
      cases V with
      | true =>
        simp only [if_true] at HDu
        go_wp2_with fail
        with_reducible refine (HDu.out _ HC.out).mono ?_
        rintro e w3 ⟨rfl, hc3⟩
        have HC3 := Lib.hid (HC.out.trans hc3)
        clear hc3
        go_wp2_with fail
        with_reducible refine (known_any _).mono ?_
        rintro e w4 ⟨rfl, hc4⟩
        have HC4 := Lib.hid (HC3.out.trans hc4)
        clear hc4
        go_wp2
        go_ret
        exact ⟨rfl, HC4.out.below _ (by simp) (Nat.le_refl _)⟩
      | false =>
        simp only [Bool.false_eq_true, if_false] at HDu
        go_wp2_with fail
        with_reducible refine (HDu.out _ HC.out).mono ?_
        rintro e w3 ⟨rfl, hc3⟩
        have HC3 := Lib.hid (HC.out.trans hc3)
        clear hc3
        go_wp2_with fail
        with_reducible refine (known_any _).mono ?_
        rintro e w4 ⟨rfl, hc4⟩
        have HC4 := Lib.hid (HC3.out.trans hc4)
        clear hc4
        go_wp2
        go_ret
        exact ⟨rfl, HC4.out.below _ (by simp) (Nat.le_refl _)⟩
end Go.Proofs.Ytnbfficaadlphaa
