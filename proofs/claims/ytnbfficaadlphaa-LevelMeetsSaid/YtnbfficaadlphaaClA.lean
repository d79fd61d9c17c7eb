/-
  Ticks: sums that are cut, what is left, deadlines, what is clamped: the program's answers and the document's.
-/
import Derived.Test.YtnbfficaadlphaaBase
namespace Go.Proofs.Ytnbfficaadlphaa
open Go.RowKit

attribute [local go_sem] Oper.semAt_some

/-- A word of 64 bits. -/
structure Wd (a : Int) : Prop where
  lo : 0 ≤ a
  hi : a ≤ 18446744073709551615

/-- The sum, cut; whether it isn't. -/
def addV (a b : Int) : Int := if 18446744073709551615 - a < b then 18446744073709551615 else a + b
def addO (a b : Int) : Bool := !decide (18446744073709551615 - a < b)
def leftV (a b : Int) : Int := if b < a then 0 else b - a
def deadV (now d : Int) (abs : Bool) : Int := if abs then max d now else addV now d
def clampV (f a h : Int) : Int := min (max a (addV f 1)) (addV f h)

theorem addV_wd {a b : Int} (ha : Wd a) (hb : Wd b) : Wd (addV a b) := by
  obtain ⟨h1, h2⟩ := ha
  obtain ⟨h3, h4⟩ := hb
  unfold addV
  split <;> constructor <;> omega
theorem addV_ge {a b : Int} (ha : Wd a) (hb : Wd b) : a ≤ addV a b := by
  obtain ⟨h1, h2⟩ := ha
  obtain ⟨h3, h4⟩ := hb
  unfold addV
  split <;> omega
theorem deadV_wd {a b : Int} {s : Bool} (ha : Wd a) (hb : Wd b) : Wd (deadV a b s) := by
  unfold deadV
  cases s with
  | false => exact addV_wd ha hb
  | true =>
    obtain ⟨h1, h2⟩ := ha
    obtain ⟨h3, h4⟩ := hb
    simp only [if_true]
    constructor <;> omega
theorem one_wd : Wd 1 := ⟨by decide, by decide⟩

theorem add_any {a b : Int} (ha : Wd a) (hb : Wd b) (w : World) :
    Calls Try.prog 22 #[.int .u64 a, .int .u64 b] w fun e w' => e = .returned (.tuple #[.int .u64 (addV a b), .bool (addO a b)]) ∧ w' = w := by
  obtain ⟨h1, h2⟩ := ha
  obtain ⟨h3, h4⟩ := hb
  obtain ⟨X, hX⟩ : ∃ X, 18446744073709551615 - a = X := ⟨_, rfl⟩
  have hw : IntKind.u64.wrap (18446744073709551615 - a) = X := by rw [IntKind.wrap_u64]; omega
  by_cases h : X < b
  · have e1 : addV a b = 18446744073709551615 := by unfold addV; rw [if_pos (by omega)]
    have e2 : addO a b = false := by unfold addO; rw [decide_eq_true (by omega)]; rfl
    have hd : decide (X < b) = true := decide_eq_true h
    rw [e1, e2]
    clear e1 e2 h h1 h2 h3 h4 hX
    go_enter Try.func22, Try.ntmps22
    go_wp2
    go_ret2
    exact ⟨rfl, rfl⟩
  · have e1 : addV a b = a + b := by unfold addV; rw [if_neg (by omega)]
    have e2 : addO a b = true := by unfold addO; rw [decide_eq_false (by omega)]; rfl
    have hd : decide (X < b) = false := decide_eq_false h
    have hs : IntKind.u64.wrap (a + b) = a + b := by rw [IntKind.wrap_u64]; omega
    rw [e1, e2]
    clear e1 e2 h h1 h2 h3 h4 hX
    go_enter Try.func22, Try.ntmps22
    go_wp2
    go_ret2
    exact ⟨rfl, rfl⟩

/-- The document's sum, by halves. -/
theorem halves {a b : Int} (ha : Wd a) (hb : Wd b) : ∃ al ah bl bh : Int, a % 4294967296 = al ∧ a / 4294967296 = ah ∧ b % 4294967296 = bl ∧ b / 4294967296 = bh ∧
    0 ≤ al ∧ al < 4294967296 ∧ 0 ≤ ah ∧ ah < 4294967296 ∧ 0 ≤ bl ∧ bl < 4294967296 ∧ 0 ≤ bh ∧ bh < 4294967296 ∧ a = ah * 4294967296 + al ∧ b = bh * 4294967296 + bl := by
  obtain ⟨h1, h2⟩ := ha
  obtain ⟨h3, h4⟩ := hb
  exact ⟨_, _, _, _, rfl, rfl, rfl, rfl, by omega⟩

set_option maxHeartbeats 1000000 in
theorem radd_any {a b : Int} (ha : Wd a) (hb : Wd b) (w : World) :
    Calls Try.prog 27 #[.int .u64 a, .int .u64 b] w fun e w' => e = .returned (.tuple #[.int .u64 (addV a b), .bool (addO a b)]) ∧ w' = w := by
  obtain ⟨al, ah, bl, bh, r1, r2, r3, r4, p1, p2, p3, p4, p5, p6, p7, p8, ea, eb⟩ := halves ha hb
  have t1 : Int.tmod a 4294967296 = al := by rw [Int.tmod_eq_emod_of_nonneg ha.lo]; exact r1
  have t2 : Int.tdiv a 4294967296 = ah := by rw [Int.tdiv_eq_ediv_of_nonneg ha.lo]; exact r2
  have t3 : Int.tmod b 4294967296 = bl := by rw [Int.tmod_eq_emod_of_nonneg hb.lo]; exact r3
  have t4 : Int.tdiv b 4294967296 = bh := by rw [Int.tdiv_eq_ediv_of_nonneg hb.lo]; exact r4
  clear ha hb
  obtain ⟨L, hL⟩ : ∃ L, al + bl = L := ⟨_, rfl⟩
  obtain ⟨c, hc⟩ : ∃ c, L / 4294967296 = c := ⟨_, rfl⟩
  obtain ⟨l, hl⟩ : ∃ l, L % 4294967296 = l := ⟨_, rfl⟩
  obtain ⟨H, hH⟩ : ∃ H, ah + bh = H := ⟨_, rfl⟩
  obtain ⟨K, hK⟩ : ∃ K, H + c = K := ⟨_, rfl⟩
  have hc2 : 0 ≤ c ∧ c ≤ 1 ∧ 0 ≤ l ∧ l < 4294967296 ∧ L = c * 4294967296 + l := by clear r1 r2 r3 r4 t1 t2 t3 t4; omega
  have s1 : IntKind.u64.wrap (al + bl) = L := by rw [IntKind.wrap_u64]; clear r1 r2 r3 r4 t1 t2 t3 t4; omega
  have s2 : IntKind.u64.wrap (ah + bh) = H := by rw [IntKind.wrap_u64]; clear r1 r2 r3 r4 t1 t2 t3 t4; omega
  have s3 : Int.tdiv L 4294967296 = c := by rw [Int.tdiv_eq_ediv_of_nonneg (by clear r1 r2 r3 r4 t1 t2 t3 t4; omega)]; exact hc
  have s4 : IntKind.u64.wrap (H + c) = K := by rw [IntKind.wrap_u64]; clear r1 r2 r3 r4 t1 t2 t3 t4; omega
  have s8 : IntKind.u64.wrap ah = ah := by rw [IntKind.wrap_u64]; clear r1 r2 r3 r4 t1 t2 t3 t4; omega
  have s9 : IntKind.u64.wrap bh = bh := by rw [IntKind.wrap_u64]; clear r1 r2 r3 r4 t1 t2 t3 t4; omega
  have s0 : IntKind.u64.wrap c = c := by rw [IntKind.wrap_u64]; clear r1 r2 r3 r4 t1 t2 t3 t4; omega
  have s5 : Int.tmod L 4294967296 = l := by rw [Int.tmod_eq_emod_of_nonneg (by clear r1 r2 r3 r4 t1 t2 t3 t4; omega)]; exact hl
  by_cases h : 4294967296 ≤ K
  · have e1 : addV a b = 18446744073709551615 := by unfold addV; rw [if_pos (by clear r1 r2 r3 r4 t1 t2 t3 t4; omega)]
    have e2 : addO a b = false := by unfold addO; rw [decide_eq_true (by clear r1 r2 r3 r4 t1 t2 t3 t4; omega)]; rfl
    have hd : decide (4294967296 ≤ K) = true := decide_eq_true h
    rw [e1, e2]
    clear e1 e2 h p1 p2 p3 p4 p5 p6 p7 p8 ea eb hc2 hc hl hL hH hK r1 r2 r3 r4
    go_enter Try.func27, Try.ntmps27
    go_wp2
    go_ret2
    exact ⟨rfl, rfl⟩
  · have e1 : addV a b = a + b := by unfold addV; rw [if_neg (by clear r1 r2 r3 r4 t1 t2 t3 t4; omega)]
    have e2 : addO a b = true := by unfold addO; rw [decide_eq_false (by clear r1 r2 r3 r4 t1 t2 t3 t4; omega)]; rfl
    have hd : decide (4294967296 ≤ K) = false := decide_eq_false h
    obtain ⟨Y, hY⟩ : ∃ Y, K * 4294967296 = Y := ⟨_, rfl⟩
    have s6 : IntKind.u64.wrap (K * 4294967296) = Y := by rw [IntKind.wrap_u64]; clear r1 r2 r3 r4 t1 t2 t3 t4; omega
    have s7 : IntKind.u64.wrap (Y + l) = a + b := by rw [IntKind.wrap_u64]; clear r1 r2 r3 r4 t1 t2 t3 t4; omega
    rw [e1, e2]
    clear e1 e2 h p1 p2 p3 p4 p5 p6 p7 p8 ea eb hc2 hc hl hL hH hK r1 r2 r3 r4 hY
    go_enter Try.func27, Try.ntmps27
    go_wp2
    go_ret2
    exact ⟨rfl, rfl⟩
end Go.Proofs.Ytnbfficaadlphaa
