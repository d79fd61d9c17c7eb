/-
  Ticks: sums that are cut, what is left, deadlines, what is clamped: the program's answers and the document's.
  Deadlines, what is clamped: the program's answers and the document's; the chapter's examples.
  Plain: granularities, levels, spots, when a slot is due.
  Granularities, the level of a distance: the program's answers and the document's.
  A deadline's spot: the program's answer and the document's.
  When a slot is due: the program's answer and the document's; the chapter's examples.
  The law LevelDues, walked.
-/
import Derived.Test.YtnndofeomakpiaaGreatDoorMgA
import Derived.WalkMore
namespace Go.Proofs.YtnndofeomakpiaaGreatDoor
open Go.RowKit

attribute [local go_sem] Oper.semAt_some

/-- A word of 64 bits. -/
structure Wd (a : Int) : Prop where
  lo : 0 ≤ a
  hi : a ≤ 18446744073709551615

/-- The sum, cut; whether it isn't. -/
def addV (a b : Int) : Int := if 18446744073709551615 - a < b then 18446744073709551615 else a + b
def addO (a b : Int) : Bool := !decide (18446744073709551615 - a < b)
def leftV (a b : Int) : Int := if b < a then 0 else b - a
def deadV (now d : Int) (abs : Bool) : Int := if abs then max d now else addV now d
def clampV (f a h : Int) : Int := min (max a (addV f 1)) (addV f h)

theorem addV_wd {a b : Int} (ha : Wd a) (hb : Wd b) : Wd (addV a b) := by
  obtain ⟨h1, h2⟩ := ha
  obtain ⟨h3, h4⟩ := hb
  unfold addV
  split <;> constructor <;> omega
theorem addV_ge {a b : Int} (ha : Wd a) (hb : Wd b) : a ≤ addV a b := by
  obtain ⟨h1, h2⟩ := ha
  obtain ⟨h3, h4⟩ := hb
  unfold addV
  split <;> omega
theorem deadV_wd {a b : Int} {s : Bool} (ha : Wd a) (hb : Wd b) : Wd (deadV a b s) := by
  unfold deadV
  cases s with
  | false => exact addV_wd ha hb
  | true =>
    obtain ⟨h1, h2⟩ := ha
    obtain ⟨h3, h4⟩ := hb
    simp only [if_true]
    constructor <;> omega
theorem one_wd : Wd 1 := ⟨by decide, by decide⟩

theorem add_any {a b : Int} (ha : Wd a) (hb : Wd b) (w : World) :
    Calls Tryz.prog 65 #[.int .u64 a, .int .u64 b] w fun e w' => e = .returned (.tuple #[.int .u64 (addV a b), .bool (addO a b)]) ∧ w' = w := by
  obtain ⟨h1, h2⟩ := ha
  obtain ⟨h3, h4⟩ := hb
  obtain ⟨X, hX⟩ : ∃ X, 18446744073709551615 - a = X := ⟨_, rfl⟩
  have hw : IntKind.u64.wrap (18446744073709551615 - a) = X := by rw [IntKind.wrap_u64]; omega
  by_cases h : X < b
  · have e1 : addV a b = 18446744073709551615 := by unfold addV; rw [if_pos (by omega)]
    have e2 : addO a b = false := by unfold addO; rw [decide_eq_true (by omega)]; rfl
    have hd : decide (X < b) = true := decide_eq_true h
    rw [e1, e2]
    clear e1 e2 h h1 h2 h3 h4 hX
    go_enter Tryz.func65, Tryz.ntmps65
    go_wp2
    go_ret2
    exact ⟨rfl, rfl⟩
  · have e1 : addV a b = a + b := by unfold addV; rw [if_neg (by omega)]
    have e2 : addO a b = true := by unfold addO; rw [decide_eq_false (by omega)]; rfl
    have hd : decide (X < b) = false := decide_eq_false h
    have hs : IntKind.u64.wrap (a + b) = a + b := by rw [IntKind.wrap_u64]; omega
    rw [e1, e2]
    clear e1 e2 h h1 h2 h3 h4 hX
    go_enter Tryz.func65, Tryz.ntmps65
    go_wp2
    go_ret2
    exact ⟨rfl, rfl⟩

/-- The document's sum, by halves. -/
theorem halves {a b : Int} (ha : Wd a) (hb : Wd b) : ∃ al ah bl bh : Int, a % 4294967296 = al ∧ a / 4294967296 = ah ∧ b % 4294967296 = bl ∧ b / 4294967296 = bh ∧
    0 ≤ al ∧ al < 4294967296 ∧ 0 ≤ ah ∧ ah < 4294967296 ∧ 0 ≤ bl ∧ bl < 4294967296 ∧ 0 ≤ bh ∧ bh < 4294967296 ∧ a = ah * 4294967296 + al ∧ b = bh * 4294967296 + bl := by
  obtain ⟨h1, h2⟩ := ha
  obtain ⟨h3, h4⟩ := hb
  exact ⟨_, _, _, _, rfl, rfl, rfl, rfl, by omega⟩

set_option maxHeartbeats 1000000 in
theorem radd_any {a b : Int} (ha : Wd a) (hb : Wd b) (w : World) :
    Calls Tryz.prog 73 #[.int .u64 a, .int .u64 b] w fun e w' => e = .returned (.tuple #[.int .u64 (addV a b), .bool (addO a b)]) ∧ w' = w := by
  obtain ⟨al, ah, bl, bh, r1, r2, r3, r4, p1, p2, p3, p4, p5, p6, p7, p8, ea, eb⟩ := halves ha hb
  have t1 : Int.tmod a 4294967296 = al := by rw [Int.tmod_eq_emod_of_nonneg ha.lo]; exact r1
  have t2 : Int.tdiv a 4294967296 = ah := by rw [Int.tdiv_eq_ediv_of_nonneg ha.lo]; exact r2
  have t3 : Int.tmod b 4294967296 = bl := by rw [Int.tmod_eq_emod_of_nonneg hb.lo]; exact r3
  have t4 : Int.tdiv b 4294967296 = bh := by rw [Int.tdiv_eq_ediv_of_nonneg hb.lo]; exact r4
  clear ha hb
  obtain ⟨L, hL⟩ : ∃ L, al + bl = L := ⟨_, rfl⟩
  obtain ⟨c, hc⟩ : ∃ c, L / 4294967296 = c := ⟨_, rfl⟩
  obtain ⟨l, hl⟩ : ∃ l, L % 4294967296 = l := ⟨_, rfl⟩
  obtain ⟨H, hH⟩ : ∃ H, ah + bh = H := ⟨_, rfl⟩
  obtain ⟨K, hK⟩ : ∃ K, H + c = K := ⟨_, rfl⟩
  have hc2 : 0 ≤ c ∧ c ≤ 1 ∧ 0 ≤ l ∧ l < 4294967296 ∧ L = c * 4294967296 + l := by clear r1 r2 r3 r4 t1 t2 t3 t4; omega
  have s1 : IntKind.u64.wrap (al + bl) = L := by rw [IntKind.wrap_u64]; clear r1 r2 r3 r4 t1 t2 t3 t4; omega
  have s2 : IntKind.u64.wrap (ah + bh) = H := by rw [IntKind.wrap_u64]; clear r1 r2 r3 r4 t1 t2 t3 t4; omega
  have s3 : Int.tdiv L 4294967296 = c := by rw [Int.tdiv_eq_ediv_of_nonneg (by clear r1 r2 r3 r4 t1 t2 t3 t4; omega)]; exact hc
  have s4 : IntKind.u64.wrap (H + c) = K := by rw [IntKind.wrap_u64]; clear r1 r2 r3 r4 t1 t2 t3 t4; omega
  have s8 : IntKind.u64.wrap ah = ah := by rw [IntKind.wrap_u64]; clear r1 r2 r3 r4 t1 t2 t3 t4; omega
  have s9 : IntKind.u64.wrap bh = bh := by rw [IntKind.wrap_u64]; clear r1 r2 r3 r4 t1 t2 t3 t4; omega
  have s0 : IntKind.u64.wrap c = c := by rw [IntKind.wrap_u64]; clear r1 r2 r3 r4 t1 t2 t3 t4; omega
  have s5 : Int.tmod L 4294967296 = l := by rw [Int.tmod_eq_emod_of_nonneg (by clear r1 r2 r3 r4 t1 t2 t3 t4; omega)]; exact hl
  by_cases h : 4294967296 ≤ K
  · have e1 : addV a b = 18446744073709551615 := by unfold addV; rw [if_pos (by clear r1 r2 r3 r4 t1 t2 t3 t4; omega)]
    have e2 : addO a b = false := by unfold addO; rw [decide_eq_true (by clear r1 r2 r3 r4 t1 t2 t3 t4; omega)]; rfl
    have hd : decide (4294967296 ≤ K) = true := decide_eq_true h
    rw [e1, e2]
    clear e1 e2 h p1 p2 p3 p4 p5 p6 p7 p8 ea eb hc2 hc hl hL hH hK r1 r2 r3 r4
    go_enter Tryz.func73, Tryz.ntmps73
    go_wp2
    go_ret2
    exact ⟨rfl, rfl⟩
  · have e1 : addV a b = a + b := by unfold addV; rw [if_neg (by clear r1 r2 r3 r4 t1 t2 t3 t4; omega)]
    have e2 : addO a b = true := by unfold addO; rw [decide_eq_false (by clear r1 r2 r3 r4 t1 t2 t3 t4; omega)]; rfl
    have hd : decide (4294967296 ≤ K) = false := decide_eq_false h
    obtain ⟨Y, hY⟩ : ∃ Y, K * 4294967296 = Y := ⟨_, rfl⟩
    have s6 : IntKind.u64.wrap (K * 4294967296) = Y := by rw [IntKind.wrap_u64]; clear r1 r2 r3 r4 t1 t2 t3 t4; omega
    have s7 : IntKind.u64.wrap (Y + l) = a + b := by rw [IntKind.wrap_u64]; clear r1 r2 r3 r4 t1 t2 t3 t4; omega
    rw [e1, e2]
    clear e1 e2 h p1 p2 p3 p4 p5 p6 p7 p8 ea eb hc2 hc hl hL hH hK r1 r2 r3 r4 hY
    go_enter Tryz.func73, Tryz.ntmps73
    go_wp2
    go_ret2
    exact ⟨rfl, rfl⟩
end Go.Proofs.YtnndofeomakpiaaGreatDoor
namespace Go.Proofs.YtnndofeomakpiaaGreatDoor
open Go.RowKit

attribute [local go_sem] Oper.semAt_some

theorem clamp_any {f a h : Int} (hf : Wd f) (hh : Wd h) (w : World) :
    Calls Tryz.prog 62 #[.int .u64 f, .int .u64 a, .int .u64 h] w fun e w' => e = .returned (.int .u64 (clampV f a h)) ∧ w' = w := by
  have HA := Lib.hid (add_any hf one_wd w)
  have HB := Lib.hid (add_any hf hh w)
  unfold clampV
  generalize addV f 1 = L at *
  generalize addO f 1 = O1 at *
  generalize addV f h = H at *
  generalize addO f h = O2 at *
  clear hf hh
  rcases Int.lt_or_le a L with h1 | h1
  · have hd1 : decide (a < L) = true := by simpa using h1
    rw [show max a L = L by omega]
    rcases Int.lt_or_le H L with h2 | h2
    · have hd2 : decide (H < L) = true := by simpa using h2
      rw [show min L H = H by omega]
      go_enter Tryz.func62, Tryz.ntmps62
      go_wp2_with fail
      with_reducible refine HA.out.mono ?_
      rintro e w1 ⟨rfl, rfl⟩
      go_wp2_with fail
      with_reducible refine HB.out.mono ?_
      rintro e w2 ⟨rfl, rfl⟩
      go_wp2
      go_ret
      exact ⟨rfl, rfl⟩
    · have hd2 : decide (H < L) = false := by simpa using h2
      rw [show min L H = L by omega]
      go_enter Tryz.func62, Tryz.ntmps62
      go_wp2_with fail
      with_reducible refine HA.out.mono ?_
      rintro e w1 ⟨rfl, rfl⟩
      go_wp2_with fail
      with_reducible refine HB.out.mono ?_
      rintro e w2 ⟨rfl, rfl⟩
      go_wp2
      go_ret
      exact ⟨rfl, rfl⟩
  · have hd1 : decide (a < L) = false := by simpa using h1
    rw [show max a L = a by omega]
    rcases Int.lt_or_le H a with h2 | h2
    · have hd2 : decide (H < a) = true := by simpa using h2
      rw [show min a H = H by omega]
      go_enter Tryz.func62, Tryz.ntmps62
      go_wp2_with fail
      with_reducible refine HA.out.mono ?_
      rintro e w1 ⟨rfl, rfl⟩
      go_wp2_with fail
      with_reducible refine HB.out.mono ?_
      rintro e w2 ⟨rfl, rfl⟩
      go_wp2
      go_ret
      exact ⟨rfl, rfl⟩
    · have hd2 : decide (H < a) = false := by simpa using h2
      rw [show min a H = a by omega]
      go_enter Tryz.func62, Tryz.ntmps62
      go_wp2_with fail
      with_reducible refine HA.out.mono ?_
      rintro e w1 ⟨rfl, rfl⟩
      go_wp2_with fail
      with_reducible refine HB.out.mono ?_
      rintro e w2 ⟨rfl, rfl⟩
      go_wp2
      go_ret
      exact ⟨rfl, rfl⟩

theorem rclamp_any {f a h : Int} (hf : Wd f) (hh : Wd h) (w : World) :
    Calls Tryz.prog 58 #[.int .u64 f, .int .u64 a, .int .u64 h] w fun e w' => e = .returned (.int .u64 (clampV f a h)) ∧ w' = w := by
  have HA := Lib.hid (radd_any hf one_wd w)
  have HB := Lib.hid (radd_any hf hh w)
  unfold clampV
  generalize addV f 1 = L at *
  generalize addO f 1 = O1 at *
  generalize addV f h = H at *
  generalize addO f h = O2 at *
  clear hf hh
  rcases Int.lt_or_le a L with h1 | h1
  · have hd1 : decide (a < L) = true := by simpa using h1
    rw [show max a L = L by omega]
    rcases Int.lt_or_le H L with h2 | h2
    · have hd2 : decide (H < L) = true := by simpa using h2
      rw [show min L H = H by omega]
      go_enter Tryz.func58, Tryz.ntmps58
      go_wp2_with fail
      with_reducible refine HA.out.mono ?_
      rintro e w1 ⟨rfl, rfl⟩
      go_wp2_with fail
      with_reducible refine HB.out.mono ?_
      rintro e w2 ⟨rfl, rfl⟩
      go_wp2
      go_ret
      exact ⟨rfl, rfl⟩
    · have hd2 : decide (H < L) = false := by simpa using h2
      rw [show min L H = L by omega]
      go_enter Tryz.func58, Tryz.ntmps58
      go_wp2_with fail
      with_reducible refine HA.out.mono ?_
      rintro e w1 ⟨rfl, rfl⟩
      go_wp2_with fail
      with_reducible refine HB.out.mono ?_
      rintro e w2 ⟨rfl, rfl⟩
      go_wp2
      go_ret
      exact ⟨rfl, rfl⟩
  · have hd1 : decide (a < L) = false := by simpa using h1
    rw [show max a L = a by omega]
    rcases Int.lt_or_le H a with h2 | h2
    · have hd2 : decide (H < a) = true := by simpa using h2
      rw [show min a H = H by omega]
      go_enter Tryz.func58, Tryz.ntmps58
      go_wp2_with fail
      with_reducible refine HA.out.mono ?_
      rintro e w1 ⟨rfl, rfl⟩
      go_wp2_with fail
      with_reducible refine HB.out.mono ?_
      rintro e w2 ⟨rfl, rfl⟩
      go_wp2
      go_ret
      exact ⟨rfl, rfl⟩
    · have hd2 : decide (H < a) = false := by simpa using h2
      rw [show min a H = a by omega]
      go_enter Tryz.func58, Tryz.ntmps58
      go_wp2_with fail
      with_reducible refine HA.out.mono ?_
      rintro e w1 ⟨rfl, rfl⟩
      go_wp2_with fail
      with_reducible refine HB.out.mono ?_
      rintro e w2 ⟨rfl, rfl⟩
      go_wp2
      go_ret
      exact ⟨rfl, rfl⟩

end Go.Proofs.YtnndofeomakpiaaGreatDoor
namespace Go.Proofs.YtnndofeomakpiaaGreatDoor

/-- A level's granularity. -/
def g8 : Nat → Int
  | 0 => 1
  | k + 1 => g8 k * 8
/-- A distance's level; 8: none. -/
def ofN (d : Int) : Nat :=
  if d < 63 then 0 else if d < 504 then 1 else if d < 4032 then 2 else if d < 32256 then 3 else if d < 258048 then 4 else if d < 2064384 then 5 else if d < 16515072 then 6 else if d < 132120576 then 7 else 8
def ofL (d : Int) : Int := if ofN d = 8 then 0 else (ofN d : Int)
def granV (n : Int) : Int := if 0 ≤ n ∧ n < 8 then g8 n.toNat else 0
/-- The tick of so many granularities, cut. -/
def mulV (k g : Int) : Int := min (k * g) 18446744073709551615
/-- The number of a deadline's multiple. -/
def numV (a g : Int) : Int := (a + (g - 1)) / g
/-- The number of a slot's next multiple. -/
def nextV (x g s : Int) : Int := x / g + 1 + (s - (x / g + 1)) % 64

/-- A spot. -/
structure Sp where
  lv : Nat
  sl : Int
  at' : Int
  due : Int

def placeV (f a : Int) : Sp :=
  let c := clampV f a 132120575
  let n := ofN (c - f)
  ⟨n, numV c (g8 n) % 64, c, mulV (numV c (g8 n)) (g8 n)⟩
def timeV (x : Int) (n : Nat) (s : Int) : Int := mulV (nextV x (g8 n) s) (g8 n)

theorem eight {k : Nat} (h : k < 8) : k = 0 ∨ k = 1 ∨ k = 2 ∨ k = 3 ∨ k = 4 ∨ k = 5 ∨ k = 6 ∨ k = 7 := by omega
theorem g8_lo {k : Nat} (h : k < 8) : 1 ≤ g8 k ∧ g8 k ≤ 2097152 := by
  rcases eight h with h | h | h | h | h | h | h | h <;> subst h <;> decide
theorem ofN_le (d : Int) : ofN d ≤ 8 := by
  unfold ofN
  repeat' split
  all_goals decide
theorem ofN_iff (d : Int) {j : Nat} (h : j < 8) : d < 63 * g8 j ↔ ofN d ≤ j := by
  rcases eight h with h | h | h | h | h | h | h | h <;> subst h <;> simp only [g8] <;> unfold ofN <;> (repeat' split) <;> omega

theorem clampV_of {f a : Int} (hf : Wd f) (ha : Wd a) (hm : f ≠ 18446744073709551615) :
    clampV f a 132120575 = (if a ≤ f then f + 1 else if 132120575 < a - f then f + 132120575 else a) ∧ f + 1 ≤ clampV f a 132120575 ∧ clampV f a 132120575 ≤ f + 132120575 ∧ clampV f a 132120575 ≤ 18446744073709551615 := by
  obtain ⟨h1, h2⟩ := hf
  obtain ⟨h3, h4⟩ := ha
  unfold clampV addV
  repeat' split
  all_goals omega

/-- The program's way to a multiple: what is put on, and what that comes to. -/
theorem put_on {a : Int} (ha : Wd a) {k : Nat} (hk : k < 8) {g : Int} (hg : g8 k = g) :
    ∃ off, (g - a % g) % g = off ∧ 0 ≤ off ∧ off < g ∧ 0 ≤ g - a % g ∧ a + off = numV a g * g ∧ addV a off = mulV (numV a g) g ∧
      ((a + off) % 18446744073709551616) / g % 64 = numV a g % 64 ∧ numV a g = a / g + (if 0 < a % g then 1 else 0) := by
  obtain ⟨h1, h2⟩ := ha
  refine ⟨_, rfl, ?_⟩
  unfold numV addV mulV
  rcases eight hk with h | h | h | h | h | h | h | h <;> subst h <;> simp only [g8] at hg <;> subst hg <;> refine ⟨?_, ?_, ?_, ?_, ?_, ?_, ?_⟩ <;> (try split) <;> omega

theorem numV_wd {a : Int} (ha : Wd a) {k : Nat} (hk : k < 8) {g : Int} (hg : g8 k = g) : 0 ≤ numV a g ∧ (18446744073709551615 / g < numV a g ↔ 18446744073709551615 < numV a g * g) ∧ numV a g ≤ 18446744073709551615 := by
  obtain ⟨h1, h2⟩ := ha
  unfold numV
  rcases eight hk with h | h | h | h | h | h | h | h <;> subst h <;> simp only [g8] at hg <;> subst hg <;> omega

theorem mulV_wd {k g : Int} (h : 0 ≤ k) (hg : 0 ≤ g) : Wd (mulV k g) := by
  have := Int.mul_nonneg h hg
  unfold mulV
  constructor <;> omega

/-- How far it is to a slot's next multiple. -/
theorem ahead {x s : Int} (hx : Wd x) (hs : 0 ≤ s ∧ s < 64) {k : Nat} (hk : k < 8) {g : Int} (hg : g8 k = g) :
    ∃ q h : Int, x / g = q ∧ nextV x g s = q + h ∧ 1 ≤ h ∧ h ≤ 64 ∧ 0 ≤ q ∧ q ≤ 18446744073709551615 ∧ 0 ≤ q * g ∧ q * g ≤ x ∧ h * g ≤ 134217728 ∧ 0 ≤ h * g ∧
      addV (q * g) (h * g) = mulV (q + h) g ∧ ((s - (q + 1) % 18446744073709551616) % 18446744073709551616) % 64 + 1 = h ∧ (q + h) % 64 = s ∧
      (∀ j : Int, 1 ≤ j → j < h → (q + j) % 64 ≠ s) ∧ (∀ j : Int, 1 ≤ j → j ≤ 64 → 18446744073709551615 - j < q → j ≤ h → mulV (q + h) g = 18446744073709551615) ∧ (∀ j : Int, 1 ≤ j → j ≤ 64 → ¬ 18446744073709551615 - j < q → q + j ≤ 18446744073709551615) := by
  obtain ⟨h1, h2⟩ := hx
  refine ⟨x / g, 1 + (s - (x / g + 1)) % 64, rfl, ?_⟩
  unfold nextV mulV addV
  rcases eight hk with h | h | h | h | h | h | h | h <;> subst h <;> simp only [g8] at hg <;> subst hg <;>
    refine ⟨?_, ?_, ?_, ?_, ?_, ?_, ?_, ?_, ?_, ?_, ?_, ?_, ?_, ?_, ?_⟩ <;> (try (intro j)) <;> (try split) <;> omega

/-- Where a deadline stands. -/
theorem placed {f a : Int} (hf : Wd f) (ha : Wd a) (hm : f ≠ 18446744073709551615) :
    (placeV f a).lv < 8 ∧ 0 ≤ (placeV f a).sl ∧ (placeV f a).sl < 64 ∧ (placeV f a).at' ≤ (placeV f a).due ∧ (placeV f a).due < (placeV f a).at' + g8 (placeV f a).lv ∧ f < (placeV f a).due ∧ (placeV f a).due ≤ 18446744073709551615 ∧ Wd (placeV f a).at' ∧
      ∀ x, f ≤ x → x < (placeV f a).due → timeV x (placeV f a).lv (placeV f a).sl = (placeV f a).due := by
  obtain ⟨-, p1, p2, p3⟩ := clampV_of hf ha hm
  have hf0 := hf.lo
  unfold placeV timeV
  simp only []
  generalize clampV f a 132120575 = c at *
  have hd : ofN (c - f) < 8 := by
    have := (ofN_iff (c - f) (j := 7) (by decide)).1 (by simp only [g8]; omega)
    omega
  have hr : c - f < 63 * g8 (ofN (c - f)) := (ofN_iff (c - f) hd).2 (Nat.le_refl _)
  generalize ofN (c - f) = n at *
  clear ha hm
  unfold nextV mulV numV
  rcases eight hd with h | h | h | h | h | h | h | h <;> subst h <;> simp only [g8] at hr ⊢ <;>
    refine ⟨by omega, by omega, by omega, by omega, by omega, by omega, by omega, ⟨by omega, by omega⟩, ?_⟩ <;> intro x hx1 hx2 <;> omega
end Go.Proofs.YtnndofeomakpiaaGreatDoor
namespace Go.Proofs.YtnndofeomakpiaaGreatDoor
open Go.RowKit

attribute [local go_sem] Oper.semAt_some

theorem gran_k {k : Nat} (hk : k < 8) (w : World) : Calls Tryz.prog 64 #[.int .i64 (k : Int)] w fun e w' => e = .returned (.int .u64 (g8 k)) ∧ w' = w := by
  rcases eight hk with h | h | h | h | h | h | h | h <;> subst h <;> clear hk
  all_goals
    go_enter Tryz.func64, Tryz.ntmps64
    go_wp2
    go_ret
    exact ⟨rfl, rfl⟩
theorem gran_no {n : Int} (hn : n < 0 ∨ 8 ≤ n) (w : World) : Calls Tryz.prog 64 #[.int .i64 n] w fun e w' => e = .returned (.int .u64 0) ∧ w' = w := by
  rcases Int.lt_or_le n 0 with h | h
  · have hd : decide (n < 0) = true := decide_eq_true h
    clear h hn
    go_enter Tryz.func64, Tryz.ntmps64
    go_wp2
    go_ret
    exact ⟨rfl, rfl⟩
  · have hd : decide (n < 0) = false := decide_eq_false (by omega)
    have hd2 : decide (8 ≤ n) = true := decide_eq_true (by omega)
    clear h hn
    go_enter Tryz.func64, Tryz.ntmps64
    go_wp2
    go_ret
    exact ⟨rfl, rfl⟩
theorem gran_any (n : Int) (w : World) : Calls Tryz.prog 64 #[.int .i64 n] w fun e w' => e = .returned (.int .u64 (granV n)) ∧ w' = w := by
  by_cases h : 0 ≤ n ∧ n < 8
  · obtain ⟨k, rfl⟩ := Int.eq_ofNat_of_zero_le h.1
    have := gran_k (k := k) (by omega) w
    unfold granV
    rw [if_pos h]
    exact this
  · have := gran_no (n := n) (by omega) w
    unfold granV
    rw [if_neg h]
    exact this

theorem rgran_k {k : Nat} (hk : k < 8) (w : World) : Calls Tryz.prog 60 #[.int .i64 (k : Int)] w fun e w' => e = .returned (.int .u64 (g8 k)) ∧ w' = w := by
  have hd0 : decide ((k : Int) < 0) = false := decide_eq_false (by omega)
  have hd1 : decide ((7 : Int) < (k : Int)) = false := decide_eq_false (by omega)
  go_enter Tryz.func60, Tryz.ntmps60
  go_wp2_with fail
  go_loopw [3, 4] (fun g i wr => ∃ j : Nat, j ≤ k ∧ g = .int .u64 (g8 j) ∧ i = .int .i64 (j : Int) ∧ wr = w) (fun _ i _ => k - (intOf i).toNat)
  case atStart => exact ⟨0, Nat.zero_le _, rfl, rfl, rfl⟩
  case round =>
    obtain ⟨j, hj, rfl, rfl, rfl⟩ := hrel
    by_cases hlt : j < k
    · have hg := g8_lo (k := j) (by omega)
      have hs : IntKind.u64.wrap (g8 j * 8) = g8 (j + 1) := by rw [IntKind.wrap_u64]; show _ = g8 j * 8; omega
      have HS := Lib.hid hg
      clear hg
      go_wp2_with fail
      go_roundw
      case rel => exact ⟨j + 1, by omega, rfl, by go_num, by trivial⟩
      case measure => simp [intOf]; omega
    · obtain rfl : j = k := by omega
      clear hlt hj
      go_wp2
      go_ret
      exact ⟨rfl, rfl⟩
theorem rgran_no {n : Int} (hn : n < 0 ∨ 8 ≤ n) (w : World) : Calls Tryz.prog 60 #[.int .i64 n] w fun e w' => e = .returned (.int .u64 0) ∧ w' = w := by
  rcases Int.lt_or_le n 0 with h | h
  · have hd : decide (n < 0) = true := decide_eq_true h
    clear h hn
    go_enter Tryz.func60, Tryz.ntmps60
    go_wp2
    go_ret
    exact ⟨rfl, rfl⟩
  · have hd : decide (n < 0) = false := decide_eq_false (by omega)
    have hd2 : decide (7 < n) = true := decide_eq_true (by omega)
    clear h hn
    go_enter Tryz.func60, Tryz.ntmps60
    go_wp2
    go_ret
    exact ⟨rfl, rfl⟩
theorem rgran_any (n : Int) (w : World) : Calls Tryz.prog 60 #[.int .i64 n] w fun e w' => e = .returned (.int .u64 (granV n)) ∧ w' = w := by
  by_cases h : 0 ≤ n ∧ n < 8
  · obtain ⟨k, rfl⟩ := Int.eq_ofNat_of_zero_le h.1
    have := rgran_k (k := k) (by omega) w
    unfold granV
    rw [if_pos h]
    exact this
  · have := rgran_no (n := n) (by omega) w
    unfold granV
    rw [if_neg h]
    exact this

def ofB (d : Int) : Bool := !decide (ofN d = 8)

theorem of_any (d : Int) (w : World) : Calls Tryz.prog 63 #[.int .u64 d] w fun e w' => e = .returned (.tuple #[.int .i64 (ofL d), .bool (ofB d)]) ∧ w' = w := by
  have HI := Lib.hid (fun j h => ofN_iff d (j := j) h)
  have HE := Lib.hid (ofN_le d)
  have HL := Lib.hid (show ofL d = if ofN d = 8 then 0 else (ofN d : Int) from rfl)
  have HB := Lib.hid (show ofB d = !decide (ofN d = 8) from rfl)
  generalize ofL d = L at *
  generalize ofB d = B at *
  generalize ofN d = K at *
  go_enter Tryz.func63, Tryz.ntmps63
  go_wp2_with fail
  go_step3
  go_wp2_with fail
  go_step3
  go_wp2_with fail
  go_loopw [4] (fun i wr => ∃ j : Nat, j ≤ K ∧ i = .int .i64 (j : Int) ∧ wr = w) (fun i _ => K - (intOf i).toNat)
  case atStart => exact ⟨0, Nat.zero_le _, rfl, rfl⟩
  case round =>
    obtain ⟨j, hj, rfl, rfl⟩ := hrel
    by_cases h8 : j = 8
    · obtain rfl : K = 8 := by have := HE.out; omega
      obtain rfl : L = 0 := by rw [HL.out]; rfl
      obtain rfl : B = false := by rw [HB.out]; rfl
      have he : ((j : Int) == 8) = true := by simp [h8]
      clear h8 hj
      go_wp2
      try rw [Exit.noGoto_ret]
      go_ret2
      exact ⟨rfl, rfl⟩
    · have hj8 : j < 8 := by have := HE.out; omega
      have he : ((j : Int) == 8) = false := by simp; omega
      have HG := Lib.hid (gran_k hj8 wr)
      have hi := HI.out j hj8
      have HM := Lib.hid (show IntKind.u64.wrap (63 * g8 j) = 63 * g8 j by have := g8_lo hj8; rw [IntKind.wrap_u64]; omega)
      generalize g8 j = g at *
      by_cases hK : K ≤ j
      · obtain rfl : j = K := by omega
        obtain rfl : L = (j : Int) := by rw [HL.out, if_neg h8]
        obtain rfl : B = true := by rw [HB.out, decide_eq_false h8]; rfl
        have hdd : decide (d < 63 * g) = true := decide_eq_true (hi.2 hK)
        clear hK hi h8 hj hj8
        go_wp2_with fail
        with_reducible refine HG.out.mono ?_
        rintro e w1 ⟨rfl, rfl⟩
        have hm := HM.out
        go_wp2
        try rw [Exit.noGoto_ret]
        go_ret2
        exact ⟨rfl, rfl⟩
      · have hdd : decide (d < 63 * g) = false := decide_eq_false (fun h => hK (hi.1 h))
        clear hi h8
        go_wp2_with fail
        with_reducible refine HG.out.mono ?_
        rintro e w1 ⟨rfl, rfl⟩
        have hm := HM.out
        go_wp2_with fail
        go_roundw
        case rel => exact ⟨j + 1, by omega, by go_num, by trivial⟩
        case measure => simp [intOf]; omega

theorem rof_any {d : Int} (hd : Wd d) (w : World) : Calls Tryz.prog 59 #[.int .u64 d] w fun e w' => e = .returned (.tuple #[.int .i64 (ofL d), .bool (ofB d)]) ∧ w' = w := by
  have HI := Lib.hid (fun j h => ofN_iff d (j := j) h)
  have HE := Lib.hid (ofN_le d)
  have HL := Lib.hid (show ofL d = if ofN d = 8 then 0 else (ofN d : Int) from rfl)
  have HB := Lib.hid (show ofB d = !decide (ofN d = 8) from rfl)
  generalize ofL d = L at *
  generalize ofB d = B at *
  generalize ofN d = K at *
  obtain ⟨q, hq⟩ : ∃ q, d / 63 = q := ⟨_, rfl⟩
  have ht : Int.tdiv d 63 = q := by rw [Int.tdiv_eq_ediv_of_nonneg hd.lo]; exact hq
  have hqw : IntKind.u64.wrap q = q := by have := hd.lo; have := hd.hi; rw [IntKind.wrap_u64]; omega
  have HQ := Lib.hid (show ∀ g : Int, q < g ↔ d < 63 * g by intro g; omega)
  clear hd hq
  go_enter Tryz.func59, Tryz.ntmps59
  go_wp2_with fail
  go_loopw [4] (fun i wr => ∃ j : Nat, j ≤ K ∧ i = .int .i64 (j : Int) ∧ wr = w) (fun i _ => K - (intOf i).toNat)
  case atStart => exact ⟨0, Nat.zero_le _, rfl, rfl⟩
  case round =>
    obtain ⟨j, hj, rfl, rfl⟩ := hrel
    by_cases h8 : j = 8
    · obtain rfl : K = 8 := by have := HE.out; omega
      obtain rfl : L = 0 := by rw [HL.out]; rfl
      obtain rfl : B = false := by rw [HB.out]; rfl
      have he : decide ((j : Int) < 8) = false := decide_eq_false (by omega)
      clear h8 hj
      go_wp2
      go_ret2
      exact ⟨rfl, rfl⟩
    · have hj8 : j < 8 := by have := HE.out; omega
      have he : decide ((j : Int) < 8) = true := decide_eq_true (by omega)
      have HG := Lib.hid (rgran_k hj8 wr)
      have hi := HI.out j hj8
      have hq := HQ.out (g8 j)
      generalize g8 j = g at *
      by_cases hK : K ≤ j
      · obtain rfl : j = K := by omega
        obtain rfl : L = (j : Int) := by rw [HL.out, if_neg h8]
        obtain rfl : B = true := by rw [HB.out, decide_eq_false h8]; rfl
        have hdd : decide (q < g) = true := decide_eq_true (hq.2 (hi.2 hK))
        clear hK hi hq h8 hj hj8
        go_wp2_with fail
        with_reducible refine HG.out.mono ?_
        rintro e w1 ⟨rfl, rfl⟩
        go_wp2
        go_ret2
        exact ⟨rfl, rfl⟩
      · have hdd : decide (q < g) = false := decide_eq_false (fun h => hK (hi.1 (hq.1 h)))
        clear hi hq h8
        go_wp2_with fail
        with_reducible refine HG.out.mono ?_
        rintro e w1 ⟨rfl, rfl⟩
        go_wp2_with fail
        go_roundw
        case rel => exact ⟨j + 1, by omega, by go_num, by trivial⟩
        case measure => simp [intOf]; omega

theorem mul_any {k g : Int} (hg : Wd g) (h0 : g ≠ 0) (hi : 18446744073709551615 / g < k ↔ 18446744073709551615 < k * g) (hn : 0 ≤ k * g) (w : World) :
    Calls Tryz.prog 61 #[.int .u64 k, .int .u64 g] w fun e w' => e = .returned (.int .u64 (mulV k g)) ∧ w' = w := by
  obtain ⟨q, hq⟩ : ∃ q, 18446744073709551615 / g = q := ⟨_, rfl⟩
  have hg0 : ¬ g = 0 := h0
  have hg1 := hg.lo
  have ht : Int.tdiv 18446744073709551615 g = q := by rw [Int.tdiv_eq_ediv_of_nonneg (by decide)]; exact hq
  have hqn : 0 ≤ q := by rw [← hq]; exact Int.ediv_nonneg (by decide) hg1
  have hq1 : q ≤ 18446744073709551615 := by rw [← hq]; exact Int.ediv_le_self _ (by decide)
  have hqw : IntKind.u64.wrap q = q := by rw [IntKind.wrap_u64]; omega
  rw [hq] at hi
  unfold mulV
  obtain ⟨P, hP⟩ : ∃ P, k * g = P := ⟨_, rfl⟩
  rw [hP] at hi hn ⊢
  by_cases h : q < k
  · have hd : decide (q < k) = true := decide_eq_true h
    rw [show min P 18446744073709551615 = 18446744073709551615 by have := hi.1 h; omega]
    clear h hi hn hP hg hq hqn hq1 hg1 h0
    go_enter Tryz.func61, Tryz.ntmps61
    go_wp2
    go_ret
    exact ⟨rfl, rfl⟩
  · have hd : decide (q < k) = false := decide_eq_false h
    have hlt : ¬ 18446744073709551615 < P := fun h2 => h (hi.2 h2)
    rw [show min P 18446744073709551615 = P by omega]
    have hw : IntKind.u64.wrap (k * g) = P := by rw [IntKind.wrap_u64, hP]; omega
    clear h hi hn hP hg hq hqn hq1 hlt hg1 h0
    go_enter Tryz.func61, Tryz.ntmps61
    go_wp2
    go_ret
    exact ⟨rfl, rfl⟩
end Go.Proofs.YtnndofeomakpiaaGreatDoor
namespace Go.Proofs.YtnndofeomakpiaaGreatDoor
open Go.RowKit

attribute [local go_sem] Oper.semAt_some

def spV (s : Sp) : Value := .agg #[.int .i64 (s.lv : Int), .int .i64 s.sl, .int .u64 s.at', .int .u64 s.due]

/-- Four cells of a block. -/
structure Four (w : World) (b : Nat) (x y z u : Value) : Prop where
  c0 : w.cell? ⟨b, 0, none⟩ = some x
  c1 : w.cell? ⟨b, 1, none⟩ = some y
  c2 : w.cell? ⟨b, 2, none⟩ = some z
  c3 : w.cell? ⟨b, 3, none⟩ = some u
theorem Four.new (w : World) (x y z u : Value) (t : TypeId) : Four (w.alloc (.cells #[x, y, z, u] t)) w.heap.size x y z u :=
  ⟨by rw [World.cell?_alloc_at _ _ _ _ rfl]; rfl, by rw [World.cell?_alloc_at _ _ _ _ rfl]; rfl, by rw [World.cell?_alloc_at _ _ _ _ rfl]; rfl, by rw [World.cell?_alloc_at _ _ _ _ rfl]; rfl⟩
theorem Four.lt {w : World} {b : Nat} {x y z u : Value} (h : Four w b x y z u) : b < w.heap.size := cell_lt h.c0
theorem Four.ch {S : List Nat} {w w' : World} {b : Nat} {x y z u : Value} (h : Four w b x y z u) (hc : Ch S w w') (hb : b ∉ S) : Four w' b x y z u :=
  ⟨(hc.cell (p := ⟨b, 0, none⟩) h.lt hb).trans h.c0, (hc.cell (p := ⟨b, 1, none⟩) h.lt hb).trans h.c1, (hc.cell (p := ⟨b, 2, none⟩) h.lt hb).trans h.c2, (hc.cell (p := ⟨b, 3, none⟩) h.lt hb).trans h.c3⟩
theorem hor_wd : Wd 132120575 := ⟨by decide, by decide⟩

/-- What a placing works on. -/
theorem place_parts {f a : Int} (hf : Wd f) (ha : Wd a) (hm : f ≠ 18446744073709551615) :
    ∃ (c : Int) (n : Nat) (g : Int), clampV f a 132120575 = c ∧ Wd c ∧ IntKind.u64.wrap (c - f) = c - f ∧ Wd (c - f) ∧ n < 8 ∧ g8 n = g ∧ ofL (c - f) = (n : Int) ∧ 1 ≤ g ∧ g ≤ 2097152 ∧ placeV f a = ⟨n, numV c g % 64, c, mulV (numV c g) g⟩ := by
  obtain ⟨-, p1, p2, p3⟩ := clampV_of hf ha hm
  have hf0 := hf.lo
  have hd : ofN (clampV f a 132120575 - f) < 8 := by
    have := (ofN_iff (clampV f a 132120575 - f) (j := 7) (by decide)).1 (by simp only [g8]; omega)
    omega
  have hg := g8_lo hd
  refine ⟨_, _, _, rfl, ⟨by omega, by omega⟩, ?_, ⟨by omega, by omega⟩, hd, rfl, ?_, hg.1, hg.2, rfl⟩
  · rw [IntKind.wrap_u64]; omega
  · unfold ofL; rw [if_neg (by omega)]

theorem place_max (a : Int) (w : World) : Calls Tryz.prog 51 #[.int .u64 18446744073709551615, .int .u64 a] w fun e w' => e = .returned (.tuple #[.agg #[.int .i64 0, .int .i64 0, .int .u64 0, .int .u64 0], .int .i64 12]) ∧ Ch [] w w' := by
  have HF := Lib.hid (Four.new w (.int .i64 0) (.int .i64 0) (.int .u64 0) (.int .u64 0) 40)
  have HC := Lib.hid ((Ch.refl [] w).alloc (.cells #[.int .i64 0, .int .i64 0, .int .u64 0, .int .u64 0] 40))
  obtain ⟨c0, c1, c2, c3⟩ := HF.out
  go_enter Tryz.func51, Tryz.ntmps51
  go_wp2
  refine bodyPost_ret (v := .tuple #[.agg #[.int .i64 0, .int .i64 0, .int .u64 0, .int .u64 0], .int .i64 12]) ?_ rfl ?_
  · simp [results, Tryz.f51, go_sem, c0, c1, c2, c3]
  · exact ⟨rfl, HC.out⟩

theorem place_any {f a : Int} (hf : Wd f) (ha : Wd a) (hm : f ≠ 18446744073709551615) (w : World) :
    Calls Tryz.prog 51 #[.int .u64 f, .int .u64 a] w fun e w' => e = .returned (.tuple #[spV (placeV f a), .int .i64 0]) ∧ Ch [] w w' := by
  obtain ⟨c, n, g, hc, hcw, hsub, hdw, hn, hg, hL, g1, g2, hP⟩ := place_parts hf ha hm
  obtain ⟨off, ho, o1, o2, o3, e1, e2, e3, -⟩ := put_on hcw hn hg
  have HCl := Lib.hid (clamp_any (a := a) hf hor_wd (w.alloc (.cells #[.int .i64 0, .int .i64 0, .int .u64 0, .int .u64 0] 40)))
  have HOf := Lib.hid (fun W => of_any (c - f) W)
  have HGr := Lib.hid (fun W => gran_k hn W)
  have hoff : Wd off := ⟨o1, by omega⟩
  have HAdd := Lib.hid (fun W => add_any hcw hoff W)
  rw [hc] at HCl
  rw [hL] at HOf
  rw [hg] at HGr
  rw [hP]
  rw [e2] at HAdd
  have hmf : (f == 18446744073709551615) = false := by simpa using hm
  obtain ⟨hcl, hch⟩ := hcw
  have hg0 : ¬ g = 0 := by omega
  have hr1 : Int.tmod c g = c % g := Int.tmod_eq_emod_of_nonneg hcl
  have hb := Int.emod_nonneg c hg0
  have hr2 : IntKind.u64.wrap (g - c % g) = g - c % g := by rw [IntKind.wrap_u64]; omega
  have hr3 : Int.tmod (g - c % g) g = off := by rw [Int.tmod_eq_emod_of_nonneg o3]; exact ho
  have hs1 : IntKind.u64.wrap (c + off) = (c + off) % 18446744073709551616 := by rw [IntKind.wrap_u64]
  obtain ⟨m, hmm⟩ : ∃ m, (c + off) % 18446744073709551616 = m := ⟨_, rfl⟩
  rw [hmm] at hs1 e3
  have hm0 : 0 ≤ m := by omega
  obtain ⟨q, hq⟩ : ∃ q, m / g = q := ⟨_, rfl⟩
  have hq0 : 0 ≤ q := by rw [← hq]; exact Int.ediv_nonneg hm0 (by omega)
  have hqm : q ≤ m := by rw [← hq]; exact Int.ediv_le_self _ hm0
  have hs2 : Int.tdiv m g = q := by rw [Int.tdiv_eq_ediv_of_nonneg hm0]; exact hq
  have hs3 : IntKind.u64.wrap q = q := by rw [IntKind.wrap_u64]; omega
  rw [hq] at e3
  have hs4 : Int.tmod q 64 = numV c g % 64 := by rw [Int.tmod_eq_emod_of_nonneg hq0]; exact e3
  have hs5 : IntKind.i64.wrap (numV c g % 64) = numV c g % 64 := by rw [IntKind.wrap_i64]; omega
  generalize numV c g % 64 = sl at *
  generalize mulV (numV c g) g = D at *
  generalize c % g = r at *
  generalize ofB (c - f) = B at *
  generalize addO c off = O at *
  have HF := Lib.hid (Four.new w (.int .i64 0) (.int .i64 0) (.int .u64 0) (.int .u64 0) 40)
  obtain ⟨c0, c1, c2, c3⟩ := HF.out
  clear hf ha hm hc hcl hch hdw hn hg hL g1 g2 hP ho o1 o2 o3 e1 e2 e3 hoff hb hmm hm0 hq hq0 hqm
  go_enter Tryz.func51, Tryz.ntmps51
  go_wp2_with fail
  with_reducible refine HCl.out.mono ?_
  rintro e w1 ⟨rfl, rfl⟩
  go_wp2_with fail
  with_reducible refine (HOf.out _).mono ?_
  rintro e w1 ⟨rfl, rfl⟩
  go_wp2_with fail
  with_reducible refine (HGr.out _).mono ?_
  rintro e w1 ⟨rfl, rfl⟩
  go_wp2_with fail
  with_reducible refine (HAdd.out _).mono ?_
  rintro e w1 ⟨rfl, rfl⟩
  go_wp2
  obtain ⟨k0, k1, k2, k3⟩ := Four.new w (.int .i64 (n : Int)) (.int .i64 sl) (.int .u64 c) (.int .u64 D) 40
  refine bodyPost_ret (v := .tuple #[.agg #[.int .i64 (n : Int), .int .i64 sl, .int .u64 c, .int .u64 D], .int .i64 0]) ?_ rfl ?_
  · simp [results, Tryz.f51, go_sem, k0, k1, k2, k3]
  · exact ⟨rfl, (Ch.refl [] w).alloc _⟩

theorem rplace_max (a : Int) (w : World) : Calls Tryz.prog 50 #[.int .u64 18446744073709551615, .int .u64 a] w fun e w' => e = .returned (.tuple #[.agg #[.int .i64 0, .int .i64 0, .int .u64 0, .int .u64 0], .int .i64 12]) ∧ Ch [] w w' := by
  have HF := Lib.hid (Four.new w (.int .i64 0) (.int .i64 0) (.int .u64 0) (.int .u64 0) 37)
  have HC := Lib.hid ((Ch.refl [] w).alloc (.cells #[.int .i64 0, .int .i64 0, .int .u64 0, .int .u64 0] 37))
  obtain ⟨c0, c1, c2, c3⟩ := HF.out
  go_enter Tryz.func50, Tryz.ntmps50
  go_wp2
  refine bodyPost_ret (v := .tuple #[.agg #[.int .i64 0, .int .i64 0, .int .u64 0, .int .u64 0], .int .i64 12]) ?_ rfl ?_
  · simp [results, Tryz.f50, go_sem, c0, c1, c2, c3]
  · exact ⟨rfl, HC.out⟩

theorem rplace_any {f a : Int} (hf : Wd f) (ha : Wd a) (hm : f ≠ 18446744073709551615) (w : World) :
    Calls Tryz.prog 50 #[.int .u64 f, .int .u64 a] w fun e w' => e = .returned (.tuple #[spV (placeV f a), .int .i64 0]) ∧ Ch [] w w' := by
  obtain ⟨c, n, g, hc, hcw, hsub, hdw, hn, hg, hL, g1, g2, hP⟩ := place_parts hf ha hm
  obtain ⟨off, ho, o1, o2, o3, e1, e2, e3, e4⟩ := put_on hcw hn hg
  obtain ⟨N1, N2, N3⟩ := numV_wd hcw hn hg
  have hgw : Wd g := ⟨by omega, by omega⟩
  have HCl := Lib.hid (rclamp_any (a := a) hf hor_wd (w.alloc (.cells #[.int .i64 0, .int .i64 0, .int .u64 0, .int .u64 0] 37)))
  have HOf := Lib.hid (fun W => rof_any hdw W)
  have HGr := Lib.hid (fun W => rgran_k hn W)
  have HMul := Lib.hid (fun W => mul_any hgw (by omega) N2 (Int.mul_nonneg N1 hgw.lo) W)
  rw [hc] at HCl
  rw [hL] at HOf
  rw [hg] at HGr
  rw [hP]
  have hmf : (f == 18446744073709551615) = false := by simpa using hm
  obtain ⟨hcl, hch⟩ := hcw
  have hg0 : ¬ g = 0 := by omega
  have hr1 : Int.tmod c g = c % g := Int.tmod_eq_emod_of_nonneg hcl
  obtain ⟨q, hq⟩ : ∃ q, c / g = q := ⟨_, rfl⟩
  have hq0 : 0 ≤ q := by rw [← hq]; exact Int.ediv_nonneg hcl (by omega)
  have hqm : q ≤ c := by rw [← hq]; exact Int.ediv_le_self _ hcl
  have hs2 : Int.tdiv c g = q := by rw [Int.tdiv_eq_ediv_of_nonneg hcl]; exact hq
  have hs3 : IntKind.u64.wrap q = q := by rw [IntKind.wrap_u64]; omega
  rw [hq] at e4
  have hs4 : Int.tmod (numV c g) 64 = numV c g % 64 := Int.tmod_eq_emod_of_nonneg N1
  have hs5 : IntKind.i64.wrap (numV c g % 64) = numV c g % 64 := by rw [IntKind.wrap_i64]; omega
  obtain ⟨sl, hsl⟩ : ∃ sl, numV c g % 64 = sl := ⟨_, rfl⟩
  rw [hsl] at hs4 hs5 ⊢
  generalize mulV (numV c g) g = D at *
  generalize c % g = r at *
  generalize ofB (c - f) = B at *
  generalize numV c g = N at *
  have HF := Lib.hid (Four.new w (.int .i64 0) (.int .i64 0) (.int .u64 0) (.int .u64 0) 37)
  obtain ⟨c0, c1, c2, c3⟩ := HF.out
  clear hf ha hm hc hcl hch hdw hn hg hL g1 g2 hP ho o1 o2 o3 e1 e2 e3 hq hqm hgw hsl N2
  by_cases h0 : 0 < r
  · have hd : decide (0 < r) = true := decide_eq_true h0
    rw [if_pos h0] at e4
    subst e4
    have hs6 : IntKind.u64.wrap (q + 1) = q + 1 := by rw [IntKind.wrap_u64]; omega
    clear h0 N1 N3 hq0
    go_enter Tryz.func50, Tryz.ntmps50
    go_wp2_with fail
    with_reducible refine HCl.out.mono ?_
    rintro e w1 ⟨rfl, rfl⟩
    go_wp2_with fail
    with_reducible refine (HOf.out _).mono ?_
    rintro e w1 ⟨rfl, rfl⟩
    go_wp2_with fail
    with_reducible refine (HGr.out _).mono ?_
    rintro e w1 ⟨rfl, rfl⟩
    go_wp2_with fail
    with_reducible refine (HMul.out _).mono ?_
    rintro e w1 ⟨rfl, rfl⟩
    go_wp2
    obtain ⟨k0, k1, k2, k3⟩ := Four.new w (.int .i64 (n : Int)) (.int .i64 sl) (.int .u64 c) (.int .u64 D) 37
    refine bodyPost_ret (v := .tuple #[.agg #[.int .i64 (n : Int), .int .i64 sl, .int .u64 c, .int .u64 D], .int .i64 0]) ?_ rfl ?_
    · simp [results, Tryz.f50, go_sem, k0, k1, k2, k3]
    · exact ⟨rfl, (Ch.refl [] w).alloc _⟩
  · have hd : decide (0 < r) = false := decide_eq_false h0
    rw [if_neg h0, Int.add_zero] at e4
    subst e4
    clear h0 N1 N3 hq0
    go_enter Tryz.func50, Tryz.ntmps50
    go_wp2_with fail
    with_reducible refine HCl.out.mono ?_
    rintro e w1 ⟨rfl, rfl⟩
    go_wp2_with fail
    with_reducible refine (HOf.out _).mono ?_
    rintro e w1 ⟨rfl, rfl⟩
    go_wp2_with fail
    with_reducible refine (HGr.out _).mono ?_
    rintro e w1 ⟨rfl, rfl⟩
    go_wp2_with fail
    with_reducible refine (HMul.out _).mono ?_
    rintro e w1 ⟨rfl, rfl⟩
    go_wp2
    obtain ⟨k0, k1, k2, k3⟩ := Four.new w (.int .i64 (n : Int)) (.int .i64 sl) (.int .u64 c) (.int .u64 D) 37
    refine bodyPost_ret (v := .tuple #[.agg #[.int .i64 (n : Int), .int .i64 sl, .int .u64 c, .int .u64 D], .int .i64 0]) ?_ rfl ?_
    · simp [results, Tryz.f50, go_sem, k0, k1, k2, k3]
    · exact ⟨rfl, (Ch.refl [] w).alloc _⟩
end Go.Proofs.YtnndofeomakpiaaGreatDoor
namespace Go.Proofs.YtnndofeomakpiaaGreatDoor
open Go.RowKit

attribute [local go_sem] Oper.semAt_some

def timeOk (n s : Int) : Prop := 0 ≤ n ∧ n < 8 ∧ 0 ≤ s ∧ s < 64
instance (n s : Int) : Decidable (timeOk n s) := by unfold timeOk; infer_instance
def timeR (x n s : Int) : Int × Int := if timeOk n s then (timeV x n.toNat s, 0) else (0, 2)

theorem cut_iff {N : Int} (_ : 0 ≤ N) {k : Nat} (hk : k < 8) {g : Int} (hg : g8 k = g) : 18446744073709551615 / g < N ↔ 18446744073709551615 < N * g := by
  rcases eight hk with h | h | h | h | h | h | h | h <;> subst h <;> simp only [g8] at hg <;> subst hg <;> omega

theorem time_any {x s : Int} {n : Nat} (hx : Wd x) (hn : n < 8) (hs : 0 ≤ s ∧ s < 64) (w : World) :
    Calls Tryz.prog 80 #[.int .u64 x, .int .i64 (n : Int), .int .i64 s] w fun e w' => e = .returned (.tuple #[.int .u64 (timeV x n s), .int .i64 0]) ∧ w' = w := by
  obtain ⟨g, hg⟩ : ∃ g, g8 n = g := ⟨_, rfl⟩
  obtain ⟨q, h, hq, hN, h1, h2, q0, q1, q2, q3, h3, h4, hadd, hah, -, -, -, -⟩ := ahead hx hs hn hg
  have hgl := g8_lo hn
  have HGr := Lib.hid (gran_k hn w)
  have HAdd := Lib.hid (add_any (a := q * g) (b := h * g) ⟨q2, by have := hx.hi; omega⟩ ⟨h4, by omega⟩ w)
  rw [hadd] at HAdd
  rw [hg] at HGr hgl
  have hT : timeV x n s = mulV (q + h) g := by unfold timeV; rw [hg, hN]
  rw [hT]
  have hg0 : ¬ g = 0 := by omega
  have hge : (g == 0) = false := by simpa using hg0
  have hs1 : decide (s < 0) = false := decide_eq_false (by omega)
  have hs2 : decide (64 ≤ s) = false := decide_eq_false (by omega)
  have hd1 : Int.tdiv x g = q := by rw [Int.tdiv_eq_ediv_of_nonneg hx.lo]; exact hq
  have hd2 : IntKind.u64.wrap q = q := by rw [IntKind.wrap_u64]; omega
  have hd3 : IntKind.u64.wrap s = s := by rw [IntKind.wrap_u64]; omega
  obtain ⟨a, ha⟩ : ∃ a, (q + 1) % 18446744073709551616 = a := ⟨_, rfl⟩
  have hd4 : IntKind.u64.wrap (q + 1) = a := by rw [IntKind.wrap_u64]; exact ha
  rw [ha] at hah
  obtain ⟨b, hb⟩ : ∃ b, (s - a) % 18446744073709551616 = b := ⟨_, rfl⟩
  have hd5 : IntKind.u64.wrap (s - a) = b := by rw [IntKind.wrap_u64]; exact hb
  rw [hb] at hah
  have hb0 : 0 ≤ b := by omega
  have hd6 : Int.tmod b 64 = b % 64 := Int.tmod_eq_emod_of_nonneg hb0
  have hd7 : IntKind.u64.wrap (1 + b % 64) = h := by rw [IntKind.wrap_u64]; omega
  have hd8 : IntKind.u64.wrap (q * g) = q * g := by have := hx.hi; rw [IntKind.wrap_u64]; omega
  have hd9 : IntKind.u64.wrap (h * g) = h * g := by rw [IntKind.wrap_u64]; omega
  generalize b % 64 = c at *
  generalize mulV (q + h) g = D at *
  generalize addO (q * g) (h * g) = O at *
  clear hx hn hs hg hgl hq hN h1 h2 q0 q1 q2 q3 h3 h4 hadd hah hT ha hb hb0
  go_enter Tryz.func80, Tryz.ntmps80
  go_wp2_with fail
  with_reducible refine HGr.out.mono ?_
  rintro e w1 ⟨rfl, rfl⟩
  go_wp2_with fail
  with_reducible refine HAdd.out.mono ?_
  rintro e w1 ⟨rfl, rfl⟩
  go_wp2
  go_ret2
  exact ⟨rfl, rfl⟩

theorem time_no {x n s : Int} (h : ¬ timeOk n s) (w : World) :
    Calls Tryz.prog 80 #[.int .u64 x, .int .i64 n, .int .i64 s] w fun e w' => e = .returned (.tuple #[.int .u64 0, .int .i64 2]) ∧ w' = w := by
  unfold timeOk at h
  by_cases hn : 0 ≤ n ∧ n < 8
  · obtain ⟨k, rfl⟩ := Int.eq_ofNat_of_zero_le hn.1
    have HGr := Lib.hid (gran_k (k := k) (by omega) w)
    have hgl := g8_lo (k := k) (by omega)
    have hge : (g8 k == 0) = false := by simp; omega
    generalize g8 k = g at *
    rcases Int.lt_or_le s 0 with h0 | h0
    · have hs1 : decide (s < 0) = true := decide_eq_true h0
      clear h hn hgl h0
      go_enter Tryz.func80, Tryz.ntmps80
      go_wp2_with fail
      with_reducible refine HGr.out.mono ?_
      rintro e w1 ⟨rfl, rfl⟩
      go_wp2
      go_ret2
      exact ⟨rfl, rfl⟩
    · have hs1 : decide (s < 0) = false := decide_eq_false (by omega)
      have hs2 : decide (64 ≤ s) = true := decide_eq_true (by omega)
      clear h hn hgl h0
      go_enter Tryz.func80, Tryz.ntmps80
      go_wp2_with fail
      with_reducible refine HGr.out.mono ?_
      rintro e w1 ⟨rfl, rfl⟩
      go_wp2
      go_ret2
      exact ⟨rfl, rfl⟩
  · have HGr := Lib.hid (gran_no (n := n) (by omega) w)
    clear h hn
    go_enter Tryz.func80, Tryz.ntmps80
    go_wp2_with fail
    with_reducible refine HGr.out.mono ?_
    rintro e w1 ⟨rfl, rfl⟩
    go_wp2
    go_ret2
    exact ⟨rfl, rfl⟩

theorem time_all {x : Int} (hx : Wd x) (n s : Int) (w : World) :
    Calls Tryz.prog 80 #[.int .u64 x, .int .i64 n, .int .i64 s] w fun e w' => e = .returned (.tuple #[.int .u64 (timeR x n s).1, .int .i64 (timeR x n s).2]) ∧ w' = w := by
  unfold timeR
  by_cases h : timeOk n s
  · rw [if_pos h]
    obtain ⟨h1, h2, h3, h4⟩ := h
    obtain ⟨k, rfl⟩ := Int.eq_ofNat_of_zero_le h1
    exact time_any hx (by omega) ⟨h3, h4⟩ w
  · rw [if_neg h]
    exact time_no h w

theorem kgran (w : World) : Calls Tryz.prog 64 #[.int .i64 2] w fun e w' => e = .returned (.int .u64 64) ∧ w' = w := gran_k (k := 2) (by decide) w
theorem kof1 (w : World) : Calls Tryz.prog 63 #[.int .u64 62] w fun e w' => e = .returned (.tuple #[.int .i64 0, .bool true]) ∧ w' = w := of_any 62 w
theorem kof2 (w : World) : Calls Tryz.prog 63 #[.int .u64 503] w fun e w' => e = .returned (.tuple #[.int .i64 1, .bool true]) ∧ w' = w := of_any 503 w
theorem kp1 (w : World) : Calls Tryz.prog 51 #[.int .u64 0, .int .u64 100] w fun e w' => e = .returned (.tuple #[.agg #[.int .i64 1, .int .i64 13, .int .u64 100, .int .u64 104], .int .i64 0]) ∧ Ch [] w w' :=
  place_any (f := 0) (a := 100) ⟨by decide, by decide⟩ ⟨by decide, by decide⟩ (by decide) w
theorem kp2 (w : World) : Calls Tryz.prog 51 #[.int .u64 100, .int .u64 100] w fun e w' => e = .returned (.tuple #[.agg #[.int .i64 0, .int .i64 37, .int .u64 101, .int .u64 101], .int .i64 0]) ∧ Ch [] w w' :=
  place_any (f := 100) (a := 100) ⟨by decide, by decide⟩ ⟨by decide, by decide⟩ (by decide) w
theorem kt (w : World) : Calls Tryz.prog 80 #[.int .u64 104, .int .i64 1, .int .i64 13] w fun e w' => e = .returned (.tuple #[.int .u64 616, .int .i64 0]) ∧ w' = w :=
  time_any (x := 104) (n := 1) (s := 13) ⟨by decide, by decide⟩ (by decide) ⟨by decide, by decide⟩ w

end Go.Proofs.YtnndofeomakpiaaGreatDoor
namespace Go.Proofs.YtnndofeomakpiaaGreatDoor
open Go.RowKit Go.BigFrame

attribute [local go_sem] Oper.semAt_some

/-- Spots that came in, or that were handed on. -/
structure SpotsAt (w : World) (a : Option Addr) (len : Nat) (z : Nat → Int × Int × Int × Int) : Prop where
  at' : len = 0 ∨ ∃ b off, a = some ⟨b, off, none⟩ ∧ ∀ i, i < len → w.cell? ⟨b, off + i * 4, none⟩ = some (.int .i64 (z i).1) ∧ w.cell? ⟨b, off + i * 4 + 1, none⟩ = some (.int .i64 (z i).2.1) ∧
    w.cell? ⟨b, off + i * 4 + 2, none⟩ = some (.int .u64 (z i).2.2.1) ∧ w.cell? ⟨b, off + i * 4 + 3, none⟩ = some (.int .u64 (z i).2.2.2)
theorem SpotsAt.ch {w w' : World} {a : Option Addr} {len : Nat} {z : Nat → Int × Int × Int × Int} (h : SpotsAt w a len z) (hc : Ch [] w w') : SpotsAt w' a len z := by
  rcases h.at' with h0 | ⟨b, off, rfl, h1⟩
  · exact ⟨.inl h0⟩
  · refine ⟨.inr ⟨b, off, rfl, fun i hi => ?_⟩⟩
    obtain ⟨p0, p1, p2, p3⟩ := h1 i hi
    exact ⟨(hc.cell (cell_lt p0) (by simp)).trans p0, (hc.cell (cell_lt p1) (by simp)).trans p1, (hc.cell (cell_lt p2) (by simp)).trans p2, (hc.cell (cell_lt p3) (by simp)).trans p3⟩
theorem SpotsAt.take {w : World} {a : Option Addr} {len : Nat} {z : Nat → Int × Int × Int × Int} (h : SpotsAt w a len z) (k : Nat) (hk : k ≤ len) : SpotsAt w a k z := by
  rcases h.at' with h0 | ⟨b, off, rfl, h1⟩
  · exact ⟨.inl (by omega)⟩
  · exact ⟨.inr ⟨b, off, rfl, fun i hi => h1 i (by omega)⟩⟩

/-- The least time of the first k; whether all of them are right. -/
def dL (x : Int) (z : Nat → Int × Int × Int × Int) : Nat → Int
  | 0 => 18446744073709551615
  | k + 1 => if (timeR x (z k).1 (z k).2.1).1 < dL x z k then (timeR x (z k).1 (z k).2.1).1 else dL x z k
def dB (z : Nat → Int × Int × Int × Int) : Nat → Bool
  | 0 => true
  | k + 1 => dB z k && decide (timeOk (z k).1 (z k).2.1)
theorem dB_false {z : Nat → Int × Int × Int × Int} {k m : Nat} (h : dB z k = false) (hk : k ≤ m) : dB z m = false := by
  induction m with
  | zero => rw [show k = 0 by omega] at h; exact h
  | succ m ih =>
    by_cases e : k = m + 1
    · rw [← e]; exact h
    · show (dB z m && _) = false
      rw [ih (by omega)]
      rfl
theorem timeR_err (x n s : Int) : (timeR x n s).2 = if timeOk n s then 0 else 2 := by
  unfold timeR
  split <;> rfl

/-- What the closure of Dues tells. -/
theorem asks_any {w : World} {B : Nat} {x : Int} (hx : Wd x) (hB : w.cell? ⟨B, 0, none⟩ = some (.int .u64 x)) (n s c D : Int) :
    Calls Tryz.prog 86 #[.agg #[.int .i64 n, .int .i64 s, .int .u64 c, .int .u64 D], .pointer (some ⟨B, 0, none⟩)] w fun e w' => e = .returned (.tuple #[.int .u64 (timeR x n s).1, .int .i64 (timeR x n s).2]) ∧ Ch [] w w' := by
  have hal := (Ch.refl [] w).alloc (.cells #[.int .i64 n, .int .i64 s, .int .u64 c, .int .u64 D] 40)
  have HC := Lib.hid hal
  have hb := (hal.cell (cell_lt hB) (by simp)).trans hB
  obtain ⟨c0, c1, c2, c3⟩ := Four.new w (.int .i64 n) (.int .i64 s) (.int .u64 c) (.int .u64 D) 40
  have HT := Lib.hid (fun W => time_all hx n s W)
  generalize (timeR x n s).1 = T at *
  generalize (timeR x n s).2 = E at *
  clear hx hal hB c2 c3
  go_enter Tryz.func86, Tryz.ntmps86
  go_wp2_with fail
  with_reducible refine (HT.out _).mono ?_
  rintro e w1 ⟨rfl, rfl⟩
  go_wp2
  go_ret2
  exact ⟨rfl, HC.out⟩

set_option maxHeartbeats 2000000 in
theorem least_any {w : World} {B : Nat} {x : Int} {a : Option Addr} {len cap : Nat} {z : Nat → Int × Int × Int × Int} (hx : Wd x) (hB : w.cell? ⟨B, 0, none⟩ = some (.int .u64 x)) (hz : SpotsAt w a len z) (hl : len ≤ 9223372036854775807) :
    Calls Tryz.prog 85 #[.slice a len cap, .func (.func 86) #[] #[.pointer (some ⟨B, 0, none⟩)]] w fun e w' =>
      e = .returned (.tuple #[.int .u64 (if decide (0 < len) && dB z len then dL x z len else 0), .bool (decide (0 < len) && dB z len)]) ∧ Ch [] w w' := by
  have HZ := Lib.hid hz
  have HL := Lib.hid hl
  have HA := Lib.hid (fun W (h : Ch [] w W) => asks_any (w := W) hx ((h.cell (cell_lt hB) (by simp)).trans hB))
  clear hz hl hB hx
  by_cases h0 : len = 0
  · subst h0
    go_enter Tryz.func85, Tryz.ntmps85
    go_wp2
    go_ret2
    exact ⟨rfl, Ch.refl _ _⟩
  have hne : ((len : Int) == 0) = false := by simpa using h0
  rw [show decide (0 < len) = true from decide_eq_true (by omega), Bool.true_and]
  obtain ⟨R, hR⟩ : ∃ R, R = if dB z len = true then dL x z len else 0 := ⟨_, rfl⟩
  have HR := Lib.hid hR
  rw [← hR]
  obtain ⟨O, hO⟩ : ∃ O, O = dB z len := ⟨_, rfl⟩
  have HO := Lib.hid hO
  rw [← hO]
  clear hR hO h0
  go_enter Tryz.func85, Tryz.ntmps85
  go_wp2_with fail
  go_loopw [6, 16] (fun dv v wr => ∃ k : Nat, k ≤ len ∧ v = .int .i64 (k : Int) ∧ dv = .int .u64 (dL x z k) ∧ dB z k = true ∧ Ch [] w wr) (fun _ v _ => len - (intOf v).toNat)
  case atStart => exact ⟨0, Nat.zero_le _, rfl, rfl, rfl, Ch.refl _ _⟩
  case round =>
    obtain ⟨k, hk, rfl, rfl, hb, hc⟩ := hrel
    have HB := Lib.hid hb
    have HC := Lib.hid hc
    have hL := HL.out
    clear hb hc
    by_cases hlt : k < len
    · obtain ⟨g, off, rfl, hcell⟩ := (HZ.out.ch HC.out).at'.resolve_left (by omega)
      obtain ⟨p0, p1, p2, p3⟩ := hcell k hlt
      have hb0 : (0 : Int) ≤ (k : Int) := by omega
      have hb1 : (k : Int) < (len : Int) := by omega
      have HE := Lib.hid (show dL x z (k + 1) = if (timeR x (z k).1 (z k).2.1).1 < dL x z k then (timeR x (z k).1 (z k).2.1).1 else dL x z k from rfl)
      have HD := Lib.hid (show dB z (k + 1) = (dB z k && decide (timeOk (z k).1 (z k).2.1)) from rfl)
      have HX := Lib.hid (timeR_err x (z k).1 (z k).2.1)
      have hal := (Ch.refl [] wr).alloc (.cells #[.int .i64 (z k).1, .int .i64 (z k).2.1, .int .u64 (z k).2.2.1, .int .u64 (z k).2.2.2] 40)
      have HAl := Lib.hid (HC.out.trans hal)
      have HAk := Lib.hid (HA.out _ HAl.out (z k).1 (z k).2.1 (z k).2.2.1 (z k).2.2.2)
      obtain ⟨q0, q1, q2, q3⟩ := Four.new wr (.int .i64 (z k).1) (.int .i64 (z k).2.1) (.int .u64 (z k).2.2.1) (.int .u64 (z k).2.2.2) 40
      generalize dL x z k = U at *
      generalize (timeR x (z k).1 (z k).2.1).1 = T at *
      generalize (timeR x (z k).1 (z k).2.1).2 = Er at *
      by_cases hok : timeOk (z k).1 (z k).2.1
      · obtain rfl : Er = 0 := by rw [HX.out, if_pos hok]
        have HD2 := Lib.hid (show dB z (k + 1) = true by rw [HD.out, HB.out, decide_eq_true hok]; rfl)
        clear hok HX hcell
        generalize (z k).1 = z0 at *
        generalize (z k).2.1 = z1 at *
        generalize (z k).2.2.1 = z2 at *
        generalize (z k).2.2.2 = z3 at *
        clear HD hal
        go_wp2_with fail
        with_reducible refine HAk.out.mono ?_
        rintro e w1 ⟨rfl, hc1⟩
        have HC1 := Lib.hid (HAl.out.trans hc1)
        clear hc1 p0 p1 p2 p3 q0 q1 q2 q3
        obtain ⟨M, hM⟩ : ∃ M, (if T < U then T else U) = M := ⟨_, rfl⟩
        have HE2 := Lib.hid (show dL x z (k + 1) = M by rw [HE.out, hM])
        go_wp2_with fail
        go_roundw
        case rel => exact ⟨k + 1, by omega, by go_num, by rw [HE2.out], HD2.out, HC1.out⟩
        case measure => simp [intOf]; omega
      · obtain rfl : Er = 2 := by rw [HX.out, if_neg hok]
        have hD2 : dB z (k + 1) = false := by rw [HD.out, decide_eq_false hok]; simp
        obtain rfl : O = false := by rw [HO.out]; exact dB_false hD2 (by omega)
        obtain rfl : R = 0 := by rw [HR.out, dB_false hD2 (show k + 1 ≤ len by omega)]; rfl
        clear hok HX hcell hD2
        generalize (z k).1 = z0 at *
        generalize (z k).2.1 = z1 at *
        generalize (z k).2.2.1 = z2 at *
        generalize (z k).2.2.2 = z3 at *
        clear HD hal
        go_wp2_with fail
        with_reducible refine HAk.out.mono ?_
        rintro e w1 ⟨rfl, hc1⟩
        have HC1 := Lib.hid (HAl.out.trans hc1)
        clear hc1 p0 p1 p2 p3 q0 q1 q2 q3
        go_wp2
        go_ret2
        exact ⟨rfl, HC1.out⟩
    · obtain rfl : k = len := by omega
      obtain rfl : O = true := by rw [HO.out]; exact HB.out
      obtain rfl : R = dL x z k := by rw [HR.out, HB.out]; rfl
      clear hlt hk
      go_wp2
      go_ret2
      exact ⟨rfl, HC.out⟩

theorem dues_any {w : World} {x : Int} {a : Option Addr} {len cap : Nat} {z : Nat → Int × Int × Int × Int} (hx : Wd x) (hz : SpotsAt w a len z) (hl : len ≤ 9223372036854775807) :
    Calls Tryz.prog 77 #[.int .u64 x, .slice a len cap] w fun e w' =>
      e = .returned (.tuple #[.int .u64 (if decide (0 < len) && dB z len then dL x z len else 0), .bool (decide (0 < len) && dB z len)]) ∧ Ch [] w w' := by
  have hal := (Ch.refl [] w).alloc (.cells #[.int .u64 x] 22)
  have HN := Lib.hid (least_any (cap := cap) hx (cell_new w (.int .u64 x) 22).1 (hz.ch hal) hl)
  have HC := Lib.hid hal
  generalize (if decide (0 < len) && dB z len then dL x z len else 0) = R at *
  generalize (decide (0 < len) && dB z len) = O at *
  clear hx hz hl hal
  go_enter Tryz.func77, Tryz.ntmps77
  go_wp2_with fail
  with_reducible refine HN.out.mono ?_
  rintro e w1 ⟨rfl, hc1⟩
  have HC1 := Lib.hid (HC.out.trans hc1)
  clear hc1
  go_wp2
  go_ret2
  exact ⟨rfl, HC1.out⟩

end Go.Proofs.YtnndofeomakpiaaGreatDoor
