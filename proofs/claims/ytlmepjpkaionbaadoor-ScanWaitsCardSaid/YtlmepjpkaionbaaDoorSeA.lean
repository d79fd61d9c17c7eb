/-
  Plain: sections told by what readers did; who is inside, as a mask.
-/
import Derived.Test.YtlmepjpkaionbaaDoorMk
namespace Go.Proofs.YtlmepjpkaionbaaDoor

/-- How many sections began; how deep each reader is; its section's stamp. -/
structure SS where
  n : Int
  d : Nat → Int
  s : Nat → Int
def putF (f : Nat → Int) (k : Nat) (v : Int) : Nat → Int := fun i => if i = k then v else f i
theorem putF_same (f : Nat → Int) (k : Nat) (v : Int) : putF f k v k = v := by simp [putF]
theorem putF_other (f : Nat → Int) {k i : Nat} (v : Int) (h : i ≠ k) : putF f k v i = f i := by simp [putF, h]
def SS.zero : SS := ⟨0, fun _ => 0, fun _ => 0⟩
/-- A reader goes one deeper; one less deep. -/
def inS (x : SS) (r : Nat) : SS := ⟨if x.d r = 0 then x.n + 1 else x.n, putF x.d r (x.d r + 1), if x.d r = 0 then putF x.s r (x.n + 1) else x.s⟩
def outS (x : SS) (r : Nat) : SS := ⟨x.n, putF x.d r (x.d r - 1), if x.d r = 1 then putF x.s r 0 else x.s⟩
/-- What holds of sections at all times. -/
structure GS (x : SS) : Prop where
  d0 : ∀ i, 0 ≤ x.d i
  d8 : ∀ i, x.d i ≤ 8
  s0 : ∀ i, 0 ≤ x.s i
  sn : ∀ i, x.s i ≤ x.n
  op : ∀ i, 0 < x.d i ↔ 0 < x.s i
  n0 : 0 ≤ x.n
theorem GS.zero : GS SS.zero := ⟨fun _ => by simp [SS.zero], fun _ => by simp [SS.zero], fun _ => by simp [SS.zero], fun _ => by simp [SS.zero], fun _ => by simp [SS.zero], by simp [SS.zero]⟩
theorem GS.inS {x : SS} (h : GS x) {r : Nat} (hr : x.d r < 8) : GS (Proofs.YtlmepjpkaionbaaDoor.inS x r) := by
  obtain ⟨d0, d8, s0, sn, op, n0⟩ := h
  have hd := d0 r
  have hd8 := d8 r
  unfold Proofs.YtlmepjpkaionbaaDoor.inS
  by_cases e : x.d r = 0
  · simp only [e, if_true]
    refine ⟨fun i => ?_, fun i => ?_, fun i => ?_, fun i => ?_, fun i => ?_, by simp only; omega⟩ <;> (simp only [putF]; have h1 := d0 i; have h2 := d8 i; have h3 := s0 i; have h4 := sn i; have h5 := op i; split <;> omega)
  · simp only [e, if_false]
    refine ⟨fun i => ?_, fun i => ?_, fun i => ?_, fun i => ?_, fun i => ?_, n0⟩ <;> (simp only [putF]; have h1 := d0 i; have h2 := d8 i; have h3 := s0 i; have h4 := sn i; have h5 := op i; try split) <;> try omega
    rename_i hi
    subst hi
    omega
theorem GS.outS {x : SS} (h : GS x) {r : Nat} (hr : x.d r ≠ 0) : GS (Proofs.YtlmepjpkaionbaaDoor.outS x r) := by
  obtain ⟨d0, d8, s0, sn, op, n0⟩ := h
  have hd := d0 r
  have hd8 := d8 r
  unfold Proofs.YtlmepjpkaionbaaDoor.outS
  by_cases e : x.d r = 1
  · simp only [e, if_true]
    refine ⟨fun i => ?_, fun i => ?_, fun i => ?_, fun i => ?_, fun i => ?_, n0⟩ <;> (simp only [putF]; have h1 := d0 i; have h2 := d8 i; have h3 := s0 i; have h4 := sn i; have h5 := op i; split <;> omega)
  · simp only [e, if_false]
    refine ⟨fun i => ?_, fun i => ?_, fun i => ?_, fun i => ?_, fun i => ?_, n0⟩ <;> (simp only [putF]; have h1 := d0 i; have h2 := d8 i; have h3 := s0 i; have h4 := sn i; have h5 := op i; try split) <;> try omega
    rename_i hi
    subst hi
    omega
/-- Enter, Exit of one reader: the error; what there is then; did its section end? -/
def enterE (x : SS) (r : Int) : Int := if 0 ≤ r ∧ r < 64 then (if 8 ≤ x.d r.toNat then 3 else 0) else 2
def enterS (x : SS) (r : Int) : SS := if enterE x r = 0 then inS x r.toNat else x
def exitE (x : SS) (r : Int) : Int := if 0 ≤ r ∧ r < 64 then (if x.d r.toNat = 0 then 6 else 0) else 2
def exitB (x : SS) (r : Int) : Bool := decide (exitE x r = 0) && decide (x.d r.toNat = 1)
def exitS (x : SS) (r : Int) : SS := if exitE x r = 0 then outS x r.toNat else x
theorem enterE_zero {x : SS} {r : Int} : enterE x r = 0 ↔ (0 ≤ r ∧ r < 64) ∧ x.d r.toNat < 8 := by
  unfold enterE
  split
  · rename_i h; split
    · rename_i h2; constructor
      · intro e; cases e
      · rintro ⟨_, h3⟩; omega
    · rename_i h2; exact ⟨fun _ => ⟨h, by omega⟩, fun _ => rfl⟩
  · rename_i h; exact ⟨fun e => absurd e (by decide), fun k => absurd k.1 h⟩
theorem exitE_zero {x : SS} {r : Int} : exitE x r = 0 ↔ (0 ≤ r ∧ r < 64) ∧ x.d r.toNat ≠ 0 := by
  unfold exitE
  split
  · rename_i h; split
    · rename_i h2; constructor
      · intro e; cases e
      · rintro ⟨_, h3⟩; exact absurd h2 h3
    · rename_i h2; exact ⟨fun _ => ⟨h, h2⟩, fun _ => rfl⟩
  · rename_i h; exact ⟨fun e => absurd e (by decide), fun k => absurd k.1 h⟩
theorem GS.enter {x : SS} (h : GS x) (r : Int) : GS (enterS x r) := by
  unfold enterS
  split
  · rename_i e; exact h.inS (enterE_zero.1 e).2
  · exact h
theorem GS.exit {x : SS} (h : GS x) (r : Int) : GS (exitS x r) := by
  unfold exitS
  split
  · rename_i e; exact h.outS (exitE_zero.1 e).2
  · exact h
theorem enter_n (x : SS) (r : Int) : x.n ≤ (enterS x r).n ∧ (enterS x r).n ≤ x.n + 1 := by
  unfold enterS inS
  split
  · dsimp only; split <;> omega
  · omega
theorem exit_n (x : SS) (r : Int) : (exitS x r).n = x.n := by
  unfold exitS outS
  split <;> rfl
/-- Several that enter. -/
def enterL : SS → List Int → Int × SS
  | x, [] => (0, x)
  | x, r :: l => if enterE x r = 0 then enterL (enterS x r) l else (enterE x r, x)
theorem enterL_snoc {x y : SS} {l : List Int} (h : enterL x l = (0, y)) (r : Int) : enterL x (l ++ [r]) = (enterE y r, enterS y r) := by
  induction l generalizing x with
  | nil =>
    simp only [enterL, Prod.mk.injEq, true_and] at h
    subst h
    simp only [List.nil_append, enterL]
    by_cases e : enterE x r = 0
    · rw [if_pos e, e]
    · rw [if_neg e, enterS, if_neg e]
  | cons a l ih =>
    simp only [enterL, List.cons_append] at h ⊢
    split
    · rename_i e; rw [if_pos e] at h; exact ih h
    · rename_i e; rw [if_neg e] at h; exact absurd (congrArg Prod.fst h) e
theorem enterL_stop {x y : SS} {l : List Int} {e : Int} (h : enterL x l = (e, y)) (he : e ≠ 0) (m : List Int) : enterL x (l ++ m) = (e, y) := by
  induction l generalizing x with
  | nil => exact absurd (congrArg Prod.fst h).symm he
  | cons a l ih =>
    simp only [enterL, List.cons_append] at h ⊢
    split
    · rename_i e1; rw [if_pos e1] at h; exact ih h
    · rename_i e1; rw [if_neg e1] at h; exact h
theorem enterL_one (x : SS) (r : Int) : enterL x [r] = (enterE x r, enterS x r) := enterL_snoc (l := []) rfl r
theorem GS.enters {x : SS} (h : GS x) (l : List Int) : GS (enterL x l).2 ∧ x.n ≤ (enterL x l).2.n ∧ (enterL x l).2.n ≤ x.n + l.length := by
  induction l generalizing x with
  | nil => exact ⟨h, Int.le_refl _, by simp [enterL]⟩
  | cons a l ih =>
    simp only [enterL, List.length_cons]
    split
    · have h1 := ih (h.enter a)
      have h2 := enter_n x a
      exact ⟨h1.1, by omega, by omega⟩
    · exact ⟨h, by simp only; omega, by simp only; omega⟩

/-- How deep a number is, and since when: 0 of no reader. -/
def dOf (x : SS) (r : Int) : Int := if 0 ≤ r ∧ r < 64 then x.d r.toNat else 0
def sOf (x : SS) (r : Int) : Int := if 0 ≤ r ∧ r < 64 then x.s r.toNat else 0
/-- What readers did: each one's number, and whether it left. -/
def stepS (x : SS) (a : Nat × Bool) : SS := if a.2 = true then outS x a.1 else inS x a.1
def runS (l : List (Nat × Bool)) : SS := l.foldl stepS SS.zero
theorem runS_snoc (l : List (Nat × Bool)) (a : Nat × Bool) : runS (l ++ [a]) = stepS (runS l) a := by simp [runS]
theorem runS_take {l : List (Nat × Bool)} {k : Nat} {a : Nat × Bool} (h : l[k]? = some a) : runS (l.take (k + 1)) = stepS (runS (l.take k)) a := by
  rw [List.take_add_one, h]
  exact runS_snoc _ _
/-- How far numbers go. -/
structure Near (x : SS) (m : Nat) : Prop where
  d1 : ∀ i, -(m : Int) ≤ x.d i ∧ x.d i ≤ m
  s1 : ∀ i, 0 ≤ x.s i ∧ x.s i ≤ x.n
  n1 : 0 ≤ x.n ∧ x.n ≤ m
theorem Near.step {x : SS} {m : Nat} (h : Near x m) (a : Nat × Bool) : Near (stepS x a) (m + 1) := by
  obtain ⟨d1, s1, n1⟩ := h
  have ha := d1 a.1
  unfold stepS
  split
  · unfold outS
    refine ⟨fun i => ?_, fun i => ?_, by simp only; omega⟩
    · simp only [putF]; have := d1 i; split <;> omega
    · have := s1 i
      simp only
      split
      · simp only [putF]; split <;> omega
      · exact this
  · unfold inS
    refine ⟨fun i => ?_, fun i => ?_, by simp only; split <;> omega⟩
    · simp only [putF]; have := d1 i; split <;> omega
    · have := s1 i
      simp only
      split
      · simp only [putF]; split <;> omega
      · exact this
theorem near_run (l : List (Nat × Bool)) : Near (runS l) l.length := by
  suffices ∀ k, k ≤ l.length → Near (runS (l.take k)) k by
    have h := this l.length (Nat.le_refl _)
    rwa [List.take_length] at h
  intro k
  induction k with
  | zero => intro _; exact ⟨fun i => by simp [runS, SS.zero], fun i => by simp [runS, SS.zero], by simp [runS, SS.zero]⟩
  | succ k ih =>
    intro hk
    rw [runS_take (List.getElem?_eq_getElem (by omega))]
    exact (ih (by omega)).step _

/-- The mask of those that are such. -/
def mskN (p : Nat → Bool) : Nat := Mk.withN 0 (((List.range 64).filter p).map fun (i : Nat) => (i : Int))
theorem bitv_test (z : Int) {i : Nat} (hi : i < 64) : (Mk.bitv z).testBit i = decide (z = (i : Int)) := by
  unfold Mk.bitv
  split
  · rename_i h
    rw [Nat.testBit_two_pow]
    by_cases e : z.toNat = i
    · rw [decide_eq_true e, decide_eq_true (by omega)]
    · rw [decide_eq_false e, decide_eq_false (by omega)]
  · rw [Nat.zero_testBit, decide_eq_false (by omega)]
theorem withN_test (zs : List Int) : ∀ (m : Nat) {i : Nat}, i < 64 → (Mk.withN m zs).testBit i = (m.testBit i || decide ((i : Int) ∈ zs)) := by
  induction zs with
  | nil => intro m i _; simp [Mk.withN]
  | cons z zs ih =>
    intro m i hi
    have h := ih (m ||| Mk.bitv z) hi
    rw [show Mk.withN m (z :: zs) = Mk.withN (m ||| Mk.bitv z) zs from rfl, h, Nat.testBit_or, bitv_test z hi]
    by_cases e : z = (i : Int)
    · simp [e]
    · have e2 : ¬ (i : Int) = z := fun k => e k.symm
      simp [e, e2]
theorem mskN_lt (p : Nat → Bool) : mskN p < 18446744073709551616 := Mk.withN_lt 0 _ (by decide)
theorem high_bit {m i : Nat} (hm : m < 18446744073709551616) (hi : ¬ i < 64) : m.testBit i = false :=
  Nat.testBit_lt_two_pow (Nat.lt_of_lt_of_le hm (by
    have : (18446744073709551616 : Nat) = 2 ^ 64 := by decide
    rw [this]
    exact Nat.pow_le_pow_right (by decide) (by omega)))
theorem mskN_test (p : Nat → Bool) (i : Nat) : (mskN p).testBit i = (decide (i < 64) && p i) := by
  by_cases hi : i < 64
  · rw [mskN, withN_test _ _ hi, Nat.zero_testBit, Bool.false_or, decide_eq_true hi, Bool.true_and, Bool.eq_iff_iff, decide_eq_true_eq, List.mem_map]
    constructor
    · rintro ⟨k, hk, e⟩
      obtain rfl : k = i := by omega
      exact (List.mem_filter.1 hk).2
    · intro h
      exact ⟨i, List.mem_filter.2 ⟨List.mem_range.2 hi, h⟩, rfl⟩
  · rw [high_bit (mskN_lt p) hi, decide_eq_false hi, Bool.false_and]
theorem mskN_congr {p q : Nat → Bool} (h : ∀ i, i < 64 → p i = q i) : mskN p = mskN q := by
  apply Nat.eq_of_testBit_eq
  intro i
  rw [mskN_test, mskN_test]
  by_cases hi : i < 64
  · rw [h i hi]
  · rw [decide_eq_false hi, Bool.false_and, Bool.false_and]
theorem mskN_none {p : Nat → Bool} (h : ∀ i, i < 64 → p i = false) : mskN p = 0 := by
  apply Nat.eq_of_testBit_eq
  intro i
  rw [mskN_test, Nat.zero_testBit]
  by_cases hi : i < 64
  · rw [h i hi, Bool.and_false]
  · rw [decide_eq_false hi, Bool.false_and]
/-- The same from the last one down: the first j of them. -/
def dwnN (p : Nat → Bool) : Nat → Nat
  | 0 => 0
  | j + 1 => dwnN p j * 2 + (if p (63 - j) = true then 1 else 0)
theorem dwnN_lt (p : Nat → Bool) : ∀ j, dwnN p j < 2 ^ j
  | 0 => by simp [dwnN]
  | j + 1 => by
    have := dwnN_lt p j
    simp only [dwnN, Nat.pow_succ]
    split <;> omega
theorem dwnN_bit (p : Nat → Bool) : ∀ j, j ≤ 64 → ∀ i, (dwnN p j).testBit i = (decide (i < j) && p (64 - j + i))
  | 0, _, i => by simp [dwnN]
  | j + 1, hj, i => by
    simp only [dwnN]
    have ih := dwnN_bit p j (by omega)
    cases i with
    | zero =>
      rw [Nat.testBit_zero, show 64 - (j + 1) + 0 = 63 - j by omega]
      cases h : p (63 - j) <;> simp <;> omega
    | succ i =>
      rw [Nat.testBit_succ, show (dwnN p j * 2 + (if p (63 - j) = true then 1 else 0)) / 2 = dwnN p j by split <;> omega, ih i, show 64 - (j + 1) + (i + 1) = 64 - j + i by omega]
      by_cases h : i < j
      · simp [h]
      · simp [h]
theorem dwnN_all (p : Nat → Bool) : dwnN p 64 = mskN p := by
  apply Nat.eq_of_testBit_eq
  intro i
  rw [dwnN_bit p 64 (Nat.le_refl _), Nat.sub_self, Nat.zero_add, mskN_test]

/-- Who is inside; whose sections are, up to a stamp; the document's answer. -/
def inP (x : SS) (i : Nat) : Bool := decide (0 < x.d i)
def openP (x : SS) (t : Int) (i : Nat) : Bool := decide (0 < x.d i) && decide (x.s i ≤ t)
def refP (x : SS) (t : Int) (i : Nat) : Bool := decide (0 < x.s i) && (decide (t < 0) || decide (x.s i ≤ t))
theorem refP_in {x : SS} (h : GS x) : mskN (refP x (-1)) = mskN (inP x) := mskN_congr fun i _ => by
  unfold refP inP
  have := h.op i
  by_cases e : 0 < x.s i
  · simp [e, this.2 e]
  · have e2 : ¬ 0 < x.d i := fun k => e (this.1 k)
    simp [e, e2]
theorem refP_open {x : SS} (h : GS x) {t : Int} (ht : 0 ≤ t) : mskN (refP x t) = mskN (openP x t) := mskN_congr fun i _ => by
  unfold refP openP
  have := h.op i
  by_cases e : 0 < x.s i
  · have e3 : ¬ t < 0 := by omega
    simp [e, this.2 e, e3]
  · have e2 : ¬ 0 < x.d i := fun k => e (this.1 k)
    simp [e, e2]
theorem open_neg {x : SS} (h : GS x) {t : Int} (ht : t < 0) : mskN (openP x t) = 0 := mskN_none fun i _ => by
  unfold openP
  have := h.s0 i
  rw [show decide (x.s i ≤ t) = false from decide_eq_false (by omega), Bool.and_false]
theorem open_all {x : SS} (h : GS x) : mskN (openP x x.n) = mskN (inP x) := mskN_congr fun i _ => by
  unfold openP inP
  rw [decide_eq_true (h.sn i), Bool.and_true]
theorem inP_iff {x : SS} {i : Nat} : inP x i = true ↔ 0 < x.d i := by simp [inP]
theorem openP_iff {x : SS} {t : Int} {i : Nat} : openP x t i = true ↔ 0 < x.d i ∧ x.s i ≤ t := by simp [openP]
theorem inS_d (x : SS) (r i : Nat) : (inS x r).d i = if i = r then x.d r + 1 else x.d i := rfl
theorem inS_s (x : SS) (r i : Nat) : (inS x r).s i = if i = r ∧ x.d r = 0 then x.n + 1 else x.s i := by
  unfold inS
  dsimp only
  split
  · rename_i h; simp [h, putF]
  · rename_i h; simp [h]
theorem outS_d (x : SS) (r i : Nat) : (outS x r).d i = if i = r then x.d r - 1 else x.d i := rfl
theorem outS_s (x : SS) (r i : Nat) : (outS x r).s i = if i = r ∧ x.d r = 1 then 0 else x.s i := by
  unfold outS
  dsimp only
  split
  · rename_i h; simp [h, putF]
  · rename_i h; simp [h]
theorem open_enter {x : SS} (h : GS x) {t : Int} (ht : t ≤ x.n) (r : Int) : mskN (openP (enterS x r) t) = mskN (openP x t) := mskN_congr fun i _ => by
  unfold enterS
  split
  · rw [Bool.eq_iff_iff, openP_iff, openP_iff, inS_d, inS_s]
    have h0 := h.d0 r.toNat
    have h1 := h.d0 i
    by_cases e : i = r.toNat
    · rw [if_pos e]
      by_cases e2 : x.d r.toNat = 0
      · rw [if_pos ⟨e, e2⟩, e, e2]; omega
      · rw [if_neg (fun k => e2 k.2), e]; omega
    · rw [if_neg e, if_neg (fun k => e k.1)]
  · rfl
theorem open_exit {x : SS} (h : GS x) {t : Int} {r : Int} (hb : exitB x r = false) : mskN (openP (exitS x r) t) = mskN (openP x t) := mskN_congr fun i _ => by
  unfold exitS
  split
  · rename_i he
    have h0 := (exitE_zero.1 he).2
    have h1 : x.d r.toNat ≠ 1 := fun e => by unfold exitB at hb; rw [decide_eq_true he, decide_eq_true e] at hb; cases hb
    have hd := h.d0 r.toNat
    rw [Bool.eq_iff_iff, openP_iff, openP_iff, outS_d, outS_s, if_neg (show ¬ (i = r.toNat ∧ x.d r.toNat = 1) from fun k => h1 k.2)]
    by_cases e : i = r.toNat
    · rw [if_pos e, e]; omega
    · rw [if_neg e]
  · rfl
theorem exitB_true {x : SS} {r : Int} (hb : exitB x r = true) : (0 ≤ r ∧ r < 64) ∧ x.d r.toNat = 1 ∧ exitE x r = 0 := by
  unfold exitB at hb
  simp only [Bool.and_eq_true, decide_eq_true_eq] at hb
  exact ⟨(exitE_zero.1 hb.1).1, hb.2, hb.1⟩
theorem without_test {m : Nat} (hm : m < 18446744073709551616) (zs : List Int) (i : Nat) : (Mk.withoutN m zs).testBit i = (m.testBit i && !decide ((i : Int) ∈ zs)) := by
  by_cases hi : i < 64
  · have h1 : (18446744073709551615 : Nat) - Mk.withN 0 zs = 2 ^ 64 - (Mk.withN 0 zs + 1) := by
      have : (18446744073709551616 : Nat) = 2 ^ 64 := by decide
      omega
    have h2 : Mk.withN 0 zs < 2 ^ 64 := Mk.withN_lt 0 zs (by decide)
    rw [Mk.withoutN, Nat.testBit_and, h1, Nat.testBit_two_pow_sub_succ h2, withN_test zs 0 hi]
    simp [hi]
  · rw [high_bit (Mk.withoutN_lt m zs hm) hi, high_bit hm hi, Bool.false_and]
theorem open_end {x : SS} {t : Int} {r : Int} (hb : exitB x r = true) : mskN (openP (exitS x r) t) = Mk.withoutN (mskN (openP x t)) [r] := by
  obtain ⟨hr, h1, he⟩ := exitB_true hb
  apply Nat.eq_of_testBit_eq
  intro i
  rw [mskN_test, without_test (mskN_lt _), mskN_test, Bool.and_assoc]
  congr 1
  unfold exitS
  rw [if_pos he, Bool.eq_iff_iff, Bool.and_eq_true, openP_iff, openP_iff, outS_d, outS_s, Bool.not_eq_true', decide_eq_false_iff_not, List.mem_singleton]
  by_cases e : i = r.toNat
  · rw [if_pos e, if_pos ⟨e, h1⟩]; omega
  · rw [if_neg e, if_neg (fun k => e k.1)]; omega
theorem msk_has (p : Nat → Bool) (r : Nat) (hr : r < 64) : Mk.hasb (mskN p) (r : Int) = p r := by
  unfold Mk.hasb
  rw [show ((r : Int)).toNat = r by omega, mskN_test, decide_eq_true hr, decide_eq_true (show (0 : Int) ≤ (r : Int) ∧ (r : Int) < 64 by omega)]
  simp
end Go.Proofs.YtlmepjpkaionbaaDoor
