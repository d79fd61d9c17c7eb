/-
  Plain: sections told by what readers did; who is inside, as a mask.
  Sections in memory: isReader, Stamp, Depth, Since, enterOne, Exit, Enter.
  Sections: Exit, Enter.
  A loop over a function whose contract tells the body what was yielded so far, and that this one comes next.
  Sections: the iterator over the readers that are such; In, Open as masks.
  Sections: maskOf, In, Open; nil sections.
-/
import Derived.Test.YtjoaigadlpndcaaGreatDoorMgB
import Derived.Test.YtjoaigadlpndcaaGreatDoorMgA
import Derived.RangeFuncNested
import Derived.RangeFuncBound
import Derived.RangeFuncBox
import Derived.RangeFuncCalls
import Derived.RangeFuncLeaves
import Derived.Shelf.Abstract
import Derived.Shelf.RegionOpen
import Derived.OwnWalkIn
import Derived.TacticsInMore
import Derived.LoopNIn
import Derived.LoopIn
namespace Go.Proofs.YtjoaigadlpndcaaGreatDoor

/-- How many sections began; how deep each reader is; its section's stamp. -/
structure SS where
  n : Int
  d : Nat → Int
  s : Nat → Int
def putF (f : Nat → Int) (k : Nat) (v : Int) : Nat → Int := fun i => if i = k then v else f i
theorem putF_same (f : Nat → Int) (k : Nat) (v : Int) : putF f k v k = v := by simp [putF]
theorem putF_other (f : Nat → Int) {k i : Nat} (v : Int) (h : i ≠ k) : putF f k v i = f i := by simp [putF, h]
def SS.zero : SS := ⟨0, fun _ => 0, fun _ => 0⟩
/-- A reader goes one deeper; one less deep. -/
def inS (x : SS) (r : Nat) : SS := ⟨if x.d r = 0 then x.n + 1 else x.n, putF x.d r (x.d r + 1), if x.d r = 0 then putF x.s r (x.n + 1) else x.s⟩
def outS (x : SS) (r : Nat) : SS := ⟨x.n, putF x.d r (x.d r - 1), if x.d r = 1 then putF x.s r 0 else x.s⟩
/-- What holds of sections at all times. -/
structure GS (x : SS) : Prop where
  d0 : ∀ i, 0 ≤ x.d i
  d8 : ∀ i, x.d i ≤ 8
  s0 : ∀ i, 0 ≤ x.s i
  sn : ∀ i, x.s i ≤ x.n
  op : ∀ i, 0 < x.d i ↔ 0 < x.s i
  n0 : 0 ≤ x.n
theorem GS.zero : GS SS.zero := ⟨fun _ => by simp [SS.zero], fun _ => by simp [SS.zero], fun _ => by simp [SS.zero], fun _ => by simp [SS.zero], fun _ => by simp [SS.zero], by simp [SS.zero]⟩
theorem GS.inS {x : SS} (h : GS x) {r : Nat} (hr : x.d r < 8) : GS (Proofs.YtjoaigadlpndcaaGreatDoor.inS x r) := by
  obtain ⟨d0, d8, s0, sn, op, n0⟩ := h
  have hd := d0 r
  have hd8 := d8 r
  unfold Proofs.YtjoaigadlpndcaaGreatDoor.inS
  by_cases e : x.d r = 0
  · simp only [e, if_true]
    refine ⟨fun i => ?_, fun i => ?_, fun i => ?_, fun i => ?_, fun i => ?_, by simp only; omega⟩ <;> (simp only [putF]; have h1 := d0 i; have h2 := d8 i; have h3 := s0 i; have h4 := sn i; have h5 := op i; split <;> omega)
  · simp only [e, if_false]
    refine ⟨fun i => ?_, fun i => ?_, fun i => ?_, fun i => ?_, fun i => ?_, n0⟩ <;> (simp only [putF]; have h1 := d0 i; have h2 := d8 i; have h3 := s0 i; have h4 := sn i; have h5 := op i; try split) <;> try omega
    rename_i hi
    subst hi
    omega
theorem GS.outS {x : SS} (h : GS x) {r : Nat} (hr : x.d r ≠ 0) : GS (Proofs.YtjoaigadlpndcaaGreatDoor.outS x r) := by
  obtain ⟨d0, d8, s0, sn, op, n0⟩ := h
  have hd := d0 r
  have hd8 := d8 r
  unfold Proofs.YtjoaigadlpndcaaGreatDoor.outS
  by_cases e : x.d r = 1
  · simp only [e, if_true]
    refine ⟨fun i => ?_, fun i => ?_, fun i => ?_, fun i => ?_, fun i => ?_, n0⟩ <;> (simp only [putF]; have h1 := d0 i; have h2 := d8 i; have h3 := s0 i; have h4 := sn i; have h5 := op i; split <;> omega)
  · simp only [e, if_false]
    refine ⟨fun i => ?_, fun i => ?_, fun i => ?_, fun i => ?_, fun i => ?_, n0⟩ <;> (simp only [putF]; have h1 := d0 i; have h2 := d8 i; have h3 := s0 i; have h4 := sn i; have h5 := op i; try split) <;> try omega
    rename_i hi
    subst hi
    omega
/-- Enter, Exit of one reader: the error; what there is then; did its section end? -/
def enterE (x : SS) (r : Int) : Int := if 0 ≤ r ∧ r < 64 then (if 8 ≤ x.d r.toNat then 3 else 0) else 2
def enterS (x : SS) (r : Int) : SS := if enterE x r = 0 then inS x r.toNat else x
def exitE (x : SS) (r : Int) : Int := if 0 ≤ r ∧ r < 64 then (if x.d r.toNat = 0 then 6 else 0) else 2
def exitB (x : SS) (r : Int) : Bool := decide (exitE x r = 0) && decide (x.d r.toNat = 1)
def exitS (x : SS) (r : Int) : SS := if exitE x r = 0 then outS x r.toNat else x
theorem enterE_zero {x : SS} {r : Int} : enterE x r = 0 ↔ (0 ≤ r ∧ r < 64) ∧ x.d r.toNat < 8 := by
  unfold enterE
  split
  · rename_i h; split
    · rename_i h2; constructor
      · intro e; cases e
      · rintro ⟨_, h3⟩; omega
    · rename_i h2; exact ⟨fun _ => ⟨h, by omega⟩, fun _ => rfl⟩
  · rename_i h; exact ⟨fun e => absurd e (by decide), fun k => absurd k.1 h⟩
theorem exitE_zero {x : SS} {r : Int} : exitE x r = 0 ↔ (0 ≤ r ∧ r < 64) ∧ x.d r.toNat ≠ 0 := by
  unfold exitE
  split
  · rename_i h; split
    · rename_i h2; constructor
      · intro e; cases e
      · rintro ⟨_, h3⟩; exact absurd h2 h3
    · rename_i h2; exact ⟨fun _ => ⟨h, h2⟩, fun _ => rfl⟩
  · rename_i h; exact ⟨fun e => absurd e (by decide), fun k => absurd k.1 h⟩
theorem GS.enter {x : SS} (h : GS x) (r : Int) : GS (enterS x r) := by
  unfold enterS
  split
  · rename_i e; exact h.inS (enterE_zero.1 e).2
  · exact h
theorem GS.exit {x : SS} (h : GS x) (r : Int) : GS (exitS x r) := by
  unfold exitS
  split
  · rename_i e; exact h.outS (exitE_zero.1 e).2
  · exact h
theorem enter_n (x : SS) (r : Int) : x.n ≤ (enterS x r).n ∧ (enterS x r).n ≤ x.n + 1 := by
  unfold enterS inS
  split
  · dsimp only; split <;> omega
  · omega
theorem exit_n (x : SS) (r : Int) : (exitS x r).n = x.n := by
  unfold exitS outS
  split <;> rfl
/-- Several that enter. -/
def enterL : SS → List Int → Int × SS
  | x, [] => (0, x)
  | x, r :: l => if enterE x r = 0 then enterL (enterS x r) l else (enterE x r, x)
theorem enterL_snoc {x y : SS} {l : List Int} (h : enterL x l = (0, y)) (r : Int) : enterL x (l ++ [r]) = (enterE y r, enterS y r) := by
  induction l generalizing x with
  | nil =>
    simp only [enterL, Prod.mk.injEq, true_and] at h
    subst h
    simp only [List.nil_append, enterL]
    by_cases e : enterE x r = 0
    · rw [if_pos e, e]
    · rw [if_neg e, enterS, if_neg e]
  | cons a l ih =>
    simp only [enterL, List.cons_append] at h ⊢
    split
    · rename_i e; rw [if_pos e] at h; exact ih h
    · rename_i e; rw [if_neg e] at h; exact absurd (congrArg Prod.fst h) e
theorem enterL_stop {x y : SS} {l : List Int} {e : Int} (h : enterL x l = (e, y)) (he : e ≠ 0) (m : List Int) : enterL x (l ++ m) = (e, y) := by
  induction l generalizing x with
  | nil => exact absurd (congrArg Prod.fst h).symm he
  | cons a l ih =>
    simp only [enterL, List.cons_append] at h ⊢
    split
    · rename_i e1; rw [if_pos e1] at h; exact ih h
    · rename_i e1; rw [if_neg e1] at h; exact h
theorem enterL_one (x : SS) (r : Int) : enterL x [r] = (enterE x r, enterS x r) := enterL_snoc (l := []) rfl r
theorem GS.enters {x : SS} (h : GS x) (l : List Int) : GS (enterL x l).2 ∧ x.n ≤ (enterL x l).2.n ∧ (enterL x l).2.n ≤ x.n + l.length := by
  induction l generalizing x with
  | nil => exact ⟨h, Int.le_refl _, by simp [enterL]⟩
  | cons a l ih =>
    simp only [enterL, List.length_cons]
    split
    · have h1 := ih (h.enter a)
      have h2 := enter_n x a
      exact ⟨h1.1, by omega, by omega⟩
    · exact ⟨h, by simp only; omega, by simp only; omega⟩

/-- How deep a number is, and since when: 0 of no reader. -/
def dOf (x : SS) (r : Int) : Int := if 0 ≤ r ∧ r < 64 then x.d r.toNat else 0
def sOf (x : SS) (r : Int) : Int := if 0 ≤ r ∧ r < 64 then x.s r.toNat else 0
/-- What readers did: each one's number, and whether it left. -/
def stepS (x : SS) (a : Nat × Bool) : SS := if a.2 = true then outS x a.1 else inS x a.1
def runS (l : List (Nat × Bool)) : SS := l.foldl stepS SS.zero
theorem runS_snoc (l : List (Nat × Bool)) (a : Nat × Bool) : runS (l ++ [a]) = stepS (runS l) a := by simp [runS]
theorem runS_take {l : List (Nat × Bool)} {k : Nat} {a : Nat × Bool} (h : l[k]? = some a) : runS (l.take (k + 1)) = stepS (runS (l.take k)) a := by
  rw [List.take_add_one, h]
  exact runS_snoc _ _
/-- How far numbers go. -/
structure Near (x : SS) (m : Nat) : Prop where
  d1 : ∀ i, -(m : Int) ≤ x.d i ∧ x.d i ≤ m
  s1 : ∀ i, 0 ≤ x.s i ∧ x.s i ≤ x.n
  n1 : 0 ≤ x.n ∧ x.n ≤ m
theorem Near.step {x : SS} {m : Nat} (h : Near x m) (a : Nat × Bool) : Near (stepS x a) (m + 1) := by
  obtain ⟨d1, s1, n1⟩ := h
  have ha := d1 a.1
  unfold stepS
  split
  · unfold outS
    refine ⟨fun i => ?_, fun i => ?_, by simp only; omega⟩
    · simp only [putF]; have := d1 i; split <;> omega
    · have := s1 i
      simp only
      split
      · simp only [putF]; split <;> omega
      · exact this
  · unfold inS
    refine ⟨fun i => ?_, fun i => ?_, by simp only; split <;> omega⟩
    · simp only [putF]; have := d1 i; split <;> omega
    · have := s1 i
      simp only
      split
      · simp only [putF]; split <;> omega
      · exact this
theorem near_run (l : List (Nat × Bool)) : Near (runS l) l.length := by
  suffices ∀ k, k ≤ l.length → Near (runS (l.take k)) k by
    have h := this l.length (Nat.le_refl _)
    rwa [List.take_length] at h
  intro k
  induction k with
  | zero => intro _; exact ⟨fun i => by simp [runS, SS.zero], fun i => by simp [runS, SS.zero], by simp [runS, SS.zero]⟩
  | succ k ih =>
    intro hk
    rw [runS_take (List.getElem?_eq_getElem (by omega))]
    exact (ih (by omega)).step _

/-- The mask of those that are such. -/
def mskN (p : Nat → Bool) : Nat := Mk.withN 0 (((List.range 64).filter p).map fun (i : Nat) => (i : Int))
theorem bitv_test (z : Int) {i : Nat} (hi : i < 64) : (Mk.bitv z).testBit i = decide (z = (i : Int)) := by
  unfold Mk.bitv
  split
  · rename_i h
    rw [Nat.testBit_two_pow]
    by_cases e : z.toNat = i
    · rw [decide_eq_true e, decide_eq_true (by omega)]
    · rw [decide_eq_false e, decide_eq_false (by omega)]
  · rw [Nat.zero_testBit, decide_eq_false (by omega)]
theorem withN_test (zs : List Int) : ∀ (m : Nat) {i : Nat}, i < 64 → (Mk.withN m zs).testBit i = (m.testBit i || decide ((i : Int) ∈ zs)) := by
  induction zs with
  | nil => intro m i _; simp [Mk.withN]
  | cons z zs ih =>
    intro m i hi
    have h := ih (m ||| Mk.bitv z) hi
    rw [show Mk.withN m (z :: zs) = Mk.withN (m ||| Mk.bitv z) zs from rfl, h, Nat.testBit_or, bitv_test z hi]
    by_cases e : z = (i : Int)
    · simp [e]
    · have e2 : ¬ (i : Int) = z := fun k => e k.symm
      simp [e, e2]
theorem mskN_lt (p : Nat → Bool) : mskN p < 18446744073709551616 := Mk.withN_lt 0 _ (by decide)
theorem high_bit {m i : Nat} (hm : m < 18446744073709551616) (hi : ¬ i < 64) : m.testBit i = false :=
  Nat.testBit_lt_two_pow (Nat.lt_of_lt_of_le hm (by
    have : (18446744073709551616 : Nat) = 2 ^ 64 := by decide
    rw [this]
    exact Nat.pow_le_pow_right (by decide) (by omega)))
theorem mskN_test (p : Nat → Bool) (i : Nat) : (mskN p).testBit i = (decide (i < 64) && p i) := by
  by_cases hi : i < 64
  · rw [mskN, withN_test _ _ hi, Nat.zero_testBit, Bool.false_or, decide_eq_true hi, Bool.true_and, Bool.eq_iff_iff, decide_eq_true_eq, List.mem_map]
    constructor
    · rintro ⟨k, hk, e⟩
      obtain rfl : k = i := by omega
      exact (List.mem_filter.1 hk).2
    · intro h
      exact ⟨i, List.mem_filter.2 ⟨List.mem_range.2 hi, h⟩, rfl⟩
  · rw [high_bit (mskN_lt p) hi, decide_eq_false hi, Bool.false_and]
theorem mskN_congr {p q : Nat → Bool} (h : ∀ i, i < 64 → p i = q i) : mskN p = mskN q := by
  apply Nat.eq_of_testBit_eq
  intro i
  rw [mskN_test, mskN_test]
  by_cases hi : i < 64
  · rw [h i hi]
  · rw [decide_eq_false hi, Bool.false_and, Bool.false_and]
theorem mskN_none {p : Nat → Bool} (h : ∀ i, i < 64 → p i = false) : mskN p = 0 := by
  apply Nat.eq_of_testBit_eq
  intro i
  rw [mskN_test, Nat.zero_testBit]
  by_cases hi : i < 64
  · rw [h i hi, Bool.and_false]
  · rw [decide_eq_false hi, Bool.false_and]
/-- The same from the last one down: the first j of them. -/
def dwnN (p : Nat → Bool) : Nat → Nat
  | 0 => 0
  | j + 1 => dwnN p j * 2 + (if p (63 - j) = true then 1 else 0)
theorem dwnN_lt (p : Nat → Bool) : ∀ j, dwnN p j < 2 ^ j
  | 0 => by simp [dwnN]
  | j + 1 => by
    have := dwnN_lt p j
    simp only [dwnN, Nat.pow_succ]
    split <;> omega
theorem dwnN_bit (p : Nat → Bool) : ∀ j, j ≤ 64 → ∀ i, (dwnN p j).testBit i = (decide (i < j) && p (64 - j + i))
  | 0, _, i => by simp [dwnN]
  | j + 1, hj, i => by
    simp only [dwnN]
    have ih := dwnN_bit p j (by omega)
    cases i with
    | zero =>
      rw [Nat.testBit_zero, show 64 - (j + 1) + 0 = 63 - j by omega]
      cases h : p (63 - j) <;> simp <;> omega
    | succ i =>
      rw [Nat.testBit_succ, show (dwnN p j * 2 + (if p (63 - j) = true then 1 else 0)) / 2 = dwnN p j by split <;> omega, ih i, show 64 - (j + 1) + (i + 1) = 64 - j + i by omega]
      by_cases h : i < j
      · simp [h]
      · simp [h]
theorem dwnN_all (p : Nat → Bool) : dwnN p 64 = mskN p := by
  apply Nat.eq_of_testBit_eq
  intro i
  rw [dwnN_bit p 64 (Nat.le_refl _), Nat.sub_self, Nat.zero_add, mskN_test]

/-- Who is inside; whose sections are, up to a stamp; the document's answer. -/
def inP (x : SS) (i : Nat) : Bool := decide (0 < x.d i)
def openP (x : SS) (t : Int) (i : Nat) : Bool := decide (0 < x.d i) && decide (x.s i ≤ t)
def refP (x : SS) (t : Int) (i : Nat) : Bool := decide (0 < x.s i) && (decide (t < 0) || decide (x.s i ≤ t))
theorem refP_in {x : SS} (h : GS x) : mskN (refP x (-1)) = mskN (inP x) := mskN_congr fun i _ => by
  unfold refP inP
  have := h.op i
  by_cases e : 0 < x.s i
  · simp [e, this.2 e]
  · have e2 : ¬ 0 < x.d i := fun k => e (this.1 k)
    simp [e, e2]
theorem refP_open {x : SS} (h : GS x) {t : Int} (ht : 0 ≤ t) : mskN (refP x t) = mskN (openP x t) := mskN_congr fun i _ => by
  unfold refP openP
  have := h.op i
  by_cases e : 0 < x.s i
  · have e3 : ¬ t < 0 := by omega
    simp [e, this.2 e, e3]
  · have e2 : ¬ 0 < x.d i := fun k => e (this.1 k)
    simp [e, e2]
theorem open_neg {x : SS} (h : GS x) {t : Int} (ht : t < 0) : mskN (openP x t) = 0 := mskN_none fun i _ => by
  unfold openP
  have := h.s0 i
  rw [show decide (x.s i ≤ t) = false from decide_eq_false (by omega), Bool.and_false]
theorem open_all {x : SS} (h : GS x) : mskN (openP x x.n) = mskN (inP x) := mskN_congr fun i _ => by
  unfold openP inP
  rw [decide_eq_true (h.sn i), Bool.and_true]
theorem inP_iff {x : SS} {i : Nat} : inP x i = true ↔ 0 < x.d i := by simp [inP]
theorem openP_iff {x : SS} {t : Int} {i : Nat} : openP x t i = true ↔ 0 < x.d i ∧ x.s i ≤ t := by simp [openP]
theorem inS_d (x : SS) (r i : Nat) : (inS x r).d i = if i = r then x.d r + 1 else x.d i := rfl
theorem inS_s (x : SS) (r i : Nat) : (inS x r).s i = if i = r ∧ x.d r = 0 then x.n + 1 else x.s i := by
  unfold inS
  dsimp only
  split
  · rename_i h; simp [h, putF]
  · rename_i h; simp [h]
theorem outS_d (x : SS) (r i : Nat) : (outS x r).d i = if i = r then x.d r - 1 else x.d i := rfl
theorem outS_s (x : SS) (r i : Nat) : (outS x r).s i = if i = r ∧ x.d r = 1 then 0 else x.s i := by
  unfold outS
  dsimp only
  split
  · rename_i h; simp [h, putF]
  · rename_i h; simp [h]
theorem open_enter {x : SS} (h : GS x) {t : Int} (ht : t ≤ x.n) (r : Int) : mskN (openP (enterS x r) t) = mskN (openP x t) := mskN_congr fun i _ => by
  unfold enterS
  split
  · rw [Bool.eq_iff_iff, openP_iff, openP_iff, inS_d, inS_s]
    have h0 := h.d0 r.toNat
    have h1 := h.d0 i
    by_cases e : i = r.toNat
    · rw [if_pos e]
      by_cases e2 : x.d r.toNat = 0
      · rw [if_pos ⟨e, e2⟩, e, e2]; omega
      · rw [if_neg (fun k => e2 k.2), e]; omega
    · rw [if_neg e, if_neg (fun k => e k.1)]
  · rfl
theorem open_exit {x : SS} (h : GS x) {t : Int} {r : Int} (hb : exitB x r = false) : mskN (openP (exitS x r) t) = mskN (openP x t) := mskN_congr fun i _ => by
  unfold exitS
  split
  · rename_i he
    have h0 := (exitE_zero.1 he).2
    have h1 : x.d r.toNat ≠ 1 := fun e => by unfold exitB at hb; rw [decide_eq_true he, decide_eq_true e] at hb; cases hb
    have hd := h.d0 r.toNat
    rw [Bool.eq_iff_iff, openP_iff, openP_iff, outS_d, outS_s, if_neg (show ¬ (i = r.toNat ∧ x.d r.toNat = 1) from fun k => h1 k.2)]
    by_cases e : i = r.toNat
    · rw [if_pos e, e]; omega
    · rw [if_neg e]
  · rfl
theorem exitB_true {x : SS} {r : Int} (hb : exitB x r = true) : (0 ≤ r ∧ r < 64) ∧ x.d r.toNat = 1 ∧ exitE x r = 0 := by
  unfold exitB at hb
  simp only [Bool.and_eq_true, decide_eq_true_eq] at hb
  exact ⟨(exitE_zero.1 hb.1).1, hb.2, hb.1⟩
theorem without_test {m : Nat} (hm : m < 18446744073709551616) (zs : List Int) (i : Nat) : (Mk.withoutN m zs).testBit i = (m.testBit i && !decide ((i : Int) ∈ zs)) := by
  by_cases hi : i < 64
  · have h1 : (18446744073709551615 : Nat) - Mk.withN 0 zs = 2 ^ 64 - (Mk.withN 0 zs + 1) := by
      have : (18446744073709551616 : Nat) = 2 ^ 64 := by decide
      omega
    have h2 : Mk.withN 0 zs < 2 ^ 64 := Mk.withN_lt 0 zs (by decide)
    rw [Mk.withoutN, Nat.testBit_and, h1, Nat.testBit_two_pow_sub_succ h2, withN_test zs 0 hi]
    simp [hi]
  · rw [high_bit (Mk.withoutN_lt m zs hm) hi, high_bit hm hi, Bool.false_and]
theorem open_end {x : SS} {t : Int} {r : Int} (hb : exitB x r = true) : mskN (openP (exitS x r) t) = Mk.withoutN (mskN (openP x t)) [r] := by
  obtain ⟨hr, h1, he⟩ := exitB_true hb
  apply Nat.eq_of_testBit_eq
  intro i
  rw [mskN_test, without_test (mskN_lt _), mskN_test, Bool.and_assoc]
  congr 1
  unfold exitS
  rw [if_pos he, Bool.eq_iff_iff, Bool.and_eq_true, openP_iff, openP_iff, outS_d, outS_s, Bool.not_eq_true', decide_eq_false_iff_not, List.mem_singleton]
  by_cases e : i = r.toNat
  · rw [if_pos e, if_pos ⟨e, h1⟩]; omega
  · rw [if_neg e, if_neg (fun k => e k.1)]; omega
theorem msk_has (p : Nat → Bool) (r : Nat) (hr : r < 64) : Mk.hasb (mskN p) (r : Int) = p r := by
  unfold Mk.hasb
  rw [show ((r : Int)).toNat = r by omega, mskN_test, decide_eq_true hr, decide_eq_true (show (0 : Int) ≤ (r : Int) ∧ (r : Int) < 64 by omega)]
  simp
end Go.Proofs.YtjoaigadlpndcaaGreatDoor
namespace Go.Proofs.YtjoaigadlpndcaaGreatDoor
open Go.RowKit

/-- Sections in a block of 129 cells. -/
structure Sec (w : World) (b : Nat) (x : SS) : Prop where
  c : w.cell? ⟨b, 0, none⟩ = some (.int .i64 x.n)
  d : ∀ i, i < 64 → w.cell? ⟨b, 1 + i, none⟩ = some (.int .i64 (x.d i))
  s : ∀ i, i < 64 → w.cell? ⟨b, 65 + i, none⟩ = some (.int .i64 (x.s i))
  fr : ∀ k, w.frozen? ⟨b, k, none⟩ = false
section
variable {w w' : World} {b : Nat} {x : SS}
theorem Sec.lt (h : Sec w b x) : b < w.heap.size := cell_lt h.c
theorem Sec.ch {S : List Nat} (h : Sec w b x) (hc : Ch S w w') (hb : b ∉ S) : Sec w' b x :=
  ⟨(hc.cell (p := ⟨b, 0, none⟩) h.lt hb).trans h.c, fun i hi => (hc.cell (p := ⟨b, 1 + i, none⟩) h.lt hb).trans (h.d i hi), fun i hi => (hc.cell (p := ⟨b, 65 + i, none⟩) h.lt hb).trans (h.s i hi), fun k => (hc.frozen (p := ⟨b, k, none⟩) h.lt hb).trans (h.fr k)⟩
theorem Sec.drew (h : Sec w b x) : Sec w.drew b x := ⟨h.c, h.d, h.s, h.fr⟩
theorem Sec.setN (h : Sec w b x) (v : Int) : Sec (w.setCell ⟨b, 0, none⟩ (.int .i64 v)) b ⟨v, x.d, x.s⟩ :=
  ⟨setCell_same h.c, fun i hi => setCell_other (h.d i hi) (addr_ne_off (by omega)), fun i hi => setCell_other (h.s i hi) (addr_ne_off (by omega)), fun k => by simpa using h.fr k⟩
theorem Sec.setD (h : Sec w b x) {r : Nat} (hr : r < 64) (v : Int) : Sec (w.setCell ⟨b, 1 + r, none⟩ (.int .i64 v)) b ⟨x.n, putF x.d r v, x.s⟩ :=
  ⟨setCell_other h.c (addr_ne_off (by omega)), fun i hi => by
    by_cases e : i = r
    · subst e; rw [setCell_same (h.d i hi)]; dsimp only; rw [putF_same]
    · rw [setCell_other (h.d i hi) (addr_ne_off (by omega))]; dsimp only; rw [putF_other _ _ e], fun i hi => setCell_other (h.s i hi) (addr_ne_off (by omega)), fun k => by simpa using h.fr k⟩
theorem Sec.setS (h : Sec w b x) {r : Nat} (hr : r < 64) (v : Int) : Sec (w.setCell ⟨b, 65 + r, none⟩ (.int .i64 v)) b ⟨x.n, x.d, putF x.s r v⟩ :=
  ⟨setCell_other h.c (addr_ne_off (by omega)), fun i hi => setCell_other (h.d i hi) (addr_ne_off (by omega)), fun i hi => by
    by_cases e : i = r
    · subst e; rw [setCell_same (h.s i hi)]; dsimp only; rw [putF_same]
    · rw [setCell_other (h.s i hi) (addr_ne_off (by omega))]; dsimp only; rw [putF_other _ _ e], fun k => by simpa using h.fr k⟩
end

theorem isr_any (r : Int) (w : World) :
    Calls Tryz.prog 56 #[.int .i64 r] w fun e w' => e = .returned (.bool (decide (0 ≤ r ∧ r < 64))) ∧ w = w' := by
  by_cases h0 : r < 0
  · have e : decide (0 ≤ r ∧ r < 64) = false := decide_eq_false (by omega)
    have hge : decide (r ≥ 0) = false := decide_eq_false (by omega)
    rw [e]
    clear e
    go_enter Tryz.func56, Tryz.ntmps56
    go_wp2
    go_ret
    exact ⟨rfl, rfl⟩
  · have hge : decide (r ≥ 0) = true := decide_eq_true (by omega)
    by_cases h1 : r < 64
    · have e : decide (0 ≤ r ∧ r < 64) = true := decide_eq_true (by omega)
      rw [e]
      clear e
      go_enter Tryz.func56, Tryz.ntmps56
      go_wp2
      go_ret
      exact ⟨rfl, rfl⟩
    · have e : decide (0 ≤ r ∧ r < 64) = false := decide_eq_false (by omega)
      rw [e]
      clear e
      go_enter Tryz.func56, Tryz.ntmps56
      go_wp2
      go_ret
      exact ⟨rfl, rfl⟩

theorem stamp_any {w : World} {b : Nat} {x : SS} (h : Sec w b x) :
    Calls Tryz.prog 83 #[.pointer (some ⟨b, 0, none⟩)] w fun e w' => e = .returned (.int .i64 x.n) ∧ w = w' := by
  have c := h.c
  clear h
  go_enter Tryz.func83, Tryz.ntmps83
  go_wp2
  go_ret
  exact ⟨rfl, rfl⟩
theorem depth_any {w : World} {b : Nat} {x : SS} (h : Sec w b x) (r : Int) :
    Calls Tryz.prog 46 #[.pointer (some ⟨b, 0, none⟩), .int .i64 r] w fun e w' => e = .returned (.int .i64 (dOf x r)) ∧ w = w' := by
  have HI := Lib.hid (isr_any r w)
  by_cases hr : 0 ≤ r ∧ r < 64
  · obtain ⟨k, rfl⟩ : ∃ k : Nat, r = (k : Int) := ⟨r.toNat, by omega⟩
    have hk : k < 64 := by omega
    have hk' : (k : Int) < 64 := by omega
    have c := h.d k hk
    rw [show dOf x (k : Int) = x.d k by unfold dOf; rw [if_pos hr]; rfl]
    rw [decide_eq_true hr] at HI
    clear h hr
    go_enter Tryz.func46, Tryz.ntmps46
    go_wp2_with (with_reducible refine HI.out.mono ?_; rintro e w' ⟨rfl, rfl⟩)
    go_ret
    exact ⟨rfl, rfl⟩
  · rw [show dOf x r = 0 by unfold dOf; rw [if_neg hr]]
    rw [decide_eq_false hr] at HI
    clear h hr
    go_enter Tryz.func46, Tryz.ntmps46
    go_wp2_with (with_reducible refine HI.out.mono ?_; rintro e w' ⟨rfl, rfl⟩)
    go_ret
    exact ⟨rfl, rfl⟩
theorem since_any {w : World} {b : Nat} {x : SS} (h : Sec w b x) (r : Int) :
    Calls Tryz.prog 90 #[.pointer (some ⟨b, 0, none⟩), .int .i64 r] w fun e w' => e = .returned (.int .i64 (sOf x r)) ∧ w = w' := by
  have HI := Lib.hid (isr_any r w)
  by_cases hr : 0 ≤ r ∧ r < 64
  · obtain ⟨k, rfl⟩ : ∃ k : Nat, r = (k : Int) := ⟨r.toNat, by omega⟩
    have hk : k < 64 := by omega
    have hk' : (k : Int) < 64 := by omega
    have c := h.s k hk
    rw [show sOf x (k : Int) = x.s k by unfold sOf; rw [if_pos hr]; rfl]
    rw [decide_eq_true hr] at HI
    clear h hr
    go_enter Tryz.func90, Tryz.ntmps90
    go_wp2_with (with_reducible refine HI.out.mono ?_; rintro e w' ⟨rfl, rfl⟩)
    go_ret
    exact ⟨rfl, rfl⟩
  · rw [show sOf x r = 0 by unfold sOf; rw [if_neg hr]]
    rw [decide_eq_false hr] at HI
    clear h hr
    go_enter Tryz.func90, Tryz.ntmps90
    go_wp2_with (with_reducible refine HI.out.mono ?_; rintro e w' ⟨rfl, rfl⟩)
    go_ret
    exact ⟨rfl, rfl⟩

set_option maxHeartbeats 1000000 in
theorem one_any {w : World} {b : Nat} {x : SS} (h : Sec w b x) (hg : GS x) (hn : x.n ≤ 1000000) (r : Int) :
    Calls Tryz.prog 55 #[.pointer (some ⟨b, 0, none⟩), .int .i64 r] w fun e w' => e = .returned (.int .i64 (enterE x r)) ∧ Sec w' b (enterS x r) ∧ Ch [b] w w' := by
  have HI := Lib.hid (isr_any r w)
  by_cases hr : 0 ≤ r ∧ r < 64
  · obtain ⟨k, rfl⟩ : ∃ k : Nat, r = (k : Int) := ⟨r.toNat, by omega⟩
    have hk : k < 64 := by omega
    have hk' : (k : Int) < 64 := by omega
    have c := h.d k hk
    rw [decide_eq_true hr] at HI
    have d0 := hg.d0 k
    have n0 := hg.n0
    by_cases h8 : 8 ≤ x.d k
    · have hE : enterE x (k : Int) = 3 := by unfold enterE; rw [if_pos hr, Int.toNat_natCast, if_pos h8]
      have hS : enterS x (k : Int) = x := by unfold enterS; rw [if_neg (by rw [hE]; decide)]
      rw [hE, hS]
      have H := Lib.hid h
      have hge : decide (x.d k ≥ 8) = true := decide_eq_true h8
      clear h hr hE hS hg
      go_enter Tryz.func55, Tryz.ntmps55
      go_wp2_with (with_reducible refine HI.out.mono ?_; rintro e w' ⟨rfl, rfl⟩)
      go_ret
      exact ⟨rfl, H.out, Ch.refl _ _⟩
    · have hE : enterE x (k : Int) = 0 := by unfold enterE; rw [if_pos hr, Int.toNat_natCast, if_neg h8]
      have hS : enterS x (k : Int) = inS x k := by unfold enterS; rw [if_pos hE]; rfl
      rw [hE, hS]
      have hge : decide (x.d k ≥ 8) = false := decide_eq_false (by omega)
      by_cases h0 : x.d k = 0
      · have hI : inS x k = ⟨x.n + 1, putF x.d k 1, putF x.s k (x.n + 1)⟩ := by unfold inS; rw [if_pos h0, if_pos h0, h0]; rfl
        rw [hI]
        have c0 := h.c
        have f0 := h.fr 0
        have hws : IntKind.i64.wrap (x.n + 1) = x.n + 1 := IntWalk.i64_in _ (by omega)
        have H := Lib.hid h
        have HN := Lib.hid (show Ch [b] w (w.setCell ⟨b, 0, none⟩ (.int .i64 (x.n + 1))) from (Ch.refl _ _).setCell (by simp) _)
        have HS := Lib.hid (h.setN (x.n + 1))
        have hge0 : decide ((0 : Int) ≥ 8) = false := by decide
        rw [h0] at c hge
        clear h hr hE hS hg hI h8
        go_enter Tryz.func55, Tryz.ntmps55
        go_wp2_with (with_reducible refine HI.out.mono ?_; rintro e w' ⟨rfl, rfl⟩)
        generalize w.setCell ⟨b, 0, none⟩ (.int .i64 (x.n + 1)) = w1 at *
        clear c c0 f0 hge hge0 hws HI
        have c1 := HS.out.c
        have e1 := HS.out.s k hk
        have f1 := HS.out.fr (65 + k)
        go_region
        obtain ⟨w2, hw2⟩ : ∃ w2, w2 = (w1.setCell ⟨b, 65 + k, none⟩ (.int .i64 (x.n + 1))).drew := ⟨_, rfl⟩
        have HS2 := Lib.hid (show Sec w2 b ⟨x.n + 1, x.d, putF x.s k (x.n + 1)⟩ from by rw [hw2]; exact (HS.out.setS hk (x.n + 1)).drew)
        have HN2 := Lib.hid (show Ch [b] w w2 from by rw [hw2]; exact (HN.out.setCell (by simp) _).drew)
        rw [← hw2]
        clear hw2 c1 e1 f1
        have c2 := HS2.out.d k hk
        have f2 := HS2.out.fr (1 + k)
        dsimp only at c2
        rw [h0] at c2
        have hwd : IntKind.i64.wrap (0 + 1) = 1 := by decide
        go_wp2_with fail
        go_region
        have HS3 := Lib.hid (HS2.out.setD hk 1).drew
        have HN3 := Lib.hid (HN2.out.setCell (p := ⟨b, 1 + k, none⟩) (by simp) (.int .i64 1)).drew
        clear c2 f2
        go_wp2
        go_ret
        exact ⟨rfl, HS3.out, HN3.out⟩
      · have hI : inS x k = ⟨x.n, putF x.d k (x.d k + 1), x.s⟩ := by unfold inS; rw [if_neg h0, if_neg h0]
        rw [hI]
        have H := Lib.hid h
        have h0' : (x.d k == 0) = false := by simpa using h0
        have f2 := h.fr (1 + k)
        have hwd : IntKind.i64.wrap (x.d k + 1) = x.d k + 1 := IntWalk.i64_in _ (by omega)
        clear h hr hE hS hg hI h8 h0
        go_enter Tryz.func55, Tryz.ntmps55
        go_wp2_with (with_reducible refine HI.out.mono ?_; rintro e w' ⟨rfl, rfl⟩)
        go_region
        have HS3 := Lib.hid (H.out.setD hk (x.d k + 1)).drew
        have HN3 := Lib.hid ((Ch.refl [b] w).setCell (p := ⟨b, 1 + k, none⟩) (by simp) (.int .i64 (x.d k + 1))).drew
        clear c f2
        go_wp2
        go_ret
        exact ⟨rfl, HS3.out, HN3.out⟩
  · have hE : enterE x r = 2 := by unfold enterE; rw [if_neg hr]
    have hS : enterS x r = x := by unfold enterS; rw [if_neg (by rw [hE]; decide)]
    rw [hE, hS]
    rw [decide_eq_false hr] at HI
    have H := Lib.hid h
    clear h hr hE hS hg
    go_enter Tryz.func55, Tryz.ntmps55
    go_wp2_with (with_reducible refine HI.out.mono ?_; rintro e w' ⟨rfl, rfl⟩)
    go_ret
    exact ⟨rfl, H.out, Ch.refl _ _⟩
end Go.Proofs.YtjoaigadlpndcaaGreatDoor
namespace Go.Proofs.YtjoaigadlpndcaaGreatDoor
open Go.RowKit

set_option maxHeartbeats 1000000 in
theorem exit_any {w : World} {b : Nat} {x : SS} (h : Sec w b x) (hg : GS x) (r : Int) :
    Calls Tryz.prog 36 #[.pointer (some ⟨b, 0, none⟩), .int .i64 r] w fun e w' => e = .returned (.tuple #[.bool (exitB x r), .int .i64 (exitE x r)]) ∧ Sec w' b (exitS x r) ∧ Ch [b] w w' := by
  have HI := Lib.hid (isr_any r w)
  by_cases hr : 0 ≤ r ∧ r < 64
  · obtain ⟨k, rfl⟩ : ∃ k : Nat, r = (k : Int) := ⟨r.toNat, by omega⟩
    have hk : k < 64 := by omega
    have hk' : (k : Int) < 64 := by omega
    have c := h.d k hk
    rw [decide_eq_true hr] at HI
    have d0 := hg.d0 k
    have d8 := hg.d8 k
    by_cases h0 : x.d k = 0
    · have hE : exitE x (k : Int) = 6 := by unfold exitE; rw [if_pos hr, Int.toNat_natCast, if_pos h0]
      have hS : exitS x (k : Int) = x := by unfold exitS; rw [if_neg (by rw [hE]; decide)]
      have hB : exitB x (k : Int) = false := by unfold exitB; rw [hE]; rfl
      rw [hE, hS, hB]
      have H := Lib.hid h
      rw [h0] at c
      clear h hr hE hS hB hg
      go_enter Tryz.func36, Tryz.ntmps36
      go_wp2_with (with_reducible refine HI.out.mono ?_; rintro e w' ⟨rfl, rfl⟩)
      go_ret2
      exact ⟨rfl, H.out, Ch.refl _ _⟩
    · have hE : exitE x (k : Int) = 0 := by unfold exitE; rw [if_pos hr, Int.toNat_natCast, if_neg h0]
      have hS : exitS x (k : Int) = outS x k := by unfold exitS; rw [if_pos hE]; rfl
      by_cases h1 : x.d k = 1
      · have hB : exitB x (k : Int) = true := by unfold exitB; rw [hE, Int.toNat_natCast, h1]; rfl
        have hO : outS x k = ⟨x.n, putF x.d k 0, putF x.s k 0⟩ := by unfold outS; rw [if_pos h1, h1]; rfl
        rw [hE, hS, hB, hO]
        have f := h.fr (1 + k)
        have hwd : IntKind.i64.wrap (1 - 1) = 0 := by decide
        rw [h1] at c
        have H := Lib.hid h
        clear h hr hE hS hB hg hO h0
        go_enter Tryz.func36, Tryz.ntmps36
        go_wp2_with (with_reducible refine HI.out.mono ?_; rintro e w' ⟨rfl, rfl⟩)
        go_region
        obtain ⟨w2, hw2⟩ : ∃ w2, w2 = (w.setCell ⟨b, 1 + k, none⟩ (.int .i64 0)).drew := ⟨_, rfl⟩
        have HS := Lib.hid (show Sec w2 b ⟨x.n, putF x.d k 0, x.s⟩ from by rw [hw2]; exact (H.out.setD hk 0).drew)
        have HC := Lib.hid (show Ch [b] w w2 from by rw [hw2]; exact ((Ch.refl [b] w).setCell (by simp) _).drew)
        rw [← hw2]
        clear hw2 c f HI
        have c2 := HS.out.d k hk
        dsimp only at c2
        rw [putF_same] at c2
        have e2 := HS.out.s k hk
        have f2 := HS.out.fr (65 + k)
        have HS2 := Lib.hid (HS.out.setS hk 0)
        have HC2 := Lib.hid (HC.out.setCell (p := ⟨b, 65 + k, none⟩) (by simp) (.int .i64 0))
        go_wp2_with fail
        go_ret2
        exact ⟨rfl, HS2.out, HC2.out⟩
      · have hB : exitB x (k : Int) = false := by unfold exitB; rw [hE, Int.toNat_natCast, decide_eq_false h1]; rfl
        have hO : outS x k = ⟨x.n, putF x.d k (x.d k - 1), x.s⟩ := by unfold outS; rw [if_neg h1]
        rw [hE, hS, hB, hO]
        have f := h.fr (1 + k)
        have hwd : IntKind.i64.wrap (x.d k - 1) = x.d k - 1 := IntWalk.i64_in _ (by omega)
        have h0' : (x.d k == 0) = false := by simpa using h0
        have H := Lib.hid h
        clear h hr hE hS hB hg hO
        go_enter Tryz.func36, Tryz.ntmps36
        go_wp2_with (with_reducible refine HI.out.mono ?_; rintro e w' ⟨rfl, rfl⟩)
        go_region
        obtain ⟨w2, hw2⟩ : ∃ w2, w2 = (w.setCell ⟨b, 1 + k, none⟩ (.int .i64 (x.d k - 1))).drew := ⟨_, rfl⟩
        have HS := Lib.hid (show Sec w2 b ⟨x.n, putF x.d k (x.d k - 1), x.s⟩ from by rw [hw2]; exact (H.out.setD hk (x.d k - 1)).drew)
        have HC := Lib.hid (show Ch [b] w w2 from by rw [hw2]; exact ((Ch.refl [b] w).setCell (by simp) _).drew)
        rw [← hw2]
        clear hw2 c f HI
        have c2 := HS.out.d k hk
        dsimp only at c2
        rw [putF_same] at c2
        have hgt : 1 < x.d k := by omega
        clear hwd h0' h0 h1
        go_wp2_with fail
        go_ret2
        exact ⟨rfl, HS.out, HC.out⟩
  · have hE : exitE x r = 2 := by unfold exitE; rw [if_neg hr]
    have hS : exitS x r = x := by unfold exitS; rw [if_neg (by rw [hE]; decide)]
    have hB : exitB x r = false := by unfold exitB; rw [hE]; rfl
    rw [hE, hS, hB]
    rw [decide_eq_false hr] at HI
    have H := Lib.hid h
    clear h hr hE hS hB hg
    go_enter Tryz.func36, Tryz.ntmps36
    go_wp2_with (with_reducible refine HI.out.mono ?_; rintro e w' ⟨rfl, rfl⟩)
    go_ret2
    exact ⟨rfl, H.out, Ch.refl _ _⟩

theorem intsAt_ch {S : List Nat} {w w' : World} {a : Option Addr} {zs : List Int} (h : Mk.IntsAt w a zs) (hc : Ch S w w') (hn : zs = [] ∨ ∀ y, a = some y → y.block ∉ S) : Mk.IntsAt w' a zs := by
  rcases hn with h0 | hn
  · exact .inl h0
  rcases h with h | ⟨g, off, rfl, h⟩
  · exact .inl h
  · exact .inr ⟨g, off, rfl, fun i hi => (hc.cell (p := ⟨g, off + i, none⟩) (cell_lt (h i hi)) (hn ⟨g, off, none⟩ rfl)).trans (h i hi)⟩
theorem intsAt_one {w : World} {g : Nat} {z : Int} (hc : w.cell? ⟨g, 0, none⟩ = some (.int .i64 z)) : Mk.IntsAt w (some ⟨g, 0, none⟩) [z] :=
  .inr ⟨g, 0, rfl, fun i hi => by
    obtain rfl : i = 0 := by simpa using hi
    exact hc⟩

set_option maxHeartbeats 1000000 in
theorem enter_any {w : World} {b : Nat} {x : SS} (h : Sec w b x) (hg : GS x) {a : Option Addr} {cap : Nat} {zs : List Int} (hn : x.n + zs.length ≤ 1000000) (hz : Mk.IntsAt w a zs) (hb : zs = [] ∨ ∀ y, a = some y → y.block ≠ b) :
    Calls Tryz.prog 34 #[.pointer (some ⟨b, 0, none⟩), .slice a zs.length cap] w fun e w' => e = .returned (.int .i64 (enterL x zs).1) ∧ Sec w' b (enterL x zs).2 ∧ Ch [b] w w' := by
  have n0 := hg.n0
  obtain ⟨n, hl⟩ : ∃ n, n = zs.length := ⟨_, rfl⟩
  rw [← hl]
  have H := Lib.hid h
  have HG := Lib.hid hg
  have HN := Lib.hid hn
  have HZ := Lib.hid hz
  have HB := Lib.hid hb
  have HL := Lib.hid hl
  have hle : n ≤ 1000000 := by omega
  clear h hg hn hz hb hl
  go_enter Tryz.func34, Tryz.ntmps34
  go_wp2
  go_loopw [12] (fun i wr => ∃ (k : Nat) (y : SS), k ≤ n ∧ i = .int .i64 (k : Int) ∧ enterL x (zs.take k) = (0, y) ∧ Sec wr b y ∧ Ch [b] w wr) (fun i _ => n - (intOf i).toNat)
  case atStart => exact ⟨0, x, Nat.zero_le _, rfl, rfl, H.out, Ch.refl _ _⟩
  case round =>
    obtain ⟨k, y, hk, rfl, hy, hs, hc⟩ := hrel
    have HY := Lib.hid hy
    have HS := Lib.hid hs
    have HC := Lib.hid hc
    clear hy hs hc
    by_cases hlt : k < n
    · have hm := intsAt_ch HZ.out HC.out (HB.out.imp_right fun h y e => by simpa using h y e)
      rcases hm with h0 | ⟨g, off, rfl, hcc⟩
      · exfalso; rw [HL.out, h0] at hlt; simp at hlt
      · have hcc := hcc k (by rw [← HL.out]; exact hlt)
        obtain ⟨z, hz⟩ : ∃ z, z = zs[k]?.getD 0 := ⟨_, rfl⟩
        rw [← hz] at hcc
        have hgy := HG.out.enters (zs.take k)
        rw [HY.out] at hgy
        dsimp only at hgy
        have hnt : y.n ≤ 1000000 := by
          have h1 := hgy.2.2
          rw [List.length_take] at h1
          have := HN.out
          omega
        have HO := Lib.hid (one_any HS.out hgy.1 hnt z)
        have ht : zs.take (k + 1) = zs.take k ++ [z] := by
          rw [List.take_succ_eq_append_getElem (by rw [← HL.out]; exact hlt), hz, List.getElem?_eq_getElem (by rw [← HL.out]; exact hlt)]
          rfl
        have hst := enterL_snoc HY.out z
        rw [← ht] at hst
        have HT := Lib.hid hst
        clear hgy hnt hz ht hst
        obtain ⟨e, he⟩ : ∃ e, e = enterE y z := ⟨_, rfl⟩
        rw [← he] at HO HT
        have HE := Lib.hid he
        clear he
        by_cases h0 : e = 0
        · rw [h0] at HO HT
          clear HE h0
          go_wp2_with (with_reducible refine HO.out.mono ?_; rintro _ w' ⟨rfl, hs', hc'⟩; have HS' := Lib.hid hs'; have HC' := Lib.hid hc'; clear hs' hc')
          go_roundw
          case rel => exact ⟨k + 1, enterS y z, by omega, by go_num, HT.out, HS'.out, HC.out.trans HC'.out⟩
          case measure => simp [intOf]; omega
        · have h0' : (e != 0) = true := by simpa using h0
          have hfin : enterL x zs = (e, enterS y z) := by
            have := enterL_stop HT.out h0 (zs.drop (k + 1))
            rwa [List.take_append_drop] at this
          have HF := Lib.hid hfin
          have HH := Lib.hid h0
          clear h0 hfin HE
          go_wp2_with (with_reducible refine HO.out.mono ?_; rintro _ w' ⟨rfl, hs', hc'⟩; have HS' := Lib.hid hs'; have HC' := Lib.hid hc'; clear hs' hc')
          go_ret
          rw [HF.out]
          exact ⟨rfl, HS'.out, HC.out.trans HC'.out⟩
    · go_wp2
      go_ret
      have hfin := HY.out
      rw [List.take_of_length_le (by rw [← HL.out]; omega)] at hfin
      rw [hfin]
      exact ⟨rfl, HS.out, HC.out⟩
end Go.Proofs.YtjoaigadlpndcaaGreatDoor
namespace Go.Proofs.YtjoaigadlpndcaaGreatDoor
open Go.RowKit

/-- The contract of such a function. -/
def SeqS {α : Type} (F : Fence) (n : Nat) (P : Program) (g : Nat) (lb : Array Value) (encs : α → Array Value) (St Kp : World → World → Prop) (S Sp : List α → Prop) (w : World) : Prop :=
  ∀ (l : Nat) (J Jx : List α → World → Prop) (W : World), Below w.heap.size w W → (∀ s A B, J s A → St A B → J s B) →
    (∀ pre x W1, J pre W1 → Sp (pre ++ [x]) → YieldAt F (n - 1) P l (encs x) W1 fun e W' => (e = .returned (.bool true) ∧ J (pre ++ [x]) W' ∧ Kp W1 W') ∨ (e = .returned (.bool false) ∧ Jx (pre ++ [x]) W')) →
    J [] W → CallsIn F n P g (#[.func (.yield l) #[] #[]] ++ lb) W fun e W' => (∃ v, e = .returned v) ∧ ((∃ xs, S xs ∧ J xs W') ∨ (∃ pre, Sp pre ∧ Jx pre W'))

theorem wpIn_range_p {F : Fence} {n : Nat} {P : Program} {w : World} {α : Type} {g : Operand} {ps : Array Tmp} {assign body : Code} {Q : Exit → Act → World → Prop} {a : Act}
    (hro : F.round = none) (h1 : 1 ≤ n) {gf : Nat} {lb : Array Value} (hg : a.eval g = .func (.func gf) #[] lb) (hFg : F.fn gf) (eg : ∀ args w, (callFunc gf args).run P w = .ok (.enter gf args) w)
    {encs : α → Array Value} {St Kp : World → World → Prop} {S Sp : List α → Prop} (hseq : SeqS F (n - 1) P gf lb encs St Kp S Sp w)
    (hSt : ∀ A B, St A B → ∀ (k : Nat) (o : Obj), A.heap[k]? = some o → o.isCells = false → o.isWalk = false → B.heap[k]? = some o)
    (hKt : ∀ {A B C : World}, Kp A B → Kp B C → Kp A C) (hKb : ∀ (W : World) (l : Nat) (o o' : Obj), w.heap.size ≤ l → W.heap[l]? = some o → o.isCells = false → o.isWalk = false → o'.isCells = false → Kp W (W.putObj l o')) (hps : ∀ x, (encs x).size = ps.size)
    (I : List α → World → Prop) (Ix : Code → List α → World → Prop) (hI : OwnFrom w.heap.size I) (hIs : ∀ s A B, I s A → St A B → I s B) (hIx : ∀ c, OwnFrom w.heap.size (Ix c)) (h0 : I [] w) (a₁ : α → Act)
    (hassign : ∀ (l : Nat) (x : α) (W : World) (K : Act → World → Prop), K (a₁ x) W → assign.wpIn (F.inRound l) (n - 1 - 1) P (Exit.then K (fun _ _ _ => False)) { tmps := (ps.zip (encs x)).foldl (fun t (p, v) => t.setIfInBounds p v) a.tmps, defers := [] } W)
    (hbody : ∀ (l : Nat) (pre : List α) (x : α) (W : World), I pre W → Sp (pre ++ [x]) → body.wpIn (F.inRound l) (n - 1 - 1) P (ownPostG w.heap.size Kp I Ix (pre ++ [x]) W) (a₁ x) W)
    (hdone : ∀ (D : Nat) (xs : List α) (W : World), w.heap.size ≤ D → S xs → I xs W → W.heap[D]? = some (.deferred (some [])) → Q .normal { a with defers := { target := .collected D, args := #[] } :: a.defers } W)
    (hstop : ∀ (D : Nat) (c : Code) (pre : List α) (W : World), w.heap.size ≤ D → Sp pre → Ix c pre W → W.heap[D]? = some (.deferred (some [])) → c.wpIn F n P Q { a with defers := { target := .collected D, args := #[] } :: a.defers } W) :
    (Code.rangeFunc g ps assign body).wpIn F n P Q a w := by
  refine wpIn_rangeFunc fun fn hfn => ?_
  rw [hro]
  obtain ⟨rec, hrec⟩ : ∃ rec : LoopState → Option Code → Loop, rec = fun st pe => { state := st, pending := pe, fn, tmps := a.tmps, params := ps, assign, body, defers := w.heap.size } := ⟨_, rfl⟩
  obtain ⟨d, hd⟩ : ∃ d, d = w.heap.size := ⟨_, rfl⟩
  obtain ⟨W1, hW1⟩ : ∃ W1, W1 = (w.alloc (.deferred (some []))).alloc (.loop (rec .ready none)) := ⟨_, rfl⟩
  have hL1 : W1.heap[d + 1]? = some (.loop (rec .ready none)) := by
    have := World.alloc_heap_new (w.alloc (.deferred (some []))) (.loop (rec .ready none))
    rwa [World.size_alloc, ← hd, ← hW1] at this
  have hK1 : W1.heap[d]? = some (.deferred (some [])) := by
    rw [hW1, hd]
    exact (Below.heap_alloc _ _ _ (by simp)).trans (World.alloc_heap_new w _)
  have hI1 : I [] W1 := by rw [hW1]; exact hI.alloc _ (hI.alloc _ h0)
  have hb1 : Below w.heap.size w W1 := by rw [hW1]; exact ((Below.refl _ w).alloc (Nat.le_refl _) _).alloc (by simp) _
  refine ⟨d + 1, [{ target := .collected d, args := #[] }], W1, { target := .fn (.func gf) lb, args := #[.func (.yield (d + 1)) #[] #[]] }, W1, gf, #[.func (.yield (d + 1)) #[] #[]] ++ lb, W1, ?_, ?_, ?_, ?_, fun _ => h1, ?_⟩
  · rw [hW1, hrec, hd]
    exact run_enterLoop_outer _ _ _ _ _
  · simp only [resolve, hg]
    simp [go_sem]
  · intro f' hf'
    simp [Target.leads] at hf'
    subst hf'
    exact hFg
  · simp [invoke, go_sem, eg]
  · refine (hseq (d + 1) (fun pre W => I pre W ∧ W.heap[d + 1]? = some (.loop (rec .ready none)) ∧ W.heap[d]? = some (.deferred (some []))) (fun pre W => ∃ c, Ix c pre W ∧ W.heap[d + 1]? = some (.loop (rec .done (some c))) ∧ W.heap[d]? = some (.deferred (some []))) W1 hb1
      (fun s A B hs hAB => ⟨hIs s A B hs.1 hAB, hSt A B hAB _ _ hs.2.1 rfl rfl, hSt A B hAB _ _ hs.2.2 rfl rfl⟩) ?_ ⟨hI1, hL1, hK1⟩).mono ?_
    · rintro pre x W ⟨hi, hl, hk⟩ hlen
      have hlt : d + 1 < W.heap.size := (Array.getElem?_eq_some_iff.1 hl).1
      have hy := run_yield (P := P) (args := encs x) hl (by rw [hrec]; exact hps x)
      rw [hrec] at hy
      refine ⟨fn, _, assign, body, hy, roundIn_of_wpIn hfn (hassign _ x W _ ?_)⟩
      refine ⟨_, run_beginRound hl (by rw [hrec]), ?_⟩
      obtain ⟨Wb, hWb⟩ : ∃ Wb, Wb = W.putObj (d + 1) (.loop { rec .ready none with state := .busy }) := ⟨_, rfl⟩
      have hl2 : Wb.heap[d + 1]? = some (.loop { rec .ready none with state := .busy }) := by rw [hWb]; exact World.putObj_heap_same hlt
      have hk2 : Wb.heap[d]? = some (.deferred (some [])) := by rw [hWb]; exact (World.putObj_heap_other (by omega)).trans hk
      have hi2 : I pre Wb := by rw [hWb]; exact hI.putObj _ hi (by omega) hl rfl
      have hw2 : Kp W Wb := by rw [hWb]; exact hKb _ _ _ _ (by omega) hl rfl rfl rfl
      rw [← hWb]
      refine wpIn_mono (hbody _ pre x Wb hi2 hlen) ?_
      have fin : ∀ (jump : Option Code) (W3 : World), KeepsFrom w.heap.size Wb W3 → ∃ W4, W4 = W3.putObj (d + 1) (.loop (rec (if jump.isNone then .ready else .done) jump)) ∧
          (Instr.endRound (d + 1) jump).run P W3 = .ok (.bool jump.isNone) W4 ∧ W3.heap[d + 1]? = some (.loop { rec .ready none with state := .busy }) ∧
          W4.heap[d + 1]? = some (.loop (rec (if jump.isNone then .ready else .done) jump)) ∧ W4.heap[d]? = some (.deferred (some [])) := fun jump W3 hk3 => by
        have hl3 := hk3.same _ _ (by omega) hl2 rfl
        refine ⟨_, rfl, ?_, hl3, World.putObj_heap_same (Array.getElem?_eq_some_iff.1 hl3).1, (World.putObj_heap_other (by omega)).trans (hk3.same _ _ (by omega) hk2 rfl)⟩
        have := run_endRound (P := P) jump hl3
        rw [hrec] at this ⊢
        exact this
      rintro e a3 W3 hp
      cases e with
      | normal =>
        obtain ⟨hk3, hkp3, hi3⟩ := hp
        obtain ⟨W4, e4, hr, hl3, hl4, hk4⟩ := fin none W3 hk3
        refine ⟨_, _, hr, .inl ⟨rfl, ⟨?_, hl4, hk4⟩, hKt hw2 (hKt hkp3 ?_)⟩⟩
        · rw [e4]; exact hI.putObj _ hi3 (by omega) hl3 rfl
        · rw [e4]; exact hKb _ _ _ _ (by omega) hl3 rfl rfl rfl
      | ret =>
        obtain ⟨hk3, hi3⟩ := hp
        obtain ⟨W4, e4, hr, hl3, hl4, hk4⟩ := fin (some .ret) W3 hk3
        exact ⟨_, _, hr, .inr ⟨rfl, .ret, by rw [e4]; exact (hIx _).putObj _ hi3 (by omega) hl3 rfl, hl4, hk4⟩⟩
      | exit id =>
        obtain ⟨hk3, hi3⟩ := hp
        obtain ⟨W4, e4, hr, hl3, hl4, hk4⟩ := fin (some (.exit id)) W3 hk3
        exact ⟨_, _, hr, .inr ⟨rfl, .exit id, by rw [e4]; exact (hIx _).putObj _ hi3 (by omega) hl3 rfl, hl4, hk4⟩⟩
      | goto t =>
        obtain ⟨hk3, hi3⟩ := hp
        obtain ⟨W4, e4, hr, hl3, hl4, hk4⟩ := fin (some (.goto t)) W3 hk3
        exact ⟨_, _, hr, .inr ⟨rfl, .goto t, by rw [e4]; exact (hIx _).putObj _ hi3 (by omega) hl3 rfl, hl4, hk4⟩⟩
      | panic ch => exact hp.elim
      | outgrown => exact hp.elim
    · rintro e W2 ⟨⟨v, rfl⟩, (⟨xs, hS, hi, hl, hk⟩ | ⟨pre, hSp, c, hi, hl, hk⟩)⟩
      · refine ⟨none, _, by have := run_endLoop (P := P) hl (by rw [hrec]; simp); rw [hrec] at this; exact this, ?_⟩
        have := hdone d xs (W2.putObj (d + 1) (.loop { rec .ready none with state := .exhausted })) (by omega) hS (hI.putObj _ hi (by omega) hl rfl) ((World.putObj_heap_other (by omega)).trans hk)
        rw [hrec] at this
        exact this
      · refine ⟨some c, _, by have := run_endLoop (P := P) hl (by rw [hrec]; simp); rw [hrec] at this; exact this, ?_⟩
        have := hstop d c pre (W2.putObj (d + 1) (.loop { rec .done (some c) with state := .exhausted })) (by omega) hSp ((hIx c).putObj _ hi (by omega) hl rfl) ((World.putObj_heap_other (by omega)).trans hk)
        rw [hrec] at this
        exact this
end Go.Proofs.YtjoaigadlpndcaaGreatDoor
namespace Go.Proofs.YtjoaigadlpndcaaGreatDoor
open Go.RowKit Go.Shelf

attribute [local go_sem] Oper.semAt_some

theorem in1_any {w : World} {b B : Nat} {x : SS} (h : Sec w b x) (hB : w.cell? ⟨B, 0, none⟩ = some (.pointer (some ⟨b, 0, none⟩))) {i : Nat} (hi : i < 64) :
    Calls Tryz.prog 64 #[.int .i64 (i : Int), .pointer (some ⟨B, 0, none⟩)] w fun e w' => e = .returned (.bool (inP x i)) ∧ Ch [] w w' := by
  have c := h.d i hi
  have hi' : (i : Int) < 64 := by omega
  unfold inP
  clear h
  go_enter Tryz.func64, Tryz.ntmps64
  go_wp2
  go_ret
  exact ⟨rfl, Ch.refl _ _⟩
/-- The readers that are such. -/
def selC (n : Nat) (q : Nat → Bool) : List Nat := (List.range n).filter q
theorem selC_yes {n : Nat} {q : Nat → Bool} (h : q n = true) : selC (n + 1) q = selC n q ++ [n] := by simp [selC, List.range_succ, h]
theorem selC_no {n : Nat} {q : Nat → Bool} (h : q n = false) : selC (n + 1) q = selC n q := by simp [selC, List.range_succ, h]
theorem selC_prefix (q : Nat → Bool) {k n : Nat} (h : k ≤ n) : selC k q <+: selC n q := by
  obtain ⟨d, rfl⟩ : ∃ d, n = k + d := ⟨n - k, by omega⟩
  rw [selC, selC, List.range_add, List.filter_append]
  exact ⟨_, rfl⟩
abbrev SuchC (q : Nat → Bool) := { k : Nat // k < 64 ∧ q k = true }
abbrev valsC {q : Nat → Bool} (l : List (SuchC q)) : List Nat := l.map (·.1)

/-- What the iterator needs of a world: its two boxes, and that the function tells which are such. -/
structure GoodB (Good : World → Prop) (p : Option Addr) (B1 B2 F : Nat) (lb : Array Value) (q : Nat → Bool) : Prop where
  enter : ∀ args w, (callFunc F args).run Tryz.prog w = .ok (.enter F args) w
  b1 : ∀ W, Good W → W.cell? ⟨B1, 0, none⟩ = some (.pointer p)
  b2 : ∀ W, Good W → W.cell? ⟨B2, 0, none⟩ = some (.func (.func F) #[] lb)
  nil : p = none → selC 64 q = []
  asks : ∀ a, p = some a → ∀ W, Good W → ∀ i, i < 64 → Calls Tryz.prog F (#[.int .i64 ((i : Nat) : Int)] ++ lb) W fun e w' => e = .returned (.bool (q i)) ∧ Ch [] W w'
  quiet : ∀ W W', Good W → Ch [] W W' → Good W'

set_option maxRecDepth 100000 in
set_option maxHeartbeats 2000000 in
theorem those1_in (m : Nat) {Good : World → Prop} {p : Option Addr} {B1 B2 F : Nat} {lb : Array Value} {q : Nat → Bool} (hG : GoodB Good p B1 B2 F lb q)
    (l : Nat) (J Jx : List (SuchC q) → World → Prop) (hJ : ∀ pre W W', J pre W → Ch [] W W' → J pre W')
    (hY : ∀ pre (x : SuchC q) W, J pre W → valsC (pre ++ [x]) <+: selC 64 q → YieldAt Fence.wide (m - 1) Tryz.prog l #[.int .i64 ((x.1 : Nat) : Int)] W fun e W' =>
      (e = .returned (.bool true) ∧ J (pre ++ [x]) W' ∧ (Good W → Good W')) ∨ (e = .returned (.bool false) ∧ Jx (pre ++ [x]) W'))
    (W : World) (hW : Good W) (h0 : J [] W) :
    CallsIn Fence.wide m Tryz.prog 86 #[.func (.yield l) #[] #[], .pointer (some ⟨B1, 0, none⟩), .pointer (some ⟨B2, 0, none⟩)] W fun e W' => (∃ v, e = .returned v) ∧
      ((∃ ys, valsC ys = selC 64 q ∧ J ys W') ∨ (∃ pre, valsC pre <+: selC 64 q ∧ Jx pre W')) := by
  have HY := Lib.hid hY
  have HJ := Lib.hid hJ
  have HG := Lib.hid hG
  have hFe := hG.enter
  have c1 := hG.b1 W hW
  have HGW := Lib.hid hW
  have HJ0 := Lib.hid h0
  clear hY hJ hG hW h0
  have hw : ∀ f, Fence.wide.fn f := fun _ => trivial
  have hd : Fence.wide.depth = none := rfl
  refine callsIn_of_wp Tryz.func86 rfl trivial ?_ rfl
  simp only [Tryz.ntmps86, List.size_toArray, List.length_cons, List.length_nil, Nat.reduceAdd, Nat.reduceSub, Array.replicate_succ, Array.replicate_zero, List.push_toArray, List.append_toArray, List.nil_append, List.cons_append]
  cases hp : p with
  | none =>
    rw [hp] at c1
    have HN := Lib.hid (HG.out.nil hp)
    clear hp
    gi_wp2
    refine bodyPost_ret (results_none rfl _ _ _) rfl ?_
    exact ⟨⟨_, rfl⟩, .inl ⟨[], HN.out.symm, HJ0.out⟩⟩
  | some pa =>
    rw [hp] at c1
    have HAs := Lib.hid (HG.out.asks pa hp)
    clear hp
    gi_wp2
    gi_loopw [7] (fun r wr => ∃ (k : Nat) (ys : List (SuchC q)), k ≤ 64 ∧ r = .int .i64 (k : Int) ∧ valsC ys = selC k q ∧ J ys wr ∧ Good wr)
      (fun r _ => 64 - (intOf r).toNat)
    case atStart =>
      exact ⟨0, [], Nat.zero_le _, rfl, rfl, HJ0.out, HGW.out⟩
    case round =>
      obtain ⟨k, ys, hk, rfl, hys, hJk, hGk⟩ := hrel
      have HJk := Lib.hid hJk
      have HGk := Lib.hid hGk
      have HYs := Lib.hid hys
      clear hJk hGk hys c1
      by_cases hlt : k < 64
      · have hlt' : (k : Int) < 64 := by omega
        have d2 := HG.out.b2 wr HGk.out
        have HLt := Lib.hid hlt
        have HA := Lib.hid (HAs.out wr HGk.out k hlt)
        cases hq : q k with
        | false =>
          have HT := Lib.hid (selC_no hq)
          rw [hq] at HA
          gi_wp2_with (with_reducible refine (callsIn_wide.2 HA.out).mono ?_; rintro e w' ⟨rfl, hc'⟩)
          go_roundw
          case rel => exact ⟨k + 1, ys, by omega, by go_num, by rw [HT.out]; exact HYs.out, HJ.out _ _ _ HJk.out hc', HG.out.quiet _ _ HGk.out hc'⟩
          case measure => simp [intOf]; omega
        | true =>
          have HT := Lib.hid (selC_yes hq)
          rw [hq] at HA
          gi_wp2_with fail
          refine (callsIn_wide.2 HA.out).mono ?_
          rintro e w' ⟨rfl, hc'⟩
          have HPx := Lib.hid (show valsC (ys ++ [⟨k, hlt, hq⟩]) <+: selC 64 q from by
            have := selC_prefix q (k := k + 1) (n := 64) (by omega)
            rw [HT.out, ← HYs.out] at this
            simpa [valsC] using this)
          have HYx := Lib.hid (HY.out ys ⟨k, hlt, hq⟩ w' (HJ.out _ _ _ HJk.out hc') HPx.out)
          have HGw := Lib.hid (HG.out.quiet _ _ HGk.out hc')
          clear hc'
          obtain ⟨fn, tmps, assign, body, hy, hR⟩ := HYx.out
          gi_wp2_with fail
          refine hR.mono ?_
          rintro e W3 (⟨rfl, hJ3, hk3⟩ | ⟨rfl, hJx3⟩)
          · have HK := Lib.hid (hk3 HGw.out)
            clear hk3
            gi_wp2
            go_roundw
            case rel =>
              exact ⟨k + 1, ys ++ [⟨k, hlt, hq⟩], by omega, by go_num, by rw [HT.out, ← HYs.out]; simp [valsC], hJ3, HK.out⟩
            case measure => simp [intOf]; omega
          · gi_wp2
            refine bodyPost_ret (results_none rfl _ _ _) rfl ?_
            exact ⟨⟨_, rfl⟩, .inr ⟨ys ++ [⟨k, hlt, hq⟩], HPx.out, hJx3⟩⟩
      · gi_wp2
        go_end0
        obtain rfl : k = 64 := by omega
        exact ⟨⟨_, rfl⟩, .inl ⟨ys, HYs.out, HJk.out⟩⟩

theorem those_stops (m : Nat) {Good : World → Prop} {p : Option Addr} {B1 B2 F : Nat} {lb : Array Value} {q : Nat → Bool} (hG : GoodB Good p B1 B2 F lb q) (w : World) (hGw : ∀ W, Below w.heap.size w W → Good W) :
    SeqS Fence.wide m Tryz.prog 86 #[.pointer (some ⟨B1, 0, none⟩), .pointer (some ⟨B2, 0, none⟩)] (fun x : SuchC q => #[.int .i64 ((x.1 : Nat) : Int)]) (Ch []) (fun A B => Good A → Good B)
      (fun ys => valsC ys = selC 64 q) (fun pre => valsC pre <+: selC 64 q) w := fun l J Jx W hW hJ hY h0 =>
  those1_in m hG l J Jx hJ hY W (hGw W hW) h0
theorem those_in (n : Nat) (p : Option Addr) (F : Nat) (lb : Array Value) (w : World) :
    CallsIn Fence.wide n Tryz.prog 74 #[.pointer p, .func (.func F) #[] lb] w fun e w' => e = .returned (.func (.func 86) #[] #[.pointer (some ⟨w.heap.size, 0, none⟩), .pointer (some ⟨w.heap.size + 1, 0, none⟩)]) ∧
      w' = (w.alloc (.cells #[.pointer p] 68)).alloc (.cells #[.func (.func F) #[] lb] 63) := by
  refine callsIn_of_wp Tryz.func74 rfl trivial ?_ rfl
  simp only [Tryz.ntmps74, List.size_toArray, List.length_cons, List.length_nil, Nat.reduceAdd, Nat.reduceSub, Array.replicate_succ, Array.replicate_zero, List.push_toArray, List.append_toArray, List.nil_append, List.cons_append]
  gi_wp2
  go_ret
  exact ⟨rfl, rfl⟩
end Go.Proofs.YtjoaigadlpndcaaGreatDoor
namespace Go.Proofs.YtjoaigadlpndcaaGreatDoor
open Go.RowKit Go.Shelf

attribute [local go_sem] Oper.semAt_some

/-- Of what there was nothing has turned; the iterator's two boxes are as they were. -/
structure GQ (w : World) (B1 B2 : Nat) (v1 v2 : Value) (W : World) : Prop where
  ch : Ch [] w W
  c1 : W.cell? ⟨B1, 0, none⟩ = some v1
  c2 : W.cell? ⟨B2, 0, none⟩ = some v2
theorem ch_row {w W W' : World} {row : Option Nat} (h : Ch [] w W) (hg : W.grownBy W' row) (hr : ∀ r, row = some r → w.heap.size ≤ r) : Ch [] w W' := h.kept hg hr
section
variable {w W W' : World} {B1 B2 : Nat} {v1 v2 : Value}
theorem GQ.quiet (h : GQ w B1 B2 v1 v2 W) (hc : Ch [] W W') : GQ w B1 B2 v1 v2 W' :=
  ⟨h.ch.trans hc, (hc.cell (p := ⟨B1, 0, none⟩) (cell_lt h.c1) (by simp)).trans h.c1, (hc.cell (p := ⟨B2, 0, none⟩) (cell_lt h.c2) (by simp)).trans h.c2⟩
theorem GQ.set (h : GQ w B1 B2 v1 v2 W) {X : Nat} (hX : w.heap.size ≤ X) (h1 : B1 ≠ X) (h2 : B2 ≠ X) (u : Value) : GQ w B1 B2 v1 v2 (W.setCell ⟨X, 0, none⟩ u) :=
  ⟨chSetNew h.ch hX u, setCell_other h.c1 (addr_ne_block (Ne.symm h1)), setCell_other h.c2 (addr_ne_block (Ne.symm h2))⟩
theorem ownFrom_gq {β : Type} {B : Nat} (hB : w.heap.size ≤ B) : OwnFrom B (fun (_ : β) W => GQ w B1 B2 v1 v2 W) := fun _ _ _ _ hs hg hr =>
  ⟨hs.ch.kept hg (fun r e => Nat.le_trans hB (hr r e).1), cell_kept hs.c1 hg (fun r e => (hr r e).2), cell_kept hs.c2 hg (fun r e => (hr r e).2)⟩
theorem gq_b (l : Nat) (o o' : Obj) (hl : w.heap.size ≤ l) (h : W.heap[l]? = some o) (hc : o.isCells = false) (hq : GQ w B1 B2 v1 v2 W) : GQ w B1 B2 v1 v2 (W.putObj l o') :=
  ownFrom_gq (β := Unit) (B := w.heap.size) (Nat.le_refl _) () W _ (some l) hq (grownBy_putObj' W l o') (fun r e => by cases e; exact ⟨hl, o, h, hc⟩)
end
theorem Ch.grownS {w w' : World} (h : Ch [] w w') : w.grownBy w' none := ⟨h.os, h.tape, h.output, h.size, fun k hk _ => h.block k hk (by simp)⟩
theorem keeps_step {W W1 : World} {B X : Nat} (hc : Ch [] W W1) (hX : X < B) (u : Value) : KeepsFrom B W (W1.setCell ⟨X, 0, none⟩ u) :=
  ⟨by have := hc.size; simpa [World.setCell] using this, fun k o hB hk _ => by
    have hk2 : k < W.heap.size := (Array.getElem?_eq_some_iff.1 hk).1
    rw [Below.heap_setCell W1 ⟨X, 0, none⟩ u k (by simp only; omega), hc.block k hk2 (by simp), hk]⟩
theorem with_snoc (l : List Nat) (i : Nat) : Mk.withN (Mk.withN 0 (l.map fun (i : Nat) => (i : Int))) [(i : Int)] = Mk.withN 0 ((l ++ [i]).map fun (i : Nat) => (i : Int)) := by
  simp [Mk.withN, List.foldl_append]
theorem with_one {M : Nat} (hM : M < 18446744073709551616) (i : Nat) (W : World) (t : TypeId) :
    Calls Tryz.prog 75 #[.int .u64 (M : Int), .slice (some ⟨W.heap.size, 0, none⟩) 1 1] (W.alloc (.cells #[.int .i64 ((i : Nat) : Int)] t)) fun e w' => e = .returned (.int .u64 ((Mk.withN M [(i : Int)] : Nat) : Int)) ∧ (W.alloc (.cells #[.int .i64 ((i : Nat) : Int)] t)) = w' :=
  Mk.with_any M hM (some ⟨W.heap.size, 0, none⟩) 1 [(i : Int)] _ (by simp) (.inr ⟨W.heap.size, 0, rfl, fun j hj => by
    obtain rfl : j = 0 := by simpa using hj
    rw [World.cell?_alloc_at _ _ _ _ rfl]
    rfl⟩)

set_option maxRecDepth 100000 in
set_option maxHeartbeats 2000000 in
theorem maskOf_in (m : Nat) {w : World} {p : Option Addr} {F : Nat} {lb : Array Value} {q : Nat → Bool} (hFe : ∀ args w, (callFunc F args).run Tryz.prog w = .ok (.enter F args) w) (hn : p = none → selC 64 q = [])
    (hA : ∀ a, p = some a → ∀ W, Ch [] w W → ∀ i, i < 64 → Calls Tryz.prog F (#[.int .i64 ((i : Nat) : Int)] ++ lb) W fun e w' => e = .returned (.bool (q i)) ∧ Ch [] W w') :
    CallsIn Fence.wide (m + 6) Tryz.prog 63 #[.pointer p, .func (.func F) #[] lb] w fun e W' =>
      e = .returned (.int .u64 ((mskN q : Nat) : Int)) ∧ Ch [] w W' := by
  obtain ⟨ML, hML⟩ : ∃ ML, ML = mskN q := ⟨_, rfl⟩
  rw [← hML]
  have HML := Lib.hid (show ML = Mk.withN 0 ((selC 64 q).map fun (i : Nat) => (i : Int)) from hML)
  have HF := Lib.hid hFe
  have HN := Lib.hid hn
  have HA := Lib.hid hA
  clear hFe hn hA hML
  have hw : ∀ f, Fence.wide.fn f := fun _ => trivial
  have hd : Fence.wide.depth = none := rfl
  have h1 : 1 ≤ m + 6 := by omega
  refine callsIn_of_wp_marks Tryz.func63 rfl trivial ?_ rfl
  simp only [Tryz.ntmps63, List.size_toArray, List.length_cons, List.length_nil, Nat.reduceAdd, Nat.reduceSub, Array.replicate_succ, Array.replicate_zero, List.push_toArray, List.append_toArray, List.nil_append, List.cons_append]
  gi_wp2_with (gi_at_call 74; refine (those_in _ _ _ _ _).mono ?_; rintro e w' ⟨rfl, rfl⟩)
  obtain ⟨W1, hW1⟩ : ∃ W1, W1 = w.alloc (.cells #[.int .u64 0] 58) := ⟨_, rfl⟩
  obtain ⟨W2, hW2⟩ : ∃ W2, W2 = W1.alloc (.cells #[.pointer p] 68) := ⟨_, rfl⟩
  obtain ⟨W0, hW0⟩ : ∃ W0, W0 = W2.alloc (.cells #[.func (.func F) #[] lb] 63) := ⟨_, rfl⟩
  have s1 : W1.heap.size = w.heap.size + 1 := by rw [hW1]; simp
  have s2 : W2.heap.size = w.heap.size + 1 + 1 := by rw [hW2]; simp [s1]
  have hsz : W0.heap.size = w.heap.size + 1 + 1 + 1 := by rw [hW0]; simp [s2]
  have bm : Boxed W0 w.heap.size 58 (.int .u64 0) := by
    rw [hW0, hW2, hW1]; exact ((Boxed.new w _ _).alloc _).alloc _
  have b1 : Boxed W0 (w.heap.size + 1) 68 (.pointer p) := by
    rw [hW0, hW2, ← s1]; exact (Boxed.new W1 _ _).alloc _
  have b2 : Boxed W0 (w.heap.size + 1 + 1) 63 (.func (.func F) #[] lb) := by
    rw [hW0, ← s2]; exact Boxed.new W2 _ _
  have hc0 : Ch [] w W0 := by rw [hW0, hW2, hW1]; exact (((Ch.refl [] w).alloc _).alloc _).alloc _
  rw [← hW1, ← hW2, ← hW0]
  clear hW0 hW1 hW2 s1 s2
  have hq0 : GQ w (w.heap.size + 1) (w.heap.size + 1 + 1) (.pointer p) (.func (.func F) #[] lb) W0 := ⟨hc0, b1.cell, b2.cell⟩
  clear hc0 b1 b2
  refine wpIn_range_p rfl h1 (gf := 86) (lb := #[.pointer (some ⟨w.heap.size + 1, 0, none⟩), .pointer (some ⟨w.heap.size + 1 + 1, 0, none⟩)]) rfl trivial (enters_of Tryz.func86 (by kernel_rfl) rfl)
    (those_stops (m + 6 - 1) (Good := GQ w (w.heap.size + 1) (w.heap.size + 1 + 1) (.pointer p) (.func (.func F) #[] lb)) (p := p) (F := F) (lb := lb) (q := q)
      ⟨HF.out, fun W g => g.c1, fun W g => g.c2, HN.out, fun a ha W g i hi => HA.out a ha W g.ch i hi, fun W W' g hc => g.quiet hc⟩ W0 (fun W hB => hq0.quiet (.of_below hB)))
    (fun A B hAB k o hk _ _ => (hAB.block k (Array.getElem?_eq_some_iff.1 hk).1 (by simp)).trans hk)
    (fun h k g => k (h g)) (fun W l o o' hl ho hc _ _ g => gq_b l o o' (by omega) ho hc g) (fun _ => rfl)
    (fun pre W => GQ w (w.heap.size + 1) (w.heap.size + 1 + 1) (.pointer p) (.func (.func F) #[] lb) W ∧ Boxed W w.heap.size 58 (.int .u64 ((Mk.withN 0 ((valsC pre).map fun (i : Nat) => (i : Int)) : Nat) : Int)))
    (fun _ _ _ => False)
    (OwnFrom.and (ownFrom_gq (by omega)) (Own.from (boxed_own w.heap.size 58 (fun pre : List (SuchC q) => .int .u64 ((Mk.withN 0 ((valsC pre).map fun (i : Nat) => (i : Int)) : Nat) : Int))) _))
    (fun s A B hs hc => ⟨hs.1.quiet hc, hs.2.kept hc.grownS (by simp)⟩)
    (fun _ _ _ _ _ hs _ _ => hs)
    ⟨hq0, bm⟩
    (fun x => { tmps := #[.pointer p, .func (.func F) #[] lb, undef, undef, .int .u64 0, .pointer (some ⟨w.heap.size, 0, none⟩), .int .i64 ((x.1 : Nat) : Int), .pointer p, .func (.func F) #[] lb, .func (.func 86) #[] #[.pointer (some ⟨w.heap.size + 1, 0, none⟩), .pointer (some ⟨w.heap.size + 1 + 1, 0, none⟩)], .int .i64 ((x.1 : Nat) : Int), undef, undef, undef, undef, undef], defers := [] }) ?assign ?body ?done ?stop
  case assign =>
    intro l x W K hK
    gi_wp2
    exact hK
  case body =>
    rintro l pre x W ⟨hq, hb⟩ _
    obtain ⟨i, hi⟩ : ∃ i, i = x.1 := ⟨_, rfl⟩
    obtain ⟨M, hM⟩ : ∃ M, M = Mk.withN 0 ((valsC pre).map fun (i : Nat) => (i : Int)) := ⟨_, rfl⟩
    have hM2 : M < 18446744073709551616 := by rw [hM]; exact Mk.withN_lt 0 _ (by decide)
    rw [← hM] at hb
    rw [← hi]
    have HC := Lib.hid (with_one hM2 i W 3)
    have hc := (hb.alloc (.cells #[.int .i64 ((i : Nat) : Int)] 3)).cell
    have hf := (hb.alloc (.cells #[.int .i64 ((i : Nat) : Int)] 3)).frozen
    have hc0 := hb.cell
    have HQ := Lib.hid hq
    have HB := Lib.hid (hb.alloc (.cells #[.int .i64 ((i : Nat) : Int)] 3))
    have HI := Lib.hid hi
    have HM := Lib.hid hM
    have HS := Lib.hid hsz
    clear hq hb hi hM hM2 hq0 bm
    gi_wp2_with (gi_at_call 75; with_reducible refine (CallsIn.inRound l (callsIn_wide.2 HC.out)).mono ?_; rintro e w' ⟨rfl, rfl⟩)
    have hal : Ch [] W (W.alloc (.cells #[.int .i64 ((i : Nat) : Int)] 3)) := (Ch.refl [] W).alloc _
    refine ⟨keeps_step hal (by omega) _, fun g => (g.quiet hal).set (Nat.le_refl _) (by omega) (by omega) _, (HQ.out.quiet hal).set (Nat.le_refl _) (by omega) (by omega) _, ?_⟩
    have := HB.out.set (.int .u64 ((Mk.withN M [(i : Int)] : Nat) : Int))
    rw [HM.out, with_snoc, HI.out] at this
    rw [HM.out, with_snoc, HI.out]
    simpa [valsC] using this
  case done =>
    rintro D ys W hD hys ⟨hq, hb⟩ hK
    rw [hys, ← HML.out] at hb
    have hc := hb.cell
    have HQ := Lib.hid hq
    clear hq hb hq0 bm hys
    gi_wp2
    refine ⟨by simp, .inl ⟨_, _, rfl, run_takeDeferred hK, ?_⟩⟩
    exact ⟨_, results_tmp rfl _ _ _, rfl, (gq_b D _ _ (by omega) hK rfl HQ.out).ch⟩
  case stop =>
    rintro D c pre W _ _ h _
    exact h.elim
theorem maskOf_any {w : World} {p : Option Addr} {F : Nat} {lb : Array Value} {q : Nat → Bool} (hFe : ∀ args w, (callFunc F args).run Tryz.prog w = .ok (.enter F args) w) (hn : p = none → selC 64 q = [])
    (hA : ∀ a, p = some a → ∀ W, Ch [] w W → ∀ i, i < 64 → Calls Tryz.prog F (#[.int .i64 ((i : Nat) : Int)] ++ lb) W fun e w' => e = .returned (.bool (q i)) ∧ Ch [] W w') :
    Calls Tryz.prog 63 #[.pointer p, .func (.func F) #[] lb] w fun e W' =>
      e = .returned (.int .u64 ((mskN q : Nat) : Int)) ∧ Ch [] w W' := callsIn_wide.1 (maskOf_in 0 hFe hn hA)

theorem app1 (a b : Value) : #[a] ++ #[b] = #[a, b] := rfl
theorem app2 (a b c : Value) : #[a] ++ #[b, c] = #[a, b, c] := rfl
theorem in_any {w : World} {b : Nat} {x : SS} (h : Sec w b x) :
    Calls Tryz.prog 47 #[.pointer (some ⟨b, 0, none⟩)] w fun e W' => e = .returned (.int .u64 ((mskN (inP x) : Nat) : Int)) ∧ Ch [] w W' := by
  have hal := (Ch.refl [] w).alloc (.cells #[.pointer (some ⟨b, 0, none⟩)] 68)
  have H := Lib.hid (maskOf_any (w := w.alloc (.cells #[.pointer (some ⟨b, 0, none⟩)] 68)) (p := some ⟨b, 0, none⟩) (F := 64) (lb := #[.pointer (some ⟨w.heap.size, 0, none⟩)]) (q := inP x)
    (enters_of Tryz.func64 (by kernel_rfl) rfl) (fun e => by cases e) (fun a _ W hW i hi => by
      rw [app1]
      exact in1_any (h.ch (hal.trans hW) (by simp)) ((hW.cell (p := ⟨w.heap.size, 0, none⟩) (by simp) (by simp)).trans (cell_new w _ _).1) hi))
  have HAl := Lib.hid hal
  clear h hal
  go_enter Tryz.func47, Tryz.ntmps47
  go_wp2_with fail
  with_reducible refine H.out.mono ?_
  rintro e w1 ⟨rfl, hc⟩
  go_wp2_with fail
  go_ret
  exact ⟨rfl, HAl.out.trans hc⟩
end Go.Proofs.YtjoaigadlpndcaaGreatDoor
