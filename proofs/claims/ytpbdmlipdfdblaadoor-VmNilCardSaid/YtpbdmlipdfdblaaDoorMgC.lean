/-
  Several texts in one: Plain: what comes behind an instruction (two ways of telling it), what is reached, what is wrong with a program, and where. · The helpers of both; whether an instruction is there, and where a jump leads. · The document's Helper; whether one comes behind another, as the document asks it. · The function that yields those that come behind an instruction. · The tail of the function that yields: what is yielded. · The function that yields, whole. · Next: those that come behind an instruction, in new memory.
-/
import Derived.Test.YtpbdmlipdfdblaaDoorMgB
import Derived.Test.YtpbdmlipdfdblaaDoorMgA
import Derived.BigQuiet
import Derived.RangeFuncLeaves
import Derived.RangeFuncNested
import Derived.Shelf.Abstract
import Derived.Shelf.RegionOpen
import Derived.OwnWalkIn
import Derived.TacticsInMore
import Derived.LoopNIn
import Derived.LoopIn
import Derived.RangeFuncBox
import Derived.RangeFuncCalls
import Derived.Maps.AppendAt
namespace Go.Proofs.YtpbdmlipdfdblaaDoor
open Go.RowKit

/-- Is an instruction there? -/
def inn (n : Nat) (z : Int) : Bool := decide (0 ≤ z ∧ z < (n : Int))
/-- Where a jump leads. -/
def tg (a : Int) (o : Int) : Int := wrap64 (wrap64 (a + 1) + o)
def loV (x : I5) (a : Nat) : Int := if cls x.op = 2 then tg a x.o else (a : Int) + 1
def hiV (x : I5) (a : Nat) : Int := if cls x.op = 2 ∧ x.op = 32 then tg a x.o else (a : Int) + 1
/-- One number, if it is there. -/
def one (n : Nat) (z : Int) : List Nat := if inn n z = true then [z.toNat] else []
/-- Those that come behind, as the program tells them: the less one, and the other one. -/
def prL (n : Nat) (x : I5) (a : Nat) : List Nat :=
  if x.op = 73 then [] else one n (min (loV x a) (hiV x a)) ++ (if max (loV x a) (hiV x a) ≠ min (loV x a) (hiV x a) then one n (max (loV x a) (hiV x a)) else [])
/-- Does one come behind, as the document asks it? -/
def bhd (x : I5) (a t : Nat) : Bool := x.op != 73 && ((cls x.op == 2 && (t : Int) - a - 1 == x.o) || (x.op != 32 && t == a + 1))
def nxL (n : Nat) (x : I5) (a : Nat) : List Nat := (List.range n).filter (bhd x a)

theorem one_succ (n : Nat) (z : Int) : one (n + 1) z = one n z ++ (if z = (n : Int) then [n] else []) := by
  unfold one inn
  by_cases h : z = (n : Int)
  · subst h
    rw [if_pos (by simp; omega), if_neg (by simp), if_pos rfl]
    simp
  · rw [if_neg h, List.append_nil]
    by_cases h2 : 0 ≤ z ∧ z < (n : Int)
    · rw [if_pos (by simp; omega), if_pos (by simpa using h2)]
    · rw [if_neg (by simp; omega), if_neg (by simpa using h2)]
theorem two_filter (l h : Int) (hlh : l ≤ h) (n : Nat) : (List.range n).filter (fun t : Nat => decide ((t : Int) = l ∨ (t : Int) = h)) = one n l ++ (if h ≠ l then one n h else []) := by
  induction n with
  | zero =>
    have e : ∀ z, one 0 z = [] := fun z => by unfold one inn; rw [if_neg (by rw [decide_eq_true_eq]; omega)]
    simp [e]
  | succ n ih =>
    rw [List.range_succ, List.filter_append, ih, one_succ, one_succ]
    by_cases h1 : (n : Int) = l
    · subst h1
      have e : one n h = [] := by unfold one inn; rw [if_neg (by simp; omega)]
      by_cases h2 : h = (n : Int)
      · subst h2; simp
      · simp [h2, e]
    · by_cases h2 : (n : Int) = h
      · subst h2
        have h3 : ¬ l = (n : Int) := fun e => h1 e.symm
        have h4 : ¬ (n : Int) = l := h1
        simp [h3, h4]
      · have h3 : ¬ l = (n : Int) := fun e => h1 e.symm
        have h4 : ¬ h = (n : Int) := fun e => h2 e.symm
        simp [h1, h2, h3, h4]
theorem tg_val {a : Nat} {o : Int} (ha : a < 1000) (ho : fit o) : (tg a o = (a : Int) + 1 + o) ∨ (tg a o < -1000 ∧ 9223372036854700000 < o) := by
  obtain ⟨h1, h2⟩ := ho
  unfold tg
  rw [show wrap64 ((a : Int) + 1) = (a : Int) + 1 by unfold wrap64; omega]
  unfold wrap64
  omega
/-- The two ways tell the same. -/
theorem prL_eq {n a : Nat} {x : I5} (ha : a < 1000) (hn : n ≤ 1000) (hx : Fit x) : prL n x a = nxL n x a := by
  unfold prL nxL
  have ht := tg_val ha hx.o
  by_cases h73 : x.op = 73
  · rw [if_pos h73]
    symm
    rw [List.filter_eq_nil_iff]
    intro t _
    simp [bhd, h73]
  · rw [if_neg h73, ← two_filter _ _ (by omega) n]
    apply List.filter_congr
    intro t ht2
    have ht3 : t < n := by simpa using ht2
    rw [Bool.eq_iff_iff, decide_eq_true_iff]
    unfold bhd loV hiV
    simp only [Bool.and_eq_true, Bool.or_eq_true, bne_iff_ne, beq_iff_eq]
    by_cases hc : cls x.op = 2
    · by_cases h32 : x.op = 32
      · have hc2 : cls 32 = 2 := by decide
        simp only [hc2, h32, and_self, if_true, true_and, ne_eq, not_true_eq_false, false_and, or_false]
        constructor <;> intro h <;> omega
      · simp only [hc, h32, and_false, if_true, if_false, true_and, ne_eq, not_false_eq_true, h73]
        constructor <;> intro h <;> omega
    · simp only [hc, false_and, if_false, ne_eq, h73, not_false_eq_true, true_and, false_or]
      have h32 : ¬ x.op = 32 := fun e => hc (by rw [e]; decide)
      simp only [h32, not_false_eq_true, true_and]
      omega
theorem one_len (n : Nat) (z : Int) : (one n z).length ≤ 1 := by unfold one; split <;> simp
theorem prL_len (n : Nat) (x : I5) (a : Nat) : (prL n x a).length ≤ 2 := by
  unfold prL
  split
  · simp
  · have h1 := one_len n (min (loV x a) (hiV x a))
    have h2 := one_len n (max (loV x a) (hiV x a))
    rw [List.length_append]
    split
    · omega
    · simp; omega
theorem nxL_lt {n : Nat} {x : I5} {a t : Nat} (h : t ∈ nxL n x a) : t < n := by simpa using (List.mem_filter.1 h).1
theorem nxL_mem {n : Nat} {x : I5} {a t : Nat} : t ∈ nxL n x a ↔ t < n ∧ bhd x a t = true := by
  unfold nxL
  rw [List.mem_filter, List.mem_range]

/-- The instruction at a place. -/
def ia (L : List I5) (a : Nat) : I5 := L.getD a ⟨0, 0, 0, 0, 0⟩
theorem ia_at {L : List I5} {a : Nat} (h : a < L.length) : L[a] = ia L a := by
  unfold ia
  rw [List.getD_eq_getElem?_getD, List.getElem?_eq_getElem h]; rfl
/-- What is reached, of the first 64. -/
inductive Rch (L : List I5) : Nat → Prop
  | zero (h : 0 < L.length) : Rch L 0
  | step {a t : Nat} (ha : Rch L a) (ht : t < 64) (hb : t ∈ nxL L.length (ia L a) a) : Rch L t
theorem Rch.lt {L : List I5} {t : Nat} (h : Rch L t) : t < 64 ∧ t < L.length := by
  cases h with
  | zero h => exact ⟨by decide, h⟩
  | step ha ht hb => exact ⟨ht, nxL_lt hb⟩
/-- A mask of those that are reached. -/
def RM (L : List I5) (M : Nat) : Prop := M < 18446744073709551616 ∧ ∀ t, M.testBit t = true ↔ Rch L t
theorem RM.same {L : List I5} {M N : Nat} (h : RM L M) (k : RM L N) : M = N := by
  apply Nat.eq_of_testBit_eq
  intro t
  rw [Bool.eq_iff_iff, h.2 t, k.2 t]

/-! ### The program's way: who is reached, and who is open -/
/-- How many of the first 64 are not in a mask. -/
def noN (M : Nat) : Nat := ((List.range 64).filter fun i => !M.testBit i).length
theorem noN_lt {M N a : Nat} (ha : a < 64) (hm : M.testBit a = false) (hn : N.testBit a = true) (h : ∀ i, M.testBit i = true → N.testBit i = true) : noN N < noN M := by
  unfold noN
  have key : ∀ (l : List Nat), a ∈ l → (l.filter fun i => !N.testBit i).length < (l.filter fun i => !M.testBit i).length := by
    have le : ∀ (l : List Nat), (l.filter fun i => !N.testBit i).length ≤ (l.filter fun i => !M.testBit i).length := by
      intro l
      induction l with
      | nil => simp
      | cons y l ih =>
        rw [List.filter_cons, List.filter_cons]
        have := h y
        cases e1 : M.testBit y <;> cases e2 : N.testBit y <;> simp_all <;> omega
    intro l
    induction l with
    | nil => simp
    | cons y l ih =>
      intro hm2
      rw [List.filter_cons, List.filter_cons]
      by_cases e : a = y
      · subst e
        have := le l
        simp [hm, hn]
        omega
      · have hl : a ∈ l := (List.mem_cons.1 hm2).resolve_left e
        have := ih hl
        have := h y
        cases e1 : M.testBit y <;> cases e2 : N.testBit y <;> simp_all <;> omega
  exact key _ (by simpa using ha)
structure WL (L : List I5) (R O : Nat) : Prop where
  rlt : R < 18446744073709551616
  olt : O < 18446744073709551616
  sound : ∀ t, R.testBit t = true ∨ O.testBit t = true → Rch L t
  first : 0 < L.length → R.testBit 0 = true ∨ O.testBit 0 = true
  closed : ∀ a t, R.testBit a = true → t < 64 → t ∈ nxL L.length (ia L a) a → R.testBit t = true ∨ O.testBit t = true
  apart : ∀ t, O.testBit t = true → R.testBit t = false
theorem WL.done {L : List I5} {R O : Nat} (h : WL L R O) (hO : ∀ t, O.testBit t = false) : RM L R := by
  refine ⟨h.rlt, fun t => ⟨fun k => h.sound t (.inl k), fun k => ?_⟩⟩
  induction k with
  | zero k => rcases h.first k with k | k
              · exact k
              · rw [hO] at k; cases k
  | step ha ht hb ih => rcases h.closed _ _ ih ht hb with k | k
                        · exact k
                        · rw [hO] at k; cases k
open Mk
theorem bitv_bit (i t : Nat) (hi : i < 64) : (bitv (i : Int)).testBit t = decide (i = t) := by
  unfold bitv
  rw [if_pos (by omega)]
  simp [Nat.testBit_two_pow]
/-- Those that are open, with those of a list that are not reached. -/
def opn (R O : Nat) (l : List Nat) : Nat := l.foldl (fun (o t : Nat) => if hasb R (t : Int) = true then o else withN o [(t : Int)]) O
theorem opn_snoc (R O : Nat) (l : List Nat) (t : Nat) : opn R O (l ++ [t]) = if hasb R (t : Int) = true then opn R O l else withN (opn R O l) [(t : Int)] := by
  unfold opn
  rw [List.foldl_append]
  rfl
theorem withN_one (o : Nat) (i : Int) : withN o [i] = o ||| bitv i := rfl
theorem opn_lt {R O : Nat} (hO : O < 18446744073709551616) : ∀ (l : List Nat), opn R O l < 18446744073709551616 := by
  intro l
  unfold opn
  induction l generalizing O with
  | nil => exact hO
  | cons t l ih =>
    refine ih ?_
    show (if hasb R (t : Int) = true then O else withN O [(t : Int)]) < _
    split
    · exact hO
    · exact withN_lt _ _ hO
theorem withN_bit (o : Nat) (i : Nat) (t : Nat) : (withN o [(i : Int)]).testBit t = (o.testBit t || (decide (i < 64) && decide (i = t))) := by
  rw [withN_one, Nat.testBit_or]
  by_cases h : i < 64
  · rw [bitv_bit i t h]; simp [h]
  · have : bitv (i : Int) = 0 := by unfold bitv; rw [if_neg (by omega)]
    rw [this]; simp [h]
theorem opn_bit (R O : Nat) (l : List Nat) (t : Nat) : (opn R O l).testBit t = true ↔ O.testBit t = true ∨ (t ∈ l ∧ t < 64 ∧ R.testBit t = false) := by
  unfold opn
  induction l generalizing O with
  | nil => simp
  | cons y l ih =>
    rw [List.foldl_cons, ih]
    have hb : hasb R (y : Int) = (decide (y < 64) && R.testBit y) := by
      unfold hasb
      rw [Int.toNat_natCast]
      congr 1
      rw [decide_eq_decide]
      omega
    by_cases h : hasb R (y : Int) = true
    · rw [if_pos h]
      rw [hb] at h
      simp only [Bool.and_eq_true, decide_eq_true_eq] at h
      constructor
      · rintro (k | ⟨k1, k2⟩)
        · exact .inl k
        · exact .inr ⟨List.mem_cons_of_mem _ k1, k2⟩
      · rintro (k | ⟨k1, k2, k3⟩)
        · exact .inl k
        · rcases List.mem_cons.1 k1 with e | e
          · subst e; rw [h.2] at k3; cases k3
          · exact .inr ⟨e, k2, k3⟩
    · rw [if_neg h, withN_bit]
      rw [hb] at h
      simp only [Bool.and_eq_true, decide_eq_true_eq, not_and, Bool.not_eq_true] at h
      simp only [Bool.or_eq_true, Bool.and_eq_true, decide_eq_true_eq]
      constructor
      · rintro ((k | ⟨k1, k2⟩) | ⟨k1, k2⟩)
        · exact .inl k
        · subst k2; exact .inr ⟨by simp, k1, h k1⟩
        · exact .inr ⟨List.mem_cons_of_mem _ k1, k2⟩
      · rintro (k | ⟨k1, k2, k3⟩)
        · exact .inl (.inl k)
        · rcases List.mem_cons.1 k1 with e | e
          · subst e; exact .inl (.inr ⟨k2, rfl⟩)
          · exact .inr ⟨e, k2, k3⟩
theorem not_bit (M : Nat) (hM : M < 18446744073709551616) (t : Nat) (ht : t < 64) : (18446744073709551615 - M).testBit t = !M.testBit t := by
  have h : 18446744073709551615 - M = 2 ^ 64 - (M + 1) := by omega
  rw [h, Nat.testBit_two_pow_sub_succ (by omega)]
  simp [ht]
theorem withoutN_bit (o i t : Nat) (hi : i < 64) (ho : o < 18446744073709551616) : (withoutN o [(i : Int)]).testBit t = (o.testBit t && !decide (i = t)) := by
  unfold withoutN
  rw [Nat.testBit_and]
  by_cases ht : t < 64
  · rw [not_bit _ (withN_lt 0 _ (by decide)) t ht, withN_bit]
    simp [hi]
  · have : o.testBit t = false := Nat.testBit_lt_two_pow (Nat.lt_of_lt_of_le ho (Nat.pow_le_pow_right (n := 2) (by decide) (show 64 ≤ t by omega)))
    rw [this]; simp
/-- One round: who is open is reached, and those behind it are open. -/
theorem WL.next {L : List I5} {R O a : Nat} (h : WL L R O) (ha : O.testBit a = true) : WL L (withN R [(a : Int)]) (opn (withN R [(a : Int)]) (withoutN O [(a : Int)]) (nxL L.length (ia L a) a)) ∧ noN (withN R [(a : Int)]) < noN R ∧ a < L.length := by
  have hr := h.sound a (.inr ha)
  have ha64 := hr.lt.1
  have hna := h.apart a ha
  have bR : ∀ t, (withN R [(a : Int)]).testBit t = (R.testBit t || decide (a = t)) := fun t => by rw [withN_bit]; simp [ha64]
  have bO := fun t => withoutN_bit O a t ha64 h.olt
  refine ⟨⟨withN_lt _ _ h.rlt, opn_lt (withoutN_lt _ _ h.olt) _, ?_, ?_, ?_, ?_⟩, ?_, hr.lt.2⟩
  · intro t ht
    rcases ht with ht | ht
    · rw [bR] at ht
      simp only [Bool.or_eq_true, decide_eq_true_eq] at ht
      rcases ht with ht | rfl
      · exact h.sound t (.inl ht)
      · exact hr
    · rw [opn_bit, bO] at ht
      rcases ht with ht | ⟨h1, h2, _⟩
      · simp only [Bool.and_eq_true] at ht
        exact h.sound t (.inr ht.1)
      · exact .step hr h2 h1
  · intro h0
    rcases h.first h0 with k | k
    · left; rw [bR, k]; rfl
    · by_cases e : a = 0
      · left; rw [bR]; simp [e]
      · right; rw [opn_bit, bO]; left; simp [k, e]
  · intro b t hb ht hm
    rw [bR] at hb
    simp only [Bool.or_eq_true, decide_eq_true_eq] at hb
    rw [bR, opn_bit, bO]
    by_cases e : a = t
    · left; simp [e]
    · rcases hb with hb | rfl
      · rcases h.closed b t hb ht hm with k | k
        · left; rw [k]; rfl
        · right; left; simp [k, e]
      · cases hRt : R.testBit t with
        | true => left; rfl
        | false => right; right; exact ⟨hm, ht, by rw [bR, hRt]; simp [e]⟩
  · intro t ht
    rw [opn_bit, bO] at ht
    rw [bR]
    rcases ht with ht | ⟨h1, h2, h3⟩
    · simp only [Bool.and_eq_true, Bool.not_eq_true', decide_eq_false_iff_not] at ht
      rw [h.apart t ht.1]
      simp [ht.2]
    · rw [bR] at h3; exact h3
  · exact noN_lt ha64 hna (by rw [bR]; simp) (fun i hi => by rw [bR, hi]; rfl)
theorem WL.start (L : List I5) : WL L 0 (if 0 < L.length then withN 0 [0] else 0) := by
  have e : withN 0 [0] = 1 := by decide
  rw [e]
  refine ⟨by decide, by split <;> decide, ?_, ?_, ?_, ?_⟩
  · intro t ht
    rcases ht with ht | ht
    · simp at ht
    · split at ht
      · rename_i h
        have : t = 0 := by
          rw [show (1 : Nat) = 2 ^ 0 from rfl, Nat.testBit_two_pow] at ht
          exact (show 0 = t by simpa using ht).symm
        subst this
        exact .zero h
      · simp at ht
  · intro h; right; rw [if_pos h]; rfl
  · intro a t ha; simp at ha
  · intro t _; simp
/-- Whom Next of a mask finds. -/
theorem next_some {O : Nat} (hb : nextB O 0 = true) : O.testBit (nextV O 0) = true ∧ nextV O 0 < 64 := by
  unfold nextB nextV at *
  cases h : nextO O 0 with
  | none => rw [h] at hb; cases hb
  | some i =>
    unfold nextO at h
    have h1 := List.mem_of_find?_eq_some h
    unfold Pl.ones at h1
    rw [List.mem_filter, List.mem_range] at h1
    exact ⟨h1.2, h1.1⟩
theorem next_none {O : Nat} (hO : O < 18446744073709551616) (hb : nextB O 0 = false) (t : Nat) : O.testBit t = false := by
  unfold nextB at hb
  cases h : nextO O 0 with
  | some i => rw [h] at hb; cases hb
  | none =>
    unfold nextO at h
    rw [List.find?_eq_none] at h
    by_cases ht : t < 64
    · cases hx : O.testBit t with
      | false => rfl
      | true =>
        have := h t (by unfold Pl.ones; rw [List.mem_filter, List.mem_range]; exact ⟨ht, hx⟩)
        simp at this
    · exact Nat.testBit_lt_two_pow (Nat.lt_of_lt_of_le hO (Nat.pow_le_pow_right (n := 2) (by decide) (show 64 ≤ t by omega)))

/-! ### The document's way: so many rounds -/
def cnt (bs : List Bool) : Nat := bs.count true
theorem cnt_set {bs : List Bool} {t : Nat} (ht : t < bs.length) (h : bs[t] = false) : cnt (bs.set t true) = cnt bs + 1 := by
  unfold cnt
  induction bs generalizing t with
  | nil => simp at ht
  | cons b bs ih =>
    cases t with
    | zero =>
      have hb : b = false := h
      subst hb
      simp
    | succ t =>
      rw [List.set_cons_succ, List.count_cons, List.count_cons, ih (by simpa using ht) (by simpa using h)]
      omega
theorem cnt_le (bs : List Bool) : ∀ (m : Nat), (∀ t (ht : t < bs.length), bs[t] = true → t < m) → cnt bs ≤ m := by
  unfold cnt
  intro m
  induction bs generalizing m with
  | nil => simp
  | cons b bs ih =>
    intro h
    cases m with
    | zero =>
      have hb : b = false := by
        cases hb : b with
        | false => rfl
        | true => have := h 0 (by simp) hb; omega
      have := ih 0 (fun t ht h2 => by have := h (t + 1) (by simpa using ht) h2; omega)
      rw [List.count_cons, hb]; simp; simpa using this
    | succ m =>
      have := ih m (fun t ht h2 => by have := h (t + 1) (by simpa using ht) h2; omega)
      rw [List.count_cons]
      split <;> omega
/-- Is each behind one that is in it in it, as far as places are looked at? -/
def clo (L : List I5) (n : Nat) (bs : List Bool) (a t : Nat) : Prop := ∀ a' t', a' < n → t' < n → (a' < a ∨ a' = a ∧ t' < t) → bs.getD a' false = true → bhd (ia L a') a' t' = true → bs.getD t' false = true
/-- Behind so many rounds (r), and so many places. -/
structure Rd (L : List I5) (n : Nat) (bs : List Bool) (r a t : Nat) : Prop where
  len : bs.length = 64
  sound : ∀ t, bs.getD t false = true → Rch L t
  first : 0 < n → bs.getD 0 false = true
  more : clo L n bs n 0 ∨ r + 2 ≤ cnt bs ∨ (r + 1 ≤ cnt bs ∧ clo L n bs a t)
theorem getD_set_bool (bs : List Bool) (i j : Nat) (hi : i < bs.length) : (bs.set i true).getD j false = (decide (i = j) || bs.getD j false) := by
  rw [List.getD_eq_getElem?_getD, List.getElem?_set, List.getD_eq_getElem?_getD]
  by_cases h : i = j
  · subst h; simp [hi]
  · simp [h]
theorem Rd.keep {L : List I5} {n r a t : Nat} {bs : List Bool} (h : Rd L n bs r a t) (hk : bs.getD a false = true → bhd (ia L a) a t = true → bs.getD t false = true) : Rd L n bs r a (t + 1) := by
  refine ⟨h.len, h.sound, h.first, ?_⟩
  rcases h.more with k | k | ⟨k1, k2⟩
  · exact .inl k
  · exact .inr (.inl k)
  · refine .inr (.inr ⟨k1, fun a' t' ha ht hlt hb hd => ?_⟩)
    by_cases e : a' = a ∧ t' = t
    · obtain ⟨rfl, rfl⟩ := e
      exact hk hb hd
    · exact k2 a' t' ha ht (by omega) hb hd
theorem Rd.put {L : List I5} {n r a t : Nat} {bs : List Bool} (h : Rd L n bs r a t) (hn : n ≤ 64) (hn2 : n ≤ L.length) (ha : a < n) (ht : t < n) (hb : bs.getD a false = true) (hd : bhd (ia L a) a t = true) : Rd L n (bs.set t true) r a (t + 1) := by
  have hlen := h.len
  have htl : t < bs.length := by omega
  by_cases hin : bs.getD t false = true
  · have e : bs.set t true = bs := by
      apply List.ext_getElem (by simp)
      intro i h1 h2
      rw [List.getElem_set]
      split
      · rename_i e2; subst e2
        rw [List.getD_eq_getElem?_getD, List.getElem?_eq_getElem htl] at hin
        exact hin.symm
      · rfl
    rw [e]
    exact h.keep (fun _ _ => hin)
  · have hg : bs[t] = false := by
      rw [List.getD_eq_getElem?_getD, List.getElem?_eq_getElem htl] at hin
      simpa using hin
    have hc := cnt_set htl hg
    refine ⟨by simpa using hlen, fun j hj => ?_, fun h0 => ?_, ?_⟩
    · rw [getD_set_bool _ _ _ htl] at hj
      simp only [Bool.or_eq_true, decide_eq_true_eq] at hj
      rcases hj with rfl | hj
      · exact .step (h.sound a hb) (by omega) (nxL_mem.2 ⟨by omega, hd⟩)
      · exact h.sound j hj
    · rw [getD_set_bool _ _ _ htl, h.first h0]; simp
    · rw [hc]
      rcases h.more with k | k | ⟨k1, k2⟩
      · exact absurd (k a t ha ht (by omega) hb hd) hin
      · exact .inr (.inl (by omega))
      · exact .inr (.inl (by omega))
theorem Rd.row {L : List I5} {n r a : Nat} {bs : List Bool} (h : Rd L n bs r a n) : Rd L n bs r (a + 1) 0 := by
  refine ⟨h.len, h.sound, h.first, ?_⟩
  rcases h.more with k | k | ⟨k1, k2⟩
  · exact .inl k
  · exact .inr (.inl k)
  · exact .inr (.inr ⟨k1, fun a' t' ha ht hlt hb hd => k2 a' t' ha ht (by omega) hb hd⟩)
theorem Rd.round {L : List I5} {n r : Nat} {bs : List Bool} (h : Rd L n bs r n 0) : Rd L n bs (r + 1) 0 0 := by
  refine ⟨h.len, h.sound, h.first, ?_⟩
  rcases h.more with k | k | ⟨k1, k2⟩
  · exact .inl k
  · exact .inr (.inr ⟨k, fun a' t' _ _ hlt => by omega⟩)
  · exact .inl k2
/-- Behind all rounds: just those that are reached. -/
theorem Rd.done {L : List I5} {n : Nat} {bs : List Bool} (hn : n = min L.length 64) (h : Rd L n bs n 0 0) (t : Nat) : bs.getD t false = true ↔ Rch L t := by
  refine ⟨h.sound t, fun k => ?_⟩
  have hc : cnt bs ≤ n := cnt_le bs n (fun t ht h2 => by
    have := (h.sound t (by rw [List.getD_eq_getElem?_getD, List.getElem?_eq_getElem ht]; exact h2)).lt
    omega)
  have hcl : clo L n bs n 0 := by
    rcases h.more with k | k | ⟨k1, k2⟩
    · exact k
    · omega
    · omega
  induction k with
  | zero h0 => exact h.first (by omega)
  | step ha ht hb ih =>
    have h1 := ha.lt
    have h2 := nxL_mem.1 hb
    exact hcl _ _ (by omega) (by omega) (by omega) ih h2.2
theorem wordN_bit (bs : List Bool) : ∀ t, (wordN bs).testBit t = bs.getD t false := by
  induction bs with
  | nil => intro t; simp [wordN]
  | cons b bs ih =>
    intro t
    have e : wordN (b :: bs) = wordN bs * 2 + b.toNat := rfl
    rw [e]
    cases t with
    | zero => cases b <;> simp [Nat.testBit_zero] <;> omega
    | succ t =>
      rw [Nat.testBit_succ, show (wordN bs * 2 + b.toNat) / 2 = wordN bs by cases b <;> simp <;> omega, ih]
      rfl
theorem rm_word {L : List I5} {bs : List Bool} (hl : bs.length = 64) (h : ∀ t, bs.getD t false = true ↔ Rch L t) : RM L (wordN bs) :=
  ⟨by have := wordN_lt bs; rw [hl] at this; exact this, fun t => by rw [wordN_bit, h]⟩

/-! ### What is wrong -/
def hlp (z : Int) : Bool := decide (1 ≤ z ∧ z ≤ 16)
def astr (n : Nat) (x : I5) (a : Nat) : Bool :=
  if cls x.op = 2 then !inn n (tg a x.o) else if cls x.op = 3 then decide (x.o < 0) || decide ((if x.op = 64 ∨ x.op = 65 then 8 else 4) ≤ x.o) else false
def wrg (n : Nat) (sl : Bool) (x : I5) (a : Nat) : Int :=
  if astr n x a = true then 2 else if x.op = 72 ∧ hlp x.i = false then 4 else if x.op = 72 ∧ x.i = 16 ∧ sl = false then 17
  else if a + 1 = n ∧ x.op ≠ 73 ∧ x.op ≠ 32 then 10 else 0
open Classical in
noncomputable def rb (L : List I5) (t : Nat) : Bool := decide (Rch L t)
theorem rb_iff {L : List I5} {t : Nat} : rb L t = true ↔ Rch L t := by unfold rb; simp
theorem rb_mask {L : List I5} {M t : Nat} (h : RM L M) : hasb M (t : Int) = rb L t := by
  rw [Bool.eq_iff_iff, rb_iff, ← h.2 t]
  unfold hasb
  simp only [Bool.and_eq_true, decide_eq_true_eq, Int.toNat_natCast]
  refine ⟨fun k => k.2, fun k => ⟨?_, k⟩⟩
  have := ((h.2 t).1 k).lt.1
  omega
/-- What each of the three looks tells of a place. -/
noncomputable def lk (L : List I5) (sl : Bool) (k a : Nat) : Int :=
  if k = 0 then chk (ia L a) else if k = 1 then wrg L.length sl (ia L a) a else if rb L a = true then 0 else 19
/-- The first place where something is told. -/
def look (f : Nat → Int) (n : Nat) : Option Nat := (List.range n).find? fun a => f a != 0
theorem look_some {f : Nat → Int} {n a : Nat} (ha : a < n) (h : f a ≠ 0) (hl : ∀ b, b < a → f b = 0) : look f n = some a := by
  unfold look
  have e : List.range n = List.range a ++ (a :: (List.range (n - a - 1)).map (a + 1 + ·)) := by
    have e1 : n = a + ((n - a - 1) + 1) := by omega
    conv => lhs; rw [e1, List.range_add, List.range_succ_eq_map]
    simp [List.map_map, Function.comp_def]
    intro b _
    omega
  rw [e, List.find?_append]
  have e2 : (List.range a).find? (fun a => f a != 0) = none := by
    rw [List.find?_eq_none]; intro x hx; simp [hl x (by simpa using hx)]
  rw [e2]
  simp [h]
theorem look_none {f : Nat → Int} {n : Nat} (hl : ∀ b, b < n → f b = 0) : look f n = none := by
  unfold look
  rw [List.find?_eq_none]; intro x hx; simp [hl x (by simpa using hx)]
/-- Where something is wrong, and what. -/
noncomputable def res (L : List I5) (sl : Bool) : Nat × Int :=
  if L.length < 1 ∨ 64 < L.length then (0, 8) else
  match look (lk L sl 0) L.length with
  | some a => (a, lk L sl 0 a)
  | none => match look (lk L sl 1) L.length with
    | some a => (a, lk L sl 1 a)
    | none => match look (lk L sl 2) L.length with
      | some a => (a, lk L sl 2 a)
      | none => (0, 0)
theorem res_long {L : List I5} {sl : Bool} (h : L.length < 1 ∨ 64 < L.length) : res L sl = (0, 8) := by unfold res; rw [if_pos h]
/-- The k-th look is the first that tells of something. -/
theorem res_at {L : List I5} {sl : Bool} (h : ¬ (L.length < 1 ∨ 64 < L.length)) {k a : Nat} (hk : k < 3) (ha : a < L.length) (hz : lk L sl k a ≠ 0) (hl : ∀ b, b < a → lk L sl k b = 0) (hq : ∀ j, j < k → ∀ b, b < L.length → lk L sl j b = 0) : res L sl = (a, lk L sl k a) := by
  unfold res
  rw [if_neg h]
  obtain rfl | rfl | rfl : k = 0 ∨ k = 1 ∨ k = 2 := by omega
  · rw [look_some ha hz hl]
  · rw [look_none (hq 0 (by omega)), look_some ha hz hl]
  · rw [look_none (hq 0 (by omega)), look_none (hq 1 (by omega)), look_some ha hz hl]
theorem res_ok {L : List I5} {sl : Bool} (h : ¬ (L.length < 1 ∨ 64 < L.length)) (hq : ∀ j, j < 3 → ∀ b, b < L.length → lk L sl j b = 0) : res L sl = (0, 0) := by
  unfold res
  rw [if_neg h, look_none (hq 0 (by omega)), look_none (hq 1 (by omega)), look_none (hq 2 (by omega))]
theorem look_val {f : Nat → Int} {n a : Nat} (h : look f n = some a) : f a ≠ 0 := by
  unfold look at h
  have := List.find?_some h
  simpa using this
theorem look_no {f : Nat → Int} {n : Nat} (h : look f n = none) : ∀ b, b < n → f b = 0 := by
  unfold look at h
  rw [List.find?_eq_none] at h
  intro b hb
  simpa using h b (by simpa using hb)
/-- Of a right program nothing is told. -/
theorem res_right {L : List I5} {sl : Bool} (h : (res L sl).2 = 0) : 1 ≤ L.length ∧ L.length ≤ 64 ∧ ∀ j, j < 3 → ∀ b, b < L.length → lk L sl j b = 0 := by
  by_cases hl : L.length < 1 ∨ 64 < L.length
  · rw [res_long hl] at h; cases h
  · unfold res at h
    rw [if_neg hl] at h
    cases h0 : look (lk L sl 0) L.length with
    | some a => rw [h0] at h; exact absurd h (look_val h0)
    | none =>
      cases h1 : look (lk L sl 1) L.length with
      | some a => rw [h0, h1] at h; exact absurd h (look_val h1)
      | none =>
        cases h2 : look (lk L sl 2) L.length with
        | some a => rw [h0, h1, h2] at h; exact absurd h (look_val h2)
        | none =>
          refine ⟨by omega, by omega, fun j hj => ?_⟩
          obtain rfl | rfl | rfl : j = 0 ∨ j = 1 ∨ j = 2 := by omega
          · exact look_no h0
          · exact look_no h1
          · exact look_no h2
end Go.Proofs.YtpbdmlipdfdblaaDoor

namespace Go.Proofs.YtpbdmlipdfdblaaDoor
open Go.RowKit Go.BigFrame

attribute [local go_sem] Oper.semAt_some

/-- The helpers' names, and how many arguments they have, by numbers from 1 on. -/
def hN : List (List UInt8) := [[110, 111, 119], [99, 112, 117], [102, 105, 110, 100], [112, 117, 116], [100, 114, 111, 112], [105, 110, 105, 116], [99, 97, 108, 108, 98, 97, 99, 107], [115, 116, 97, 114, 116], [99, 97, 110, 99, 101, 108], [115, 116, 111, 112], [119, 111, 114, 107], [113, 117, 101, 117, 101], [99, 111, 112, 121, 105, 110], [99, 111, 112, 121, 111, 117, 116], [101, 109, 105, 116], [112, 97, 117, 115, 101]]
def hA : List Int := [0, 0, 2, 4, 2, 1, 2, 4, 1, 1, 2, 1, 3, 3, 1, 0]
def hnm (z : Int) : List UInt8 := if hlp z = true then hN.getD (z - 1).toNat [] else []
def har (z : Int) : Int := if hlp z = true then hA.getD (z - 1).toNat 0 else 0
/-- The tables that the program reads: the helpers, and that of math/bits. -/
structure Tb (w : World) : Prop where
  nam : ∀ j, j < 16 → w.cell? ⟨0, (j + 1) * 2, none⟩ = some (.string ⟨(hN.getD j []).toArray⟩)
  arg : ∀ j, j < 16 → w.cell? ⟨0, (j + 1) * 2 + 1, none⟩ = some (.int .i64 (hA.getD j 0))
  tab : Mk.Tab w
theorem Tb.ch {w w' : World} (h : Tb w) (hc : Ch [] w w') : Tb w' :=
  ⟨fun j hj => (hc.cell (p := ⟨0, (j + 1) * 2, none⟩) (cell_lt (h.nam j hj)) (by simp)).trans (h.nam j hj),
   fun j hj => (hc.cell (p := ⟨0, (j + 1) * 2 + 1, none⟩) (cell_lt (h.arg j hj)) (by simp)).trans (h.arg j hj),
   fun j hj => (hc.cell (p := ⟨1, j, none⟩) (cell_lt (h.tab j hj)) (by simp)).trans (h.tab j hj)⟩
/-- What Helper tells of a number. -/
def hV (z : Int) : Value := .tuple #[.string ⟨(hnm z).toArray⟩, .int .i64 (har z), .bool (hlp z)]

theorem help_any (z : Int) {w : World} (hT : Tb w) : Calls Tryd.prog 56 #[.int .i64 z] w fun e w' => e = .returned (hV z) ∧ ∃ n, w' = w.drewN n := by
  unfold hV hnm har
  by_cases h : hlp z = true
  · rw [if_pos h, if_pos h, h]
    unfold hlp at h
    rw [decide_eq_true_eq] at h
    obtain ⟨k, rfl⟩ : ∃ k : Nat, z = (k : Int) + 1 := ⟨(z - 1).toNat, by omega⟩
    have hk : k < 16 := by omega
    rw [show ((k : Int) + 1 - 1).toNat = k by omega]
    have h1 := hT.nam k hk
    have h2 := hT.arg k hk
    have d1 : ¬ (k : Int) + 1 < 1 := by omega
    have d2 : ¬ 16 < (k : Int) + 1 := by omega
    have e1 : ((k : Int) + 1).toNat = k + 1 := by omega
    have e2 : ¬ (k : Int) + 1 < 0 := by omega
    have e3 : (k : Int) + 1 < 17 := by omega
    generalize hN.getD k [] = nm at *
    generalize hA.getD k 0 = ar at *
    clear hT h
    go_enter Tryd.func56, Tryd.ntmps56
    go_wp2_with fail
    go_quiet (fail)
    go_wp2_with fail
    refine bodyPost_ret (v := .tuple #[.string ⟨nm.toArray⟩, .int .i64 ar, .bool true]) ?_ rfl ?_
    · simp [results, Tryd.f56, go_sem]
    exact ⟨rfl, _, rfl⟩
  · rw [if_neg h, if_neg h]
    have hf : hlp z = false := by simpa using h
    rw [hf]
    unfold hlp at hf
    have HF := Lib.hid (of_decide_eq_false hf)
    clear h hf
    by_cases h1 : z < 1
    · go_enter Tryd.func56, Tryd.ntmps56
      go_wp2_with fail
      refine bodyPost_ret (v := .tuple #[.string ⟨#[]⟩, .int .i64 0, .bool false]) ?_ rfl ?_
      · simp [results, Tryd.f56, go_sem]
      exact ⟨rfl, 0, rfl⟩
    · have h2 : 16 < z := by have := HF.out; omega
      go_enter Tryd.func56, Tryd.ntmps56
      go_wp2_with fail
      refine bodyPost_ret (v := .tuple #[.string ⟨#[]⟩, .int .i64 0, .bool false]) ?_ rfl ?_
      · simp [results, Tryd.f56, go_sem]
      exact ⟨rfl, 0, rfl⟩
theorem there_any (n cap : Nat) (a : Option Addr) (z : Int) (w : World) : Calls Tryd.prog 73 #[.slice a n cap, .int .i64 z] w fun e w' => e = .returned (.bool (inn n z)) ∧ w' = w := by
  unfold inn
  by_cases h0 : 0 ≤ z
  · obtain ⟨b, hb⟩ : ∃ b, decide (z < (n : Int)) = b := ⟨_, rfl⟩
    have hr : decide (0 ≤ z ∧ z < (n : Int)) = b := by rw [← hb]; simp [h0]
    rw [hr]
    clear hr
    go_enter Tryd.func73, Tryd.ntmps73
    go_wp2_with fail
    go_ret
    exact ⟨rfl, rfl⟩
  · have hr : decide (0 ≤ z ∧ z < (n : Int)) = false := decide_eq_false (by omega)
    rw [hr]
    clear hr
    go_enter Tryd.func73, Tryd.ntmps73
    go_wp2_with fail
    go_ret
    exact ⟨rfl, rfl⟩
theorem target_any {n cap b off : Nat} {L : List I5} (k : Nat) (hL : L.length = n) (hk : k < n) {w : World} (hI : ∀ i (hi : i < L.length), FiveO w b (off + i * 5) L[i]) : Calls Tryd.prog 74 #[.slice (some ⟨b, off, none⟩) n cap, .int .i64 (k : Int)] w fun e w' => e = .returned (.int .i64 (tg (k : Int) (ia L k).o)) ∧ w' = w := by
  have h3 := (hI k (by omega)).c3
  rw [ia_at (by omega)] at h3
  have hkn : (k : Int) < (n : Int) := by omega
  unfold tg
  generalize (ia L k).o = o at *
  clear hI hL
  go_enter Tryd.func74, Tryd.ntmps74
  go_wp2_with fail
  go_ret
  exact ⟨rfl, rfl⟩
end Go.Proofs.YtpbdmlipdfdblaaDoor

namespace Go.Proofs.YtpbdmlipdfdblaaDoor
open Go.RowKit Go.BigFrame

attribute [local go_sem] Oper.semAt_some

def cN : Array Value := #[.string ⟨#[110, 111, 119]⟩, .string ⟨#[99, 112, 117]⟩, .string ⟨#[102, 105, 110, 100]⟩, .string ⟨#[112, 117, 116]⟩, .string ⟨#[100, 114, 111, 112]⟩, .string ⟨#[105, 110, 105, 116]⟩, .string ⟨#[99, 97, 108, 108, 98, 97, 99, 107]⟩, .string ⟨#[115, 116, 97, 114, 116]⟩, .string ⟨#[99, 97, 110, 99, 101, 108]⟩, .string ⟨#[115, 116, 111, 112]⟩, .string ⟨#[119, 111, 114, 107]⟩, .string ⟨#[113, 117, 101, 117, 101]⟩, .string ⟨#[99, 111, 112, 121, 105, 110]⟩, .string ⟨#[99, 111, 112, 121, 111, 117, 116]⟩, .string ⟨#[101, 109, 105, 116]⟩, .string ⟨#[112, 97, 117, 115, 101]⟩]
def cA : Array Value := #[.int .i64 0, .int .i64 0, .int .i64 2, .int .i64 4, .int .i64 2, .int .i64 1, .int .i64 2, .int .i64 4, .int .i64 1, .int .i64 1, .int .i64 2, .int .i64 1, .int .i64 3, .int .i64 3, .int .i64 1, .int .i64 0]
theorem cN_at (k : Nat) (hk : k < 16) : cN[k]? = some (.string ⟨(hN.getD k []).toArray⟩) :=
  match k, hk with
  | 0, _ => rfl
  | 1, _ => rfl
  | 2, _ => rfl
  | 3, _ => rfl
  | 4, _ => rfl
  | 5, _ => rfl
  | 6, _ => rfl
  | 7, _ => rfl
  | 8, _ => rfl
  | 9, _ => rfl
  | 10, _ => rfl
  | 11, _ => rfl
  | 12, _ => rfl
  | 13, _ => rfl
  | 14, _ => rfl
  | 15, _ => rfl
  | k + 16, h => absurd h (by omega)
theorem cA_at (k : Nat) (hk : k < 16) : cA[k]? = some (.int .i64 (hA.getD k 0)) :=
  match k, hk with
  | 0, _ => rfl
  | 1, _ => rfl
  | 2, _ => rfl
  | 3, _ => rfl
  | 4, _ => rfl
  | 5, _ => rfl
  | 6, _ => rfl
  | 7, _ => rfl
  | 8, _ => rfl
  | 9, _ => rfl
  | 10, _ => rfl
  | 11, _ => rfl
  | 12, _ => rfl
  | 13, _ => rfl
  | 14, _ => rfl
  | 15, _ => rfl
  | k + 16, h => absurd h (by omega)
end Go.Proofs.YtpbdmlipdfdblaaDoor

namespace Go.Proofs.YtpbdmlipdfdblaaDoor
open Go.RowKit Go.Shelf

attribute [local go_sem] Oper.semAt_some

/-- Those that come behind an instruction at any number. -/
def bhl (L : List I5) (z : Int) : List Nat := if inn L.length z = true then prL L.length (ia L z.toNat) z.toNat else []
theorem bhl_len (L : List I5) (z : Int) : (bhl L z).length ≤ 2 := by
  unfold bhl
  split
  · exact prL_len _ _ _
  · simp

/-- What a round keeps: all below n₀, and the two boxes. -/
def Kc (n₀ B1 B2 : Nat) (A A' : World) : Prop := Below n₀ A A' ∧ (∀ v, Boxed A B1 24 v → Boxed A' B1 24 v) ∧ ∀ v, Boxed A B2 3 v → Boxed A' B2 3 v
theorem kc_t {n₀ B1 B2 : Nat} {A B C : World} (h : Kc n₀ B1 B2 A B) (k : Kc n₀ B1 B2 B C) : Kc n₀ B1 B2 A C := ⟨h.1.trans k.1, fun v hv => k.2.1 v (h.2.1 v hv), fun v hv => k.2.2 v (h.2.2 v hv)⟩
theorem kc_r {n₀ B1 B2 : Nat} (A : World) : Kc n₀ B1 B2 A A := ⟨Below.refl _ _, fun _ h => h, fun _ h => h⟩
theorem kc_b {n₀ B1 B2 : Nat} {w : World} (hn : n₀ ≤ w.heap.size) (W : World) (l : Nat) (o o' : Obj) (hl : w.heap.size ≤ l) (h : W.heap[l]? = some o) (hc : o.isCells = false) (hw : o.isWalk = false) : Kc n₀ B1 B2 W (W.putObj l o') :=
  ⟨belowK_b hn W l o o' hl h hc hw, fun v hv => hv.kept (grownBy_putObj' W l o') (fun e => by
    cases e
    rw [show W.heap[B1]? = _ from hv] at h
    cases h
    cases hc), fun v hv => hv.kept (grownBy_putObj' W l o') (fun e => by
    cases e
    rw [show W.heap[B2]? = _ from hv] at h
    cases h
    cases hc)⟩

set_option maxHeartbeats 400000 in
theorem behind_in (n : Nat) (a : Option Addr) (len cap : Nat) (z : Int) (w : World) :
    CallsIn Fence.wide n Tryd.prog 50 #[.slice a len cap, .int .i64 z] w fun e w' => e = .returned (.func (.func 72) #[] #[.pointer (some ⟨w.heap.size, 0, none⟩), .pointer (some ⟨w.heap.size + 1, 0, none⟩)]) ∧ w' = (w.alloc (.cells #[.slice a len cap] 24)).alloc (.cells #[.int .i64 z] 3) := by
  refine callsIn_of_wp Tryd.func50 rfl trivial ?_ rfl
  simp only [Tryd.ntmps50, List.size_toArray, List.length_cons, List.length_nil, Nat.reduceAdd, Nat.reduceSub, Array.replicate_succ, Array.replicate_zero, List.push_toArray, List.append_toArray, List.nil_append, List.cons_append]
  gi_wp2
  go_ret
  exact ⟨rfl, rfl⟩

set_option maxRecDepth 100000 in
set_option maxHeartbeats 2000000 in
theorem behind1_none (n l B1 B2 : Nat) {a : Option Addr} {len cap : Nat} {z : Int} {J : Prop} (h : inn len z = false) (W : World) (hb1 : Boxed W B1 24 (.slice a len cap)) (hb2 : Boxed W B2 3 (.int .i64 z)) (h0 : J) :
    CallsIn Fence.wide n Tryd.prog 72 #[.func (.yield l) #[] #[], .pointer (some ⟨B1, 0, none⟩), .pointer (some ⟨B2, 0, none⟩)] W fun e W' => (∃ v, e = .returned v) ∧ W' = W ∧ J := by
  have HT := Lib.hid (fun W => there_any len cap a z W)
  rw [h] at HT
  have H0 := Lib.hid h0
  have c1 := hb1.cell
  have c2 := hb2.cell
  clear h h0 hb1 hb2
  have hw : ∀ f, Fence.wide.fn f := fun _ => trivial
  have hd : Fence.wide.depth = none := rfl
  refine callsIn_of_wp Tryd.func72 rfl trivial ?_ rfl
  simp only [Tryd.ntmps72, List.size_toArray, List.length_cons, List.length_nil, Nat.reduceAdd, Nat.reduceSub, Array.replicate_succ, Array.replicate_zero, List.push_toArray, List.append_toArray, List.nil_append, List.cons_append]
  gi_wp2_with (first
    | (gi_at_call 73; refine (callsIn_wide.2 (HT.out _)).mono ?_; rintro e w' ⟨rfl, rfl⟩)
    | fail)
  refine bodyPost_ret (results_none rfl _ _ _) rfl ?_
  exact ⟨⟨_, rfl⟩, rfl, H0.out⟩
theorem behind1_exit (n l B1 B2 : Nat) {b off : Nat} {len cap k : Nat} {J : Prop} {L : List I5} (hL : L.length = len) (hk : k < len) (h73 : (ia L k).op = 73) (W : World) (hI : ∀ i (hi : i < L.length), FiveO W b (off + i * 5) L[i]) (hb1 : Boxed W B1 24 (.slice (some ⟨b, off, none⟩) len cap)) (hb2 : Boxed W B2 3 (.int .i64 (k : Int))) (h0 : J) :
    CallsIn Fence.wide n Tryd.prog 72 #[.func (.yield l) #[] #[], .pointer (some ⟨B1, 0, none⟩), .pointer (some ⟨B2, 0, none⟩)] W fun e W' => (∃ v, e = .returned v) ∧ W' = W ∧ J := by
  have HT := Lib.hid (fun W => there_any len cap (some ⟨b, off, none⟩) (k : Int) W)
  have h : inn len (k : Int) = true := by unfold inn; simp; omega
  rw [h] at HT
  have H0 := Lib.hid h0
  have c1 := hb1.cell
  have c2 := hb2.cell
  have c3 := (hI k (by omega)).c0
  rw [ia_at (by omega), h73] at c3
  have hkn : (k : Int) < (len : Int) := by omega
  clear h h0 hb1 hb2 hI hL h73
  have hw : ∀ f, Fence.wide.fn f := fun _ => trivial
  have hd : Fence.wide.depth = none := rfl
  refine callsIn_of_wp Tryd.func72 rfl trivial ?_ rfl
  simp only [Tryd.ntmps72, List.size_toArray, List.length_cons, List.length_nil, Nat.reduceAdd, Nat.reduceSub, Array.replicate_succ, Array.replicate_zero, List.push_toArray, List.append_toArray, List.nil_append, List.cons_append]
  gi_wp2_with (first
    | (gi_at_call 73; refine (callsIn_wide.2 (HT.out _)).mono ?_; rintro e w' ⟨rfl, rfl⟩)
    | fail)
  refine bodyPost_ret (results_none rfl _ _ _) rfl ?_
  exact ⟨⟨_, rfl⟩, rfl, H0.out⟩
end Go.Proofs.YtpbdmlipdfdblaaDoor

namespace Go.Proofs.YtpbdmlipdfdblaaDoor
open Go.RowKit Go.Shelf

attribute [local go_sem] Oper.semAt_some

set_option maxRecDepth 100000 in
set_option maxHeartbeats 8000000 in
theorem behind1_tail (n l B1 B2 n₀ : Nat) {a : Option Addr} {len cap : Nat} (p q : Int) (J Jx : List Nat → World → Prop)
    (hY : ∀ pre x W, J pre W → pre.length < 2 → YieldAt Fence.wide (n - 1) Tryd.prog l #[.int .i64 ((x : Nat) : Int)] W fun e W' =>
      (e = .returned (.bool true) ∧ J (pre ++ [x]) W' ∧ Kc n₀ B1 B2 W W') ∨ (e = .returned (.bool false) ∧ Jx (pre ++ [x]) W'))
    (V : World) (hB1 : Boxed V B1 24 (.slice a len cap)) (hJV : J [] V) (Z : List Nat) (hZ : Z = one len p ++ (if q ≠ p then one len q else [])) {u3 u6 u7 u8 u9 u10 u11 u12 u13 u14 u15 u16 u17 u18 u19 u20 u21 u22 u23 u24 u25 u26 u27 u28 u29 u30 u31 u32 u33 u34 u35 u36 u37 u38 u39 u40 u41 u42 u43 u44 u45 : Value} :
    (codeOf [1, 1, 1, 1] (Tryd.f72.body.getD .skip)).wpIn Fence.wide n Tryd.prog (bodyPost Tryd.prog Tryd.f72 fun e W' => (∃ v, e = .returned v) ∧ (J Z W' ∨ ∃ pre, pre <+: Z ∧ Jx pre W'))
      { tmps := #[.func (.yield l) #[] #[], .pointer (some ⟨B1, 0, none⟩), .pointer (some ⟨B2, 0, none⟩), u3, .int .i64 p, .int .i64 q, u6, u7, u8, u9, u10, u11, u12, u13, u14, u15, u16, u17, u18, u19, u20, u21, u22, u23, u24, u25, u26, u27, u28, u29, u30, u31, u32, u33, u34, u35, u36, u37, u38, u39, u40, u41, u42, u43, u44, u45, undef, undef, undef, undef, undef, undef, undef, undef, undef, undef, undef, undef, undef, undef, undef, undef, undef, undef, undef, undef, undef, undef, undef], defers := [] } V := by
  have HT := Lib.hid (fun z W => there_any len cap a z W)
  have HY := Lib.hid hY
  have HZ := Lib.hid hZ
  have HJV := Lib.hid hJV
  have d1 := hB1.cell
  clear hY hZ hJV
  have hw : ∀ f, Fence.wide.fn f := fun _ => trivial
  have hd : Fence.wide.depth = none := rfl
  simp only [codeOf, Tryd.f72, Option.getD_some]
  by_cases hqp : q = p
  · have hqp := hqp.symm
    subst hqp
    have HTp := Lib.hid (fun W => HT.out p W)
    have HTq := HTp
    by_cases hb1 : inn len p = true
    · obtain ⟨x, hpx⟩ : ∃ x : Nat, p = (x : Int) := ⟨p.toNat, by unfold inn at hb1; rw [decide_eq_true_eq] at hb1; omega⟩
      have HPx := Lib.hid hpx
      have HLs := Lib.hid (show Z = [x] by rw [HZ.out, if_neg (fun h => h rfl), List.append_nil]; unfold one; rw [if_pos hb1, hpx, Int.toNat_natCast])
      rw [hb1] at HTp HTq
      clear hpx hb1
      obtain ⟨fn, tmps, assign, body, hy, hR⟩ := HY.out [] x V HJV.out (by simp)
      rw [← HPx.out] at hy
      gi_wp2_with (first
        | (gi_at_call 73; with_reducible refine (callsIn_wide.2 (HTp.out _)).mono ?_; rintro e w9 ⟨rfl, rfl⟩)
        | (gi_at_call 73; with_reducible refine (callsIn_wide.2 (HTq.out _)).mono ?_; rintro e w9 ⟨rfl, rfl⟩)
        | fail)
      refine hR.mono ?_
      rintro e W3 (⟨rfl, hJ3, hk3⟩ | ⟨rfl, hJx3⟩)
      · have HJ3 := Lib.hid hJ3
        clear hJ3 hk3 hy hR
        gi_wp2_with (first
          | (gi_at_call 73; with_reducible refine (callsIn_wide.2 (HTp.out _)).mono ?_; rintro e w9 ⟨rfl, rfl⟩)
          | (gi_at_call 73; with_reducible refine (callsIn_wide.2 (HTq.out _)).mono ?_; rintro e w9 ⟨rfl, rfl⟩)
          | fail)
        first | go_end0 | refine bodyPost_ret (results_none rfl _ _ _) rfl ?_
        exact ⟨⟨_, rfl⟩, .inl (by rw [HLs.out]; exact HJ3.out)⟩
      · have HX3 := Lib.hid hJx3
        clear hJx3 hy hR
        gi_wp2_with (first
          | (gi_at_call 73; with_reducible refine (callsIn_wide.2 (HTp.out _)).mono ?_; rintro e w9 ⟨rfl, rfl⟩)
          | (gi_at_call 73; with_reducible refine (callsIn_wide.2 (HTq.out _)).mono ?_; rintro e w9 ⟨rfl, rfl⟩)
          | fail)
        first | go_end0 | refine bodyPost_ret (results_none rfl _ _ _) rfl ?_
        exact ⟨⟨_, rfl⟩, .inr ⟨[x], by rw [HLs.out]; exact ⟨_, rfl⟩, HX3.out⟩⟩
    · have hf1 : inn len p = false := by simpa using hb1
      have HLs := Lib.hid (show Z = [] by rw [HZ.out, if_neg (fun h => h rfl), List.append_nil]; unfold one; rw [if_neg hb1])
      rw [hf1] at HTp HTq
      clear hb1
      gi_wp2_with (first
        | (gi_at_call 73; with_reducible refine (callsIn_wide.2 (HTp.out _)).mono ?_; rintro e w9 ⟨rfl, rfl⟩)
        | (gi_at_call 73; with_reducible refine (callsIn_wide.2 (HTq.out _)).mono ?_; rintro e w9 ⟨rfl, rfl⟩)
        | fail)
      first | go_end0 | refine bodyPost_ret (results_none rfl _ _ _) rfl ?_
      exact ⟨⟨_, rfl⟩, .inl (by rw [HLs.out]; exact HJV.out)⟩
  · skip
    have HTp := Lib.hid (fun W => HT.out p W)
    have HTq := Lib.hid (fun W => HT.out q W)
    have hqb : (q != p) = true := by simpa using hqp
    by_cases hb1 : inn len p = true
    · obtain ⟨x, hpx⟩ : ∃ x : Nat, p = (x : Int) := ⟨p.toNat, by unfold inn at hb1; rw [decide_eq_true_eq] at hb1; omega⟩
      have HPx := Lib.hid hpx
      have hone1 : one len p = [x] := by unfold one; rw [if_pos hb1, hpx, Int.toNat_natCast]
      rw [hb1] at HTp
      clear hpx hb1
      by_cases hb2 : inn len q = true
      · obtain ⟨y, hqy⟩ : ∃ y : Nat, q = (y : Int) := ⟨q.toNat, by unfold inn at hb2; rw [decide_eq_true_eq] at hb2; omega⟩
        have HQy := Lib.hid hqy
        have hone2 : one len q = [y] := by unfold one; rw [if_pos hb2, hqy, Int.toNat_natCast]
        rw [hb2] at HTq
        clear hqy hb2
        have HLs := Lib.hid (show Z = [x, y] by rw [HZ.out, if_pos hqp, hone1, hone2]; rfl)
        clear hone1 hone2 hqp
        obtain ⟨fn, tmps, assign, body, hy, hR⟩ := HY.out [] x V HJV.out (by simp)
        rw [← HPx.out] at hy
        gi_wp2_with (first
          | (gi_at_call 73; with_reducible refine (callsIn_wide.2 (HTp.out _)).mono ?_; rintro e w9 ⟨rfl, rfl⟩)
          | (gi_at_call 73; with_reducible refine (callsIn_wide.2 (HTq.out _)).mono ?_; rintro e w9 ⟨rfl, rfl⟩)
          | fail)
        refine hR.mono ?_
        rintro e W3 (⟨rfl, hJ3, hk3⟩ | ⟨rfl, hJx3⟩)
        · have HJ3 := Lib.hid hJ3
          have hB3 := hk3.2.1 _ hB1
          have d4 := hB3.cell
          clear hJ3 hk3 hy hR
          obtain ⟨fn2, tmps2, assign2, body2, hy2, hR2⟩ := HY.out [x] y W3 HJ3.out (by simp)
          rw [← HQy.out] at hy2
          gi_wp2_with (first
            | (gi_at_call 73; with_reducible refine (callsIn_wide.2 (HTp.out _)).mono ?_; rintro e w9 ⟨rfl, rfl⟩)
            | (gi_at_call 73; with_reducible refine (callsIn_wide.2 (HTq.out _)).mono ?_; rintro e w9 ⟨rfl, rfl⟩)
            | fail)
          refine hR2.mono ?_
          rintro e W4 (⟨rfl, hJ4, hk4⟩ | ⟨rfl, hJx4⟩)
          · have HJ4 := Lib.hid hJ4
            clear hJ4 hy2 hR2 hk4
            gi_wp2_with (first
              | (gi_at_call 73; with_reducible refine (callsIn_wide.2 (HTp.out _)).mono ?_; rintro e w9 ⟨rfl, rfl⟩)
              | (gi_at_call 73; with_reducible refine (callsIn_wide.2 (HTq.out _)).mono ?_; rintro e w9 ⟨rfl, rfl⟩)
              | fail)
            first | go_end0 | refine bodyPost_ret (results_none rfl _ _ _) rfl ?_
            exact ⟨⟨_, rfl⟩, .inl (by rw [HLs.out]; exact HJ4.out)⟩
          · have HX4 := Lib.hid hJx4
            clear hJx4 hy2 hR2
            gi_wp2_with (first
              | (gi_at_call 73; with_reducible refine (callsIn_wide.2 (HTp.out _)).mono ?_; rintro e w9 ⟨rfl, rfl⟩)
              | (gi_at_call 73; with_reducible refine (callsIn_wide.2 (HTq.out _)).mono ?_; rintro e w9 ⟨rfl, rfl⟩)
              | fail)
            first | go_end0 | refine bodyPost_ret (results_none rfl _ _ _) rfl ?_
            exact ⟨⟨_, rfl⟩, .inr ⟨[x, y], by rw [HLs.out]; exact List.prefix_refl _, HX4.out⟩⟩
        · have HX3 := Lib.hid hJx3
          clear hJx3 hy hR
          gi_wp2_with (first
            | (gi_at_call 73; with_reducible refine (callsIn_wide.2 (HTp.out _)).mono ?_; rintro e w9 ⟨rfl, rfl⟩)
            | (gi_at_call 73; with_reducible refine (callsIn_wide.2 (HTq.out _)).mono ?_; rintro e w9 ⟨rfl, rfl⟩)
            | fail)
          first | go_end0 | refine bodyPost_ret (results_none rfl _ _ _) rfl ?_
          exact ⟨⟨_, rfl⟩, .inr ⟨[x], by rw [HLs.out]; exact ⟨_, rfl⟩, HX3.out⟩⟩
      · have hf2 : inn len q = false := by simpa using hb2
        have hone2 : one len q = [] := by unfold one; rw [if_neg hb2]
        rw [hf2] at HTq
        clear hb2
        have HLs := Lib.hid (show Z = [x] by rw [HZ.out, if_pos hqp, hone1, hone2]; rfl)
        clear hone1 hone2 hqp
        obtain ⟨fn, tmps, assign, body, hy, hR⟩ := HY.out [] x V HJV.out (by simp)
        rw [← HPx.out] at hy
        gi_wp2_with (first
          | (gi_at_call 73; with_reducible refine (callsIn_wide.2 (HTp.out _)).mono ?_; rintro e w9 ⟨rfl, rfl⟩)
          | (gi_at_call 73; with_reducible refine (callsIn_wide.2 (HTq.out _)).mono ?_; rintro e w9 ⟨rfl, rfl⟩)
          | fail)
        refine hR.mono ?_
        rintro e W3 (⟨rfl, hJ3, hk3⟩ | ⟨rfl, hJx3⟩)
        · have HJ3 := Lib.hid hJ3
          have hB3 := hk3.2.1 _ hB1
          have d4 := hB3.cell
          clear hJ3 hk3 hy hR
          gi_wp2_with (first
            | (gi_at_call 73; with_reducible refine (callsIn_wide.2 (HTp.out _)).mono ?_; rintro e w9 ⟨rfl, rfl⟩)
            | (gi_at_call 73; with_reducible refine (callsIn_wide.2 (HTq.out _)).mono ?_; rintro e w9 ⟨rfl, rfl⟩)
            | fail)
          first | go_end0 | refine bodyPost_ret (results_none rfl _ _ _) rfl ?_
          exact ⟨⟨_, rfl⟩, .inl (by rw [HLs.out]; exact HJ3.out)⟩
        · have HX3 := Lib.hid hJx3
          clear hJx3 hy hR
          gi_wp2_with (first
            | (gi_at_call 73; with_reducible refine (callsIn_wide.2 (HTp.out _)).mono ?_; rintro e w9 ⟨rfl, rfl⟩)
            | (gi_at_call 73; with_reducible refine (callsIn_wide.2 (HTq.out _)).mono ?_; rintro e w9 ⟨rfl, rfl⟩)
            | fail)
          first | go_end0 | refine bodyPost_ret (results_none rfl _ _ _) rfl ?_
          exact ⟨⟨_, rfl⟩, .inr ⟨[x], by rw [HLs.out]; exact ⟨_, rfl⟩, HX3.out⟩⟩
    · have hf1 : inn len p = false := by simpa using hb1
      have hone1 : one len p = [] := by unfold one; rw [if_neg hb1]
      rw [hf1] at HTp
      clear hb1
      by_cases hb2 : inn len q = true
      · obtain ⟨y, hqy⟩ : ∃ y : Nat, q = (y : Int) := ⟨q.toNat, by unfold inn at hb2; rw [decide_eq_true_eq] at hb2; omega⟩
        have HQy := Lib.hid hqy
        have hone2 : one len q = [y] := by unfold one; rw [if_pos hb2, hqy, Int.toNat_natCast]
        rw [hb2] at HTq
        clear hqy hb2
        have HLs := Lib.hid (show Z = [y] by rw [HZ.out, if_pos hqp, hone1, hone2]; rfl)
        clear hone1 hone2 hqp
        obtain ⟨fn2, tmps2, assign2, body2, hy2, hR2⟩ := HY.out [] y V HJV.out (by simp)
        rw [← HQy.out] at hy2
        gi_wp2_with (first
          | (gi_at_call 73; with_reducible refine (callsIn_wide.2 (HTp.out _)).mono ?_; rintro e w9 ⟨rfl, rfl⟩)
          | (gi_at_call 73; with_reducible refine (callsIn_wide.2 (HTq.out _)).mono ?_; rintro e w9 ⟨rfl, rfl⟩)
          | fail)
        refine hR2.mono ?_
        rintro e W4 (⟨rfl, hJ4, hk4⟩ | ⟨rfl, hJx4⟩)
        · have HJ4 := Lib.hid hJ4
          clear hJ4 hy2 hR2 hk4
          gi_wp2_with (first
            | (gi_at_call 73; with_reducible refine (callsIn_wide.2 (HTp.out _)).mono ?_; rintro e w9 ⟨rfl, rfl⟩)
            | (gi_at_call 73; with_reducible refine (callsIn_wide.2 (HTq.out _)).mono ?_; rintro e w9 ⟨rfl, rfl⟩)
            | fail)
          first | go_end0 | refine bodyPost_ret (results_none rfl _ _ _) rfl ?_
          exact ⟨⟨_, rfl⟩, .inl (by rw [HLs.out]; exact HJ4.out)⟩
        · have HX4 := Lib.hid hJx4
          clear hJx4 hy2 hR2
          gi_wp2_with (first
            | (gi_at_call 73; with_reducible refine (callsIn_wide.2 (HTp.out _)).mono ?_; rintro e w9 ⟨rfl, rfl⟩)
            | (gi_at_call 73; with_reducible refine (callsIn_wide.2 (HTq.out _)).mono ?_; rintro e w9 ⟨rfl, rfl⟩)
            | fail)
          first | go_end0 | refine bodyPost_ret (results_none rfl _ _ _) rfl ?_
          exact ⟨⟨_, rfl⟩, .inr ⟨[y], by rw [HLs.out]; exact List.prefix_refl _, HX4.out⟩⟩
      · have hf2 : inn len q = false := by simpa using hb2
        have hone2 : one len q = [] := by unfold one; rw [if_neg hb2]
        rw [hf2] at HTq
        clear hb2
        have HLs := Lib.hid (show Z = [] by rw [HZ.out, if_pos hqp, hone1, hone2]; rfl)
        clear hone1 hone2 hqp
        gi_wp2_with (first
          | (gi_at_call 73; with_reducible refine (callsIn_wide.2 (HTp.out _)).mono ?_; rintro e w9 ⟨rfl, rfl⟩)
          | (gi_at_call 73; with_reducible refine (callsIn_wide.2 (HTq.out _)).mono ?_; rintro e w9 ⟨rfl, rfl⟩)
          | fail)
        first | go_end0 | refine bodyPost_ret (results_none rfl _ _ _) rfl ?_
        exact ⟨⟨_, rfl⟩, .inl (by rw [HLs.out]; exact HJV.out)⟩
end Go.Proofs.YtpbdmlipdfdblaaDoor

namespace Go.Proofs.YtpbdmlipdfdblaaDoor
open Go.RowKit Go.Shelf

attribute [local go_sem] Oper.semAt_some

set_option maxRecDepth 100000 in
set_option maxHeartbeats 4000000 in
theorem behind1_next (n l B1 B2 n₀ : Nat) {b off : Nat} {len cap k : Nat} {L : List I5} (hL : L.length = len) (hlen : len ≤ 1000) (hk : k < len) (h73 : (ia L k).op ≠ 73) (hfit : Fit (ia L k)) (J Jx : List Nat → World → Prop) (hJ : ∀ pre W m, J pre W → J pre (W.drewN m))
    (hY : ∀ pre x W, J pre W → pre.length < 2 → YieldAt Fence.wide (n - 1) Tryd.prog l #[.int .i64 ((x : Nat) : Int)] W fun e W' =>
      (e = .returned (.bool true) ∧ J (pre ++ [x]) W' ∧ Kc n₀ B1 B2 W W') ∨ (e = .returned (.bool false) ∧ Jx (pre ++ [x]) W'))
    (W : World) (hI : ∀ i (hi : i < L.length), FiveO W b (off + i * 5) L[i]) (hb1 : Boxed W B1 24 (.slice (some ⟨b, off, none⟩) len cap)) (hb2 : Boxed W B2 3 (.int .i64 (k : Int))) (h0 : J [] W) :
    CallsIn Fence.wide n Tryd.prog 72 #[.func (.yield l) #[] #[], .pointer (some ⟨B1, 0, none⟩), .pointer (some ⟨B2, 0, none⟩)] W fun e W' => (∃ v, e = .returned v) ∧
      (J (prL len (ia L k) k) W' ∨ ∃ pre, pre <+: prL len (ia L k) k ∧ Jx pre W') := by
  have HTk := Lib.hid (fun W => there_any len cap (some ⟨b, off, none⟩) (k : Int) W)
  have h : inn len (k : Int) = true := by unfold inn; simp; omega
  rw [h] at HTk
  have HG := Lib.hid (fun w (h : ∀ i (hi : i < L.length), FiveO w b (off + i * 5) L[i]) => target_any (cap := cap) k hL hk h)
  have HCl := Lib.hid (fun w => class_any hfit.op.1 hfit.op.2 w)
  have H0 := Lib.hid h0
  have HY := Lib.hid hY
  have HJ := Lib.hid hJ
  have HI := Lib.hid hI
  have HB1 := Lib.hid hb1
  have HB2 := Lib.hid hb2
  have c1 := hb1.cell
  have c2 := hb2.cell
  have c3 := (hI k (by omega)).c0
  rw [ia_at (by omega)] at c3
  have hkn : (k : Int) < (len : Int) := by omega
  have hw3 : IntKind.i64.wrap ((k : Int) + 1) = (k : Int) + 1 := by rw [IntKind.wrap_i64]; omega
  have e73 : ((ia L k).op == 73) = false := by simpa using h73
  obtain ⟨p, hp⟩ : ∃ p, min (loV (ia L k) k) (hiV (ia L k) k) = p := ⟨_, rfl⟩
  obtain ⟨q, hq⟩ : ∃ q, max (loV (ia L k) k) (hiV (ia L k) k) = q := ⟨_, rfl⟩
  have hR : prL len (ia L k) k = one len p ++ (if q ≠ p then one len q else []) := by
    unfold prL; rw [if_neg h73, hp, hq]
  obtain ⟨Z, hZ⟩ : ∃ Z, Z = prL len (ia L k) k := ⟨_, rfl⟩
  rw [← hZ]
  have HZ := Lib.hid (hZ.trans hR)
  clear h h0 hb1 hb2 hY hI h73 hJ hR hZ
  have hw : ∀ f, Fence.wide.fn f := fun _ => trivial
  have hd : Fence.wide.depth = none := rfl
  refine callsIn_of_wp Tryd.func72 rfl trivial ?_ rfl
  simp only [Tryd.ntmps72, List.size_toArray, List.length_cons, List.length_nil, Nat.reduceAdd, Nat.reduceSub, Array.replicate_succ, Array.replicate_zero, List.push_toArray, List.append_toArray, List.nil_append, List.cons_append]
  refine wpIn_seq_k (fun K0 hK0 => ?_)
  have HK0 := Lib.hid hK0
  clear hK0
  gi_wp2_with (first
    | (gi_at_call 73; refine (callsIn_wide.2 (HTk.out _)).mono ?_; rintro e w' ⟨rfl, rfl⟩)
    | fail)
  refine HK0.out _ _ ?_
  clear HK0
  refine wpIn_seq_k (fun K0 hK0 => ?_)
  have HK0 := Lib.hid hK0
  clear hK0
  rw [wpIn_wide]
  go_quiet (fail)
  simp only [Exit.then]
  obtain ⟨V, hV⟩ : ∃ V, w'.drewN nq = V := ⟨_, rfl⟩
  have hI' : ∀ i (hi : i < L.length), FiveO V b (off + i * 5) L[i] := by subst hV; exact fun i hi => ⟨(HI.out i hi).c0, (HI.out i hi).c1, (HI.out i hi).c2, (HI.out i hi).c3, (HI.out i hi).c4⟩
  have HGV := Lib.hid (HG.out V hI')
  have hB1 : Boxed V B1 24 (.slice (some ⟨b, off, none⟩) len cap) := by subst hV; exact HB1.out
  have hB2 : Boxed V B2 3 (.int .i64 (k : Int)) := by subst hV; exact HB2.out
  have hJV : J [] V := by subst hV; exact HJ.out _ _ nq H0.out
  have d1 := hB1.cell
  have d2 := hB2.cell
  have d3 : V.cell? ⟨b, off + k * 5, none⟩ = some (.int .i64 (ia L k).op) := by subst hV; exact c3
  rw [hV]
  have HTail := Lib.hid (fun (u3 u6 u7 u8 u9 u10 u11 u12 u13 u14 u15 u16 u17 u18 u19 u20 u21 u22 u23 u24 u25 u26 u27 u28 u29 u30 u31 u32 u33 u34 u35 u36 u37 u38 u39 u40 u41 u42 u43 u44 u45 : Value) => behind1_tail n l B1 B2 n₀ (cap := cap) p q J Jx HY.out V hB1 hJV Z HZ.out (u3 := u3) (u6 := u6) (u7 := u7) (u8 := u8) (u9 := u9) (u10 := u10) (u11 := u11) (u12 := u12) (u13 := u13) (u14 := u14) (u15 := u15) (u16 := u16) (u17 := u17) (u18 := u18) (u19 := u19) (u20 := u20) (u21 := u21) (u22 := u22) (u23 := u23) (u24 := u24) (u25 := u25) (u26 := u26) (u27 := u27) (u28 := u28) (u29 := u29) (u30 := u30) (u31 := u31) (u32 := u32) (u33 := u33) (u34 := u34) (u35 := u35) (u36 := u36) (u37 := u37) (u38 := u38) (u39 := u39) (u40 := u40) (u41 := u41) (u42 := u42) (u43 := u43) (u44 := u44) (u45 := u45))
  clear hV c1 c2 c3 HI HB1 HB2 H0 HG hI' HTk hJV HY HZ HJ
  have HP := Lib.hid hp
  have HQ := Lib.hid hq
  clear hp hq
  unfold loV hiV at HP HQ
  generalize (ia L k).op = op at *
  generalize tg (k : Int) (ia L k).o = t at *
  generalize cls op = c at *
  clear hfit
  refine HK0.out _ _ ?_
  clear HK0
  refine wpIn_seq_k (fun K0 hK0 => ?_)
  have HK0 := Lib.hid hK0
  clear hK0
  by_cases hc : c = 2
  · subst hc
    by_cases h32 : op = 32
    · subst h32
      have ht : p = t := by have h := HP.out; rw [if_pos rfl, if_pos ⟨rfl, rfl⟩] at h; omega
      have hqp : p = q := by have h := HQ.out; rw [if_pos rfl, if_pos ⟨rfl, rfl⟩] at h; omega
      subst hqp
      subst ht
      clear HP HQ e73
      gi_wp2_with (first
        | (gi_at_call 52; refine (callsIn_wide.2 (HCl.out _)).mono ?_; rintro e w9 ⟨rfl, rfl⟩)
        | (gi_at_call 74; refine (callsIn_wide.2 HGV.out).mono ?_; rintro e w9 ⟨rfl, rfl⟩)
        | fail)
      refine HK0.out _ _ ?_
      clear HK0
      refine wpIn_seq_k (fun K0 hK0 => ?_)
      have HK0 := Lib.hid hK0
      clear hK0
      gi_wp2_with fail
      refine HK0.out _ _ ?_
      exact HTail.out _ _ _ _ _ _ _ _ _ _ _ _ _ _ _ _ _ _ _ _ _ _ _ _ _ _ _ _ _ _ _ _ _ _ _ _ _ _ _ _ _
    · have e32 : (op == 32) = false := by simpa using h32
      have hp : min t ((k : Int) + 1) = p := by have h := HP.out; rw [if_pos rfl, if_neg (fun h => h32 h.2)] at h; exact h
      have hq : max t ((k : Int) + 1) = q := by have h := HQ.out; rw [if_pos rfl, if_neg (fun h => h32 h.2)] at h; exact h
      clear HP HQ e73 h32
      rcases Int.lt_trichotomy t ((k : Int) + 1) with hlt | heq | hgt
      · have hk1 : (k : Int) + 1 = q := by omega
        have ht : p = t := by omega
        subst ht
        rw [hk1] at hlt
        have hn : ¬ q < p := by omega
        clear hp hq
        gi_wp2_with (first
          | (gi_at_call 52; refine (callsIn_wide.2 (HCl.out _)).mono ?_; rintro e w9 ⟨rfl, rfl⟩)
          | (gi_at_call 74; refine (callsIn_wide.2 HGV.out).mono ?_; rintro e w9 ⟨rfl, rfl⟩)
          | fail)
        refine HK0.out _ _ ?_
        clear HK0
        refine wpIn_seq_k (fun K0 hK0 => ?_)
        have HK0 := Lib.hid hK0
        clear hK0
        gi_wp2_with fail
        refine HK0.out _ _ ?_
        exact HTail.out _ _ _ _ _ _ _ _ _ _ _ _ _ _ _ _ _ _ _ _ _ _ _ _ _ _ _ _ _ _ _ _ _ _ _ _ _ _ _ _ _
      · have hk1 : (k : Int) + 1 = p := by omega
        have ht : p = t := by omega
        have hqp : p = q := by omega
        subst ht
        subst hqp
        clear hp hq heq
        gi_wp2_with (first
          | (gi_at_call 52; refine (callsIn_wide.2 (HCl.out _)).mono ?_; rintro e w9 ⟨rfl, rfl⟩)
          | (gi_at_call 74; refine (callsIn_wide.2 HGV.out).mono ?_; rintro e w9 ⟨rfl, rfl⟩)
          | fail)
        refine HK0.out _ _ ?_
        clear HK0
        refine wpIn_seq_k (fun K0 hK0 => ?_)
        have HK0 := Lib.hid hK0
        clear hK0
        gi_wp2_with fail
        refine HK0.out _ _ ?_
        exact HTail.out _ _ _ _ _ _ _ _ _ _ _ _ _ _ _ _ _ _ _ _ _ _ _ _ _ _ _ _ _ _ _ _ _ _ _ _ _ _ _ _ _
      · have hk1 : (k : Int) + 1 = p := by omega
        have ht : q = t := by omega
        subst ht
        rw [hk1] at hgt
        have hn : ¬ q < p := by omega
        clear hp hq
        gi_wp2_with (first
          | (gi_at_call 52; refine (callsIn_wide.2 (HCl.out _)).mono ?_; rintro e w9 ⟨rfl, rfl⟩)
          | (gi_at_call 74; refine (callsIn_wide.2 HGV.out).mono ?_; rintro e w9 ⟨rfl, rfl⟩)
          | fail)
        refine HK0.out _ _ ?_
        clear HK0
        refine wpIn_seq_k (fun K0 hK0 => ?_)
        have HK0 := Lib.hid hK0
        clear hK0
        gi_wp2_with fail
        refine HK0.out _ _ ?_
        exact HTail.out _ _ _ _ _ _ _ _ _ _ _ _ _ _ _ _ _ _ _ _ _ _ _ _ _ _ _ _ _ _ _ _ _ _ _ _ _ _ _ _ _
  · have ec : (c == 2) = false := by simpa using hc
    have hp : (k : Int) + 1 = p := by have h := HP.out; rw [if_neg hc, if_neg (fun h => hc h.1)] at h; omega
    have hqp : p = q := by have h := HQ.out; rw [if_neg hc, if_neg (fun h => hc h.1)] at h; omega
    subst hqp
    clear HP HQ e73 hc
    gi_wp2_with (first
      | (gi_at_call 52; refine (callsIn_wide.2 (HCl.out _)).mono ?_; rintro e w9 ⟨rfl, rfl⟩)
      | (gi_at_call 74; refine (callsIn_wide.2 HGV.out).mono ?_; rintro e w9 ⟨rfl, rfl⟩)
      | fail)
    refine HK0.out _ _ ?_
    clear HK0
    refine wpIn_seq_k (fun K0 hK0 => ?_)
    have HK0 := Lib.hid hK0
    clear hK0
    gi_wp2_with fail
    refine HK0.out _ _ ?_
    exact HTail.out _ _ _ _ _ _ _ _ _ _ _ _ _ _ _ _ _ _ _ _ _ _ _ _ _ _ _ _ _ _ _ _ _ _ _ _ _ _ _ _ _
end Go.Proofs.YtpbdmlipdfdblaaDoor

namespace Go.Proofs.YtpbdmlipdfdblaaDoor
open Go.RowKit Go.Shelf

attribute [local go_sem] Oper.semAt_some

theorem behind_stops (n : Nat) {L : List I5} {a : Option Addr} {len cap : Nat} {z : Int} (hL : L.length = len) (hlen : len ≤ 1000) (hfit : ∀ x ∈ L, Fit x) (B1 B2 n₀ : Nat) (w : World)
    (hb1 : Boxed w B1 24 (.slice a len cap)) (hb2 : Boxed w B2 3 (.int .i64 z)) (hI : InsAt w a L) :
    SeqStopsK Fence.wide n Tryd.prog 72 #[.pointer (some ⟨B1, 0, none⟩), .pointer (some ⟨B2, 0, none⟩)] (fun x : Nat => #[Value.int .i64 (x : Int)]) (Kc n₀ B1 B2)
      (fun ys => ys = bhl L z) (fun pre => pre <+: bhl L z) 2 w := fun l J Jx W hW hJ _ hY h0 => by
  have hb1' : Boxed W B1 24 (.slice a len cap) := (hW.block B1 hb1.lt).trans hb1
  have hb2' : Boxed W B2 3 (.int .i64 z) := (hW.block B2 hb2.lt).trans hb2
  have hI' := hI.ch (Ch.of_below (S := []) hW) (by simp)
  cases hz : inn len z with
  | false =>
    refine (behind1_none n l B1 B2 hz W hb1' hb2' h0).mono ?_
    rintro e W' ⟨he, rfl, hj⟩
    refine ⟨he, .inl ⟨[], ?_, hj⟩⟩
    unfold bhl
    rw [hL, hz]; rfl
  | true =>
    obtain ⟨k, rfl⟩ : ∃ k : Nat, z = (k : Int) := ⟨z.toNat, by unfold inn at hz; rw [decide_eq_true_eq] at hz; omega⟩
    have hk : k < len := by unfold inn at hz; rw [decide_eq_true_eq] at hz; omega
    have hbl : bhl L (k : Int) = prL len (ia L k) k := by unfold bhl; rw [hL, hz, if_pos rfl, Int.toNat_natCast]
    rcases hI' with h0 | ⟨b, off, rfl, hc⟩
    · rw [h0] at hL; simp at hL; omega
    · by_cases h73 : (ia L k).op = 73
      · refine (behind1_exit n l B1 B2 hL hk h73 W hc hb1' hb2' h0).mono ?_
        rintro e W' ⟨he, rfl, hj⟩
        refine ⟨he, .inl ⟨[], ?_, hj⟩⟩
        rw [hbl]
        unfold prL
        rw [if_pos h73]
      · have hx : Fit (ia L k) := by rw [← ia_at (by omega)]; exact hfit _ (List.getElem_mem _)
        refine (behind1_next n l B1 B2 n₀ hL hlen hk h73 hx J Jx (fun pre W m h => hJ pre W _ none h (grownBy_drewN W m) (fun r e => by cases e)) hY W hc hb1' hb2' h0).mono ?_
        rintro e W' ⟨he, hj⟩
        refine ⟨he, ?_⟩
        rw [hbl]
        rcases hj with hj | ⟨pre, hp, hj⟩
        · exact .inl ⟨_, rfl, hj⟩
        · exact .inr ⟨pre, hp, hj⟩

theorem own_at {w : World} {b e s : Nat} {v : Value} {n : Nat} {xs : List Value} (h : w.ownsRow b e s v n xs) (g : Nat) (hg : v.ownBlock = some g) : b ≤ g := by
  rcases h.2 with ⟨rfl, _⟩ | ⟨g', cap, cur, rfl, hb, _⟩
  · simp [Value.ownBlock] at hg
  · have : g' = g := by simpa [Value.ownBlock] using hg
    omega
/-- Numbers as the elements of a slice of int. -/
def ivs (l : List Nat) : List Value := l.map fun (i : Nat) => Value.int .i64 (i : Int)

end Go.Proofs.YtpbdmlipdfdblaaDoor
