/-
  Plain: what comes behind an instruction (two ways of telling it), what is reached, what is wrong with a program, and where.
-/
import Derived.Test.YtadogffllkompaaDoorIsN
import Derived.Test.YtadogffllkompaaDoorMaskH
namespace Go.Proofs.YtadogffllkompaaDoor
open Go.RowKit

/-- Is an instruction there? -/
def inn (n : Nat) (z : Int) : Bool := decide (0 ≤ z ∧ z < (n : Int))
/-- Where a jump leads. -/
def tg (a : Int) (o : Int) : Int := wrap64 (wrap64 (a + 1) + o)
def loV (x : I5) (a : Nat) : Int := if cls x.op = 2 then tg a x.o else (a : Int) + 1
def hiV (x : I5) (a : Nat) : Int := if cls x.op = 2 ∧ x.op = 32 then tg a x.o else (a : Int) + 1
/-- One number, if it is there. -/
def one (n : Nat) (z : Int) : List Nat := if inn n z = true then [z.toNat] else []
/-- Those that come behind, as the program tells them: the less one, and the other one. -/
def prL (n : Nat) (x : I5) (a : Nat) : List Nat :=
  if x.op = 73 then [] else one n (min (loV x a) (hiV x a)) ++ (if max (loV x a) (hiV x a) ≠ min (loV x a) (hiV x a) then one n (max (loV x a) (hiV x a)) else [])
/-- Does one come behind, as the document asks it? -/
def bhd (x : I5) (a t : Nat) : Bool := x.op != 73 && ((cls x.op == 2 && (t : Int) - a - 1 == x.o) || (x.op != 32 && t == a + 1))
def nxL (n : Nat) (x : I5) (a : Nat) : List Nat := (List.range n).filter (bhd x a)

theorem one_succ (n : Nat) (z : Int) : one (n + 1) z = one n z ++ (if z = (n : Int) then [n] else []) := by
  unfold one inn
  by_cases h : z = (n : Int)
  · subst h
    rw [if_pos (by simp; omega), if_neg (by simp), if_pos rfl]
    simp
  · rw [if_neg h, List.append_nil]
    by_cases h2 : 0 ≤ z ∧ z < (n : Int)
    · rw [if_pos (by simp; omega), if_pos (by simpa using h2)]
    · rw [if_neg (by simp; omega), if_neg (by simpa using h2)]
theorem two_filter (l h : Int) (hlh : l ≤ h) (n : Nat) : (List.range n).filter (fun t : Nat => decide ((t : Int) = l ∨ (t : Int) = h)) = one n l ++ (if h ≠ l then one n h else []) := by
  induction n with
  | zero =>
    have e : ∀ z, one 0 z = [] := fun z => by unfold one inn; rw [if_neg (by rw [decide_eq_true_eq]; omega)]
    simp [e]
  | succ n ih =>
    rw [List.range_succ, List.filter_append, ih, one_succ, one_succ]
    by_cases h1 : (n : Int) = l
    · subst h1
      have e : one n h = [] := by unfold one inn; rw [if_neg (by simp; omega)]
      by_cases h2 : h = (n : Int)
      · subst h2; simp
      · simp [h2, e]
    · by_cases h2 : (n : Int) = h
      · subst h2
        have h3 : ¬ l = (n : Int) := fun e => h1 e.symm
        have h4 : ¬ (n : Int) = l := h1
        simp [h3, h4]
      · have h3 : ¬ l = (n : Int) := fun e => h1 e.symm
        have h4 : ¬ h = (n : Int) := fun e => h2 e.symm
        simp [h1, h2, h3, h4]
theorem tg_val {a : Nat} {o : Int} (ha : a < 1000) (ho : fit o) : (tg a o = (a : Int) + 1 + o) ∨ (tg a o < -1000 ∧ 9223372036854700000 < o) := by
  obtain ⟨h1, h2⟩ := ho
  unfold tg
  rw [show wrap64 ((a : Int) + 1) = (a : Int) + 1 by unfold wrap64; omega]
  unfold wrap64
  omega
/-- The two ways tell the same. -/
theorem prL_eq {n a : Nat} {x : I5} (ha : a < 1000) (hn : n ≤ 1000) (hx : Fit x) : prL n x a = nxL n x a := by
  unfold prL nxL
  have ht := tg_val ha hx.o
  by_cases h73 : x.op = 73
  · rw [if_pos h73]
    symm
    rw [List.filter_eq_nil_iff]
    intro t _
    simp [bhd, h73]
  · rw [if_neg h73, ← two_filter _ _ (by omega) n]
    apply List.filter_congr
    intro t ht2
    have ht3 : t < n := by simpa using ht2
    rw [Bool.eq_iff_iff, decide_eq_true_iff]
    unfold bhd loV hiV
    simp only [Bool.and_eq_true, Bool.or_eq_true, bne_iff_ne, beq_iff_eq]
    by_cases hc : cls x.op = 2
    · by_cases h32 : x.op = 32
      · have hc2 : cls 32 = 2 := by decide
        simp only [hc2, h32, and_self, if_true, true_and, ne_eq, not_true_eq_false, false_and, or_false]
        constructor <;> intro h <;> omega
      · simp only [hc, h32, and_false, if_true, if_false, true_and, ne_eq, not_false_eq_true, h73]
        constructor <;> intro h <;> omega
    · simp only [hc, false_and, if_false, ne_eq, h73, not_false_eq_true, true_and, false_or]
      have h32 : ¬ x.op = 32 := fun e => hc (by rw [e]; decide)
      simp only [h32, not_false_eq_true, true_and]
      omega
theorem one_len (n : Nat) (z : Int) : (one n z).length ≤ 1 := by unfold one; split <;> simp
theorem prL_len (n : Nat) (x : I5) (a : Nat) : (prL n x a).length ≤ 2 := by
  unfold prL
  split
  · simp
  · have h1 := one_len n (min (loV x a) (hiV x a))
    have h2 := one_len n (max (loV x a) (hiV x a))
    rw [List.length_append]
    split
    · omega
    · simp; omega
theorem nxL_lt {n : Nat} {x : I5} {a t : Nat} (h : t ∈ nxL n x a) : t < n := by simpa using (List.mem_filter.1 h).1
theorem nxL_mem {n : Nat} {x : I5} {a t : Nat} : t ∈ nxL n x a ↔ t < n ∧ bhd x a t = true := by
  unfold nxL
  rw [List.mem_filter, List.mem_range]

/-- The instruction at a place. -/
def ia (L : List I5) (a : Nat) : I5 := L.getD a ⟨0, 0, 0, 0, 0⟩
theorem ia_at {L : List I5} {a : Nat} (h : a < L.length) : L[a] = ia L a := by
  unfold ia
  rw [List.getD_eq_getElem?_getD, List.getElem?_eq_getElem h]; rfl
/-- What is reached, of the first 64. -/
inductive Rch (L : List I5) : Nat → Prop
  | zero (h : 0 < L.length) : Rch L 0
  | step {a t : Nat} (ha : Rch L a) (ht : t < 64) (hb : t ∈ nxL L.length (ia L a) a) : Rch L t
theorem Rch.lt {L : List I5} {t : Nat} (h : Rch L t) : t < 64 ∧ t < L.length := by
  cases h with
  | zero h => exact ⟨by decide, h⟩
  | step ha ht hb => exact ⟨ht, nxL_lt hb⟩
/-- A mask of those that are reached. -/
def RM (L : List I5) (M : Nat) : Prop := M < 18446744073709551616 ∧ ∀ t, M.testBit t = true ↔ Rch L t
theorem RM.same {L : List I5} {M N : Nat} (h : RM L M) (k : RM L N) : M = N := by
  apply Nat.eq_of_testBit_eq
  intro t
  rw [Bool.eq_iff_iff, h.2 t, k.2 t]

/-! ### The program's way: who is reached, and who is open -/
/-- How many of the first 64 are not in a mask. -/
def noN (M : Nat) : Nat := ((List.range 64).filter fun i => !M.testBit i).length
theorem noN_lt {M N a : Nat} (ha : a < 64) (hm : M.testBit a = false) (hn : N.testBit a = true) (h : ∀ i, M.testBit i = true → N.testBit i = true) : noN N < noN M := by
  unfold noN
  have key : ∀ (l : List Nat), a ∈ l → (l.filter fun i => !N.testBit i).length < (l.filter fun i => !M.testBit i).length := by
    have le : ∀ (l : List Nat), (l.filter fun i => !N.testBit i).length ≤ (l.filter fun i => !M.testBit i).length := by
      intro l
      induction l with
      | nil => simp
      | cons y l ih =>
        rw [List.filter_cons, List.filter_cons]
        have := h y
        cases e1 : M.testBit y <;> cases e2 : N.testBit y <;> simp_all <;> omega
    intro l
    induction l with
    | nil => simp
    | cons y l ih =>
      intro hm2
      rw [List.filter_cons, List.filter_cons]
      by_cases e : a = y
      · subst e
        have := le l
        simp [hm, hn]
        omega
      · have hl : a ∈ l := (List.mem_cons.1 hm2).resolve_left e
        have := ih hl
        have := h y
        cases e1 : M.testBit y <;> cases e2 : N.testBit y <;> simp_all <;> omega
  exact key _ (by simpa using ha)
structure WL (L : List I5) (R O : Nat) : Prop where
  rlt : R < 18446744073709551616
  olt : O < 18446744073709551616
  sound : ∀ t, R.testBit t = true ∨ O.testBit t = true → Rch L t
  first : 0 < L.length → R.testBit 0 = true ∨ O.testBit 0 = true
  closed : ∀ a t, R.testBit a = true → t < 64 → t ∈ nxL L.length (ia L a) a → R.testBit t = true ∨ O.testBit t = true
  apart : ∀ t, O.testBit t = true → R.testBit t = false
theorem WL.done {L : List I5} {R O : Nat} (h : WL L R O) (hO : ∀ t, O.testBit t = false) : RM L R := by
  refine ⟨h.rlt, fun t => ⟨fun k => h.sound t (.inl k), fun k => ?_⟩⟩
  induction k with
  | zero k => rcases h.first k with k | k
              · exact k
              · rw [hO] at k; cases k
  | step ha ht hb ih => rcases h.closed _ _ ih ht hb with k | k
                        · exact k
                        · rw [hO] at k; cases k
open Mk
theorem bitv_bit (i t : Nat) (hi : i < 64) : (bitv (i : Int)).testBit t = decide (i = t) := by
  unfold bitv
  rw [if_pos (by omega)]
  simp [Nat.testBit_two_pow]
/-- Those that are open, with those of a list that are not reached. -/
def opn (R O : Nat) (l : List Nat) : Nat := l.foldl (fun (o t : Nat) => if hasb R (t : Int) = true then o else withN o [(t : Int)]) O
theorem opn_snoc (R O : Nat) (l : List Nat) (t : Nat) : opn R O (l ++ [t]) = if hasb R (t : Int) = true then opn R O l else withN (opn R O l) [(t : Int)] := by
  unfold opn
  rw [List.foldl_append]
  rfl
theorem withN_one (o : Nat) (i : Int) : withN o [i] = o ||| bitv i := rfl
theorem opn_lt {R O : Nat} (hO : O < 18446744073709551616) : ∀ (l : List Nat), opn R O l < 18446744073709551616 := by
  intro l
  unfold opn
  induction l generalizing O with
  | nil => exact hO
  | cons t l ih =>
    refine ih ?_
    show (if hasb R (t : Int) = true then O else withN O [(t : Int)]) < _
    split
    · exact hO
    · exact withN_lt _ _ hO
theorem withN_bit (o : Nat) (i : Nat) (t : Nat) : (withN o [(i : Int)]).testBit t = (o.testBit t || (decide (i < 64) && decide (i = t))) := by
  rw [withN_one, Nat.testBit_or]
  by_cases h : i < 64
  · rw [bitv_bit i t h]; simp [h]
  · have : bitv (i : Int) = 0 := by unfold bitv; rw [if_neg (by omega)]
    rw [this]; simp [h]
theorem opn_bit (R O : Nat) (l : List Nat) (t : Nat) : (opn R O l).testBit t = true ↔ O.testBit t = true ∨ (t ∈ l ∧ t < 64 ∧ R.testBit t = false) := by
  unfold opn
  induction l generalizing O with
  | nil => simp
  | cons y l ih =>
    rw [List.foldl_cons, ih]
    have hb : hasb R (y : Int) = (decide (y < 64) && R.testBit y) := by
      unfold hasb
      rw [Int.toNat_natCast]
      congr 1
      rw [decide_eq_decide]
      omega
    by_cases h : hasb R (y : Int) = true
    · rw [if_pos h]
      rw [hb] at h
      simp only [Bool.and_eq_true, decide_eq_true_eq] at h
      constructor
      · rintro (k | ⟨k1, k2⟩)
        · exact .inl k
        · exact .inr ⟨List.mem_cons_of_mem _ k1, k2⟩
      · rintro (k | ⟨k1, k2, k3⟩)
        · exact .inl k
        · rcases List.mem_cons.1 k1 with e | e
          · subst e; rw [h.2] at k3; cases k3
          · exact .inr ⟨e, k2, k3⟩
    · rw [if_neg h, withN_bit]
      rw [hb] at h
      simp only [Bool.and_eq_true, decide_eq_true_eq, not_and, Bool.not_eq_true] at h
      simp only [Bool.or_eq_true, Bool.and_eq_true, decide_eq_true_eq]
      constructor
      · rintro ((k | ⟨k1, k2⟩) | ⟨k1, k2⟩)
        · exact .inl k
        · subst k2; exact .inr ⟨by simp, k1, h k1⟩
        · exact .inr ⟨List.mem_cons_of_mem _ k1, k2⟩
      · rintro (k | ⟨k1, k2, k3⟩)
        · exact .inl (.inl k)
        · rcases List.mem_cons.1 k1 with e | e
          · subst e; exact .inl (.inr ⟨k2, rfl⟩)
          · exact .inr ⟨e, k2, k3⟩
theorem not_bit (M : Nat) (hM : M < 18446744073709551616) (t : Nat) (ht : t < 64) : (18446744073709551615 - M).testBit t = !M.testBit t := by
  have h : 18446744073709551615 - M = 2 ^ 64 - (M + 1) := by omega
  rw [h, Nat.testBit_two_pow_sub_succ (by omega)]
  simp [ht]
theorem withoutN_bit (o i t : Nat) (hi : i < 64) (ho : o < 18446744073709551616) : (withoutN o [(i : Int)]).testBit t = (o.testBit t && !decide (i = t)) := by
  unfold withoutN
  rw [Nat.testBit_and]
  by_cases ht : t < 64
  · rw [not_bit _ (withN_lt 0 _ (by decide)) t ht, withN_bit]
    simp [hi]
  · have : o.testBit t = false := Nat.testBit_lt_two_pow (Nat.lt_of_lt_of_le ho (Nat.pow_le_pow_right (n := 2) (by decide) (show 64 ≤ t by omega)))
    rw [this]; simp
/-- One round: who is open is reached, and those behind it are open. -/
theorem WL.next {L : List I5} {R O a : Nat} (h : WL L R O) (ha : O.testBit a = true) : WL L (withN R [(a : Int)]) (opn (withN R [(a : Int)]) (withoutN O [(a : Int)]) (nxL L.length (ia L a) a)) ∧ noN (withN R [(a : Int)]) < noN R ∧ a < L.length := by
  have hr := h.sound a (.inr ha)
  have ha64 := hr.lt.1
  have hna := h.apart a ha
  have bR : ∀ t, (withN R [(a : Int)]).testBit t = (R.testBit t || decide (a = t)) := fun t => by rw [withN_bit]; simp [ha64]
  have bO := fun t => withoutN_bit O a t ha64 h.olt
  refine ⟨⟨withN_lt _ _ h.rlt, opn_lt (withoutN_lt _ _ h.olt) _, ?_, ?_, ?_, ?_⟩, ?_, hr.lt.2⟩
  · intro t ht
    rcases ht with ht | ht
    · rw [bR] at ht
      simp only [Bool.or_eq_true, decide_eq_true_eq] at ht
      rcases ht with ht | rfl
      · exact h.sound t (.inl ht)
      · exact hr
    · rw [opn_bit, bO] at ht
      rcases ht with ht | ⟨h1, h2, _⟩
      · simp only [Bool.and_eq_true] at ht
        exact h.sound t (.inr ht.1)
      · exact .step hr h2 h1
  · intro h0
    rcases h.first h0 with k | k
    · left; rw [bR, k]; rfl
    · by_cases e : a = 0
      · left; rw [bR]; simp [e]
      · right; rw [opn_bit, bO]; left; simp [k, e]
  · intro b t hb ht hm
    rw [bR] at hb
    simp only [Bool.or_eq_true, decide_eq_true_eq] at hb
    rw [bR, opn_bit, bO]
    by_cases e : a = t
    · left; simp [e]
    · rcases hb with hb | rfl
      · rcases h.closed b t hb ht hm with k | k
        · left; rw [k]; rfl
        · right; left; simp [k, e]
      · cases hRt : R.testBit t with
        | true => left; rfl
        | false => right; right; exact ⟨hm, ht, by rw [bR, hRt]; simp [e]⟩
  · intro t ht
    rw [opn_bit, bO] at ht
    rw [bR]
    rcases ht with ht | ⟨h1, h2, h3⟩
    · simp only [Bool.and_eq_true, Bool.not_eq_true', decide_eq_false_iff_not] at ht
      rw [h.apart t ht.1]
      simp [ht.2]
    · rw [bR] at h3; exact h3
  · exact noN_lt ha64 hna (by rw [bR]; simp) (fun i hi => by rw [bR, hi]; rfl)
theorem WL.start (L : List I5) : WL L 0 (if 0 < L.length then withN 0 [0] else 0) := by
  have e : withN 0 [0] = 1 := by decide
  rw [e]
  refine ⟨by decide, by split <;> decide, ?_, ?_, ?_, ?_⟩
  · intro t ht
    rcases ht with ht | ht
    · simp at ht
    · split at ht
      · rename_i h
        have : t = 0 := by
          rw [show (1 : Nat) = 2 ^ 0 from rfl, Nat.testBit_two_pow] at ht
          exact (show 0 = t by simpa using ht).symm
        subst this
        exact .zero h
      · simp at ht
  · intro h; right; rw [if_pos h]; rfl
  · intro a t ha; simp at ha
  · intro t _; simp
/-- Whom Next of a mask finds. -/
theorem next_some {O : Nat} (hb : nextB O 0 = true) : O.testBit (nextV O 0) = true ∧ nextV O 0 < 64 := by
  unfold nextB nextV at *
  cases h : nextO O 0 with
  | none => rw [h] at hb; cases hb
  | some i =>
    unfold nextO at h
    have h1 := List.mem_of_find?_eq_some h
    unfold Pl.ones at h1
    rw [List.mem_filter, List.mem_range] at h1
    exact ⟨h1.2, h1.1⟩
theorem next_none {O : Nat} (hO : O < 18446744073709551616) (hb : nextB O 0 = false) (t : Nat) : O.testBit t = false := by
  unfold nextB at hb
  cases h : nextO O 0 with
  | some i => rw [h] at hb; cases hb
  | none =>
    unfold nextO at h
    rw [List.find?_eq_none] at h
    by_cases ht : t < 64
    · cases hx : O.testBit t with
      | false => rfl
      | true =>
        have := h t (by unfold Pl.ones; rw [List.mem_filter, List.mem_range]; exact ⟨ht, hx⟩)
        simp at this
    · exact Nat.testBit_lt_two_pow (Nat.lt_of_lt_of_le hO (Nat.pow_le_pow_right (n := 2) (by decide) (show 64 ≤ t by omega)))

/-! ### The document's way: so many rounds -/
def cnt (bs : List Bool) : Nat := bs.count true
theorem cnt_set {bs : List Bool} {t : Nat} (ht : t < bs.length) (h : bs[t] = false) : cnt (bs.set t true) = cnt bs + 1 := by
  unfold cnt
  induction bs generalizing t with
  | nil => simp at ht
  | cons b bs ih =>
    cases t with
    | zero =>
      have hb : b = false := h
      subst hb
      simp
    | succ t =>
      rw [List.set_cons_succ, List.count_cons, List.count_cons, ih (by simpa using ht) (by simpa using h)]
      omega
theorem cnt_le (bs : List Bool) : ∀ (m : Nat), (∀ t (ht : t < bs.length), bs[t] = true → t < m) → cnt bs ≤ m := by
  unfold cnt
  intro m
  induction bs generalizing m with
  | nil => simp
  | cons b bs ih =>
    intro h
    cases m with
    | zero =>
      have hb : b = false := by
        cases hb : b with
        | false => rfl
        | true => have := h 0 (by simp) hb; omega
      have := ih 0 (fun t ht h2 => by have := h (t + 1) (by simpa using ht) h2; omega)
      rw [List.count_cons, hb]; simp; simpa using this
    | succ m =>
      have := ih m (fun t ht h2 => by have := h (t + 1) (by simpa using ht) h2; omega)
      rw [List.count_cons]
      split <;> omega
/-- Is each behind one that is in it in it, as far as places are looked at? -/
def clo (L : List I5) (n : Nat) (bs : List Bool) (a t : Nat) : Prop := ∀ a' t', a' < n → t' < n → (a' < a ∨ a' = a ∧ t' < t) → bs.getD a' false = true → bhd (ia L a') a' t' = true → bs.getD t' false = true
/-- Behind so many rounds (r), and so many places. -/
structure Rd (L : List I5) (n : Nat) (bs : List Bool) (r a t : Nat) : Prop where
  len : bs.length = 64
  sound : ∀ t, bs.getD t false = true → Rch L t
  first : 0 < n → bs.getD 0 false = true
  more : clo L n bs n 0 ∨ r + 2 ≤ cnt bs ∨ (r + 1 ≤ cnt bs ∧ clo L n bs a t)
theorem getD_set_bool (bs : List Bool) (i j : Nat) (hi : i < bs.length) : (bs.set i true).getD j false = (decide (i = j) || bs.getD j false) := by
  rw [List.getD_eq_getElem?_getD, List.getElem?_set, List.getD_eq_getElem?_getD]
  by_cases h : i = j
  · subst h; simp [hi]
  · simp [h]
theorem Rd.keep {L : List I5} {n r a t : Nat} {bs : List Bool} (h : Rd L n bs r a t) (hk : bs.getD a false = true → bhd (ia L a) a t = true → bs.getD t false = true) : Rd L n bs r a (t + 1) := by
  refine ⟨h.len, h.sound, h.first, ?_⟩
  rcases h.more with k | k | ⟨k1, k2⟩
  · exact .inl k
  · exact .inr (.inl k)
  · refine .inr (.inr ⟨k1, fun a' t' ha ht hlt hb hd => ?_⟩)
    by_cases e : a' = a ∧ t' = t
    · obtain ⟨rfl, rfl⟩ := e
      exact hk hb hd
    · exact k2 a' t' ha ht (by omega) hb hd
theorem Rd.put {L : List I5} {n r a t : Nat} {bs : List Bool} (h : Rd L n bs r a t) (hn : n ≤ 64) (hn2 : n ≤ L.length) (ha : a < n) (ht : t < n) (hb : bs.getD a false = true) (hd : bhd (ia L a) a t = true) : Rd L n (bs.set t true) r a (t + 1) := by
  have hlen := h.len
  have htl : t < bs.length := by omega
  by_cases hin : bs.getD t false = true
  · have e : bs.set t true = bs := by
      apply List.ext_getElem (by simp)
      intro i h1 h2
      rw [List.getElem_set]
      split
      · rename_i e2; subst e2
        rw [List.getD_eq_getElem?_getD, List.getElem?_eq_getElem htl] at hin
        exact hin.symm
      · rfl
    rw [e]
    exact h.keep (fun _ _ => hin)
  · have hg : bs[t] = false := by
      rw [List.getD_eq_getElem?_getD, List.getElem?_eq_getElem htl] at hin
      simpa using hin
    have hc := cnt_set htl hg
    refine ⟨by simpa using hlen, fun j hj => ?_, fun h0 => ?_, ?_⟩
    · rw [getD_set_bool _ _ _ htl] at hj
      simp only [Bool.or_eq_true, decide_eq_true_eq] at hj
      rcases hj with rfl | hj
      · exact .step (h.sound a hb) (by omega) (nxL_mem.2 ⟨by omega, hd⟩)
      · exact h.sound j hj
    · rw [getD_set_bool _ _ _ htl, h.first h0]; simp
    · rw [hc]
      rcases h.more with k | k | ⟨k1, k2⟩
      · exact absurd (k a t ha ht (by omega) hb hd) hin
      · exact .inr (.inl (by omega))
      · exact .inr (.inl (by omega))
theorem Rd.row {L : List I5} {n r a : Nat} {bs : List Bool} (h : Rd L n bs r a n) : Rd L n bs r (a + 1) 0 := by
  refine ⟨h.len, h.sound, h.first, ?_⟩
  rcases h.more with k | k | ⟨k1, k2⟩
  · exact .inl k
  · exact .inr (.inl k)
  · exact .inr (.inr ⟨k1, fun a' t' ha ht hlt hb hd => k2 a' t' ha ht (by omega) hb hd⟩)
theorem Rd.round {L : List I5} {n r : Nat} {bs : List Bool} (h : Rd L n bs r n 0) : Rd L n bs (r + 1) 0 0 := by
  refine ⟨h.len, h.sound, h.first, ?_⟩
  rcases h.more with k | k | ⟨k1, k2⟩
  · exact .inl k
  · exact .inr (.inr ⟨k, fun a' t' _ _ hlt => by omega⟩)
  · exact .inl k2
/-- Behind all rounds: just those that are reached. -/
theorem Rd.done {L : List I5} {n : Nat} {bs : List Bool} (hn : n = min L.length 64) (h : Rd L n bs n 0 0) (t : Nat) : bs.getD t false = true ↔ Rch L t := by
  refine ⟨h.sound t, fun k => ?_⟩
  have hc : cnt bs ≤ n := cnt_le bs n (fun t ht h2 => by
    have := (h.sound t (by rw [List.getD_eq_getElem?_getD, List.getElem?_eq_getElem ht]; exact h2)).lt
    omega)
  have hcl : clo L n bs n 0 := by
    rcases h.more with k | k | ⟨k1, k2⟩
    · exact k
    · omega
    · omega
  induction k with
  | zero h0 => exact h.first (by omega)
  | step ha ht hb ih =>
    have h1 := ha.lt
    have h2 := nxL_mem.1 hb
    exact hcl _ _ (by omega) (by omega) (by omega) ih h2.2
theorem wordN_bit (bs : List Bool) : ∀ t, (wordN bs).testBit t = bs.getD t false := by
  induction bs with
  | nil => intro t; simp [wordN]
  | cons b bs ih =>
    intro t
    have e : wordN (b :: bs) = wordN bs * 2 + b.toNat := rfl
    rw [e]
    cases t with
    | zero => cases b <;> simp [Nat.testBit_zero] <;> omega
    | succ t =>
      rw [Nat.testBit_succ, show (wordN bs * 2 + b.toNat) / 2 = wordN bs by cases b <;> simp <;> omega, ih]
      rfl
theorem rm_word {L : List I5} {bs : List Bool} (hl : bs.length = 64) (h : ∀ t, bs.getD t false = true ↔ Rch L t) : RM L (wordN bs) :=
  ⟨by have := wordN_lt bs; rw [hl] at this; exact this, fun t => by rw [wordN_bit, h]⟩

/-! ### What is wrong -/
def hlp (z : Int) : Bool := decide (1 ≤ z ∧ z ≤ 16)
def astr (n : Nat) (x : I5) (a : Nat) : Bool :=
  if cls x.op = 2 then !inn n (tg a x.o) else if cls x.op = 3 then decide (x.o < 0) || decide ((if x.op = 64 ∨ x.op = 65 then 8 else 4) ≤ x.o) else false
def wrg (n : Nat) (sl : Bool) (x : I5) (a : Nat) : Int :=
  if astr n x a = true then 2 else if x.op = 72 ∧ hlp x.i = false then 4 else if x.op = 72 ∧ x.i = 16 ∧ sl = false then 17
  else if a + 1 = n ∧ x.op ≠ 73 ∧ x.op ≠ 32 then 10 else 0
open Classical in
noncomputable def rb (L : List I5) (t : Nat) : Bool := decide (Rch L t)
theorem rb_iff {L : List I5} {t : Nat} : rb L t = true ↔ Rch L t := by unfold rb; simp
theorem rb_mask {L : List I5} {M t : Nat} (h : RM L M) : hasb M (t : Int) = rb L t := by
  rw [Bool.eq_iff_iff, rb_iff, ← h.2 t]
  unfold hasb
  simp only [Bool.and_eq_true, decide_eq_true_eq, Int.toNat_natCast]
  refine ⟨fun k => k.2, fun k => ⟨?_, k⟩⟩
  have := ((h.2 t).1 k).lt.1
  omega
/-- What each of the three looks tells of a place. -/
noncomputable def lk (L : List I5) (sl : Bool) (k a : Nat) : Int :=
  if k = 0 then chk (ia L a) else if k = 1 then wrg L.length sl (ia L a) a else if rb L a = true then 0 else 19
/-- The first place where something is told. -/
def look (f : Nat → Int) (n : Nat) : Option Nat := (List.range n).find? fun a => f a != 0
theorem look_some {f : Nat → Int} {n a : Nat} (ha : a < n) (h : f a ≠ 0) (hl : ∀ b, b < a → f b = 0) : look f n = some a := by
  unfold look
  have e : List.range n = List.range a ++ (a :: (List.range (n - a - 1)).map (a + 1 + ·)) := by
    have e1 : n = a + ((n - a - 1) + 1) := by omega
    conv => lhs; rw [e1, List.range_add, List.range_succ_eq_map]
    simp [List.map_map, Function.comp_def]
    intro b _
    omega
  rw [e, List.find?_append]
  have e2 : (List.range a).find? (fun a => f a != 0) = none := by
    rw [List.find?_eq_none]; intro x hx; simp [hl x (by simpa using hx)]
  rw [e2]
  simp [h]
theorem look_none {f : Nat → Int} {n : Nat} (hl : ∀ b, b < n → f b = 0) : look f n = none := by
  unfold look
  rw [List.find?_eq_none]; intro x hx; simp [hl x (by simpa using hx)]
/-- Where something is wrong, and what. -/
noncomputable def res (L : List I5) (sl : Bool) : Nat × Int :=
  if L.length < 1 ∨ 64 < L.length then (0, 8) else
  match look (lk L sl 0) L.length with
  | some a => (a, lk L sl 0 a)
  | none => match look (lk L sl 1) L.length with
    | some a => (a, lk L sl 1 a)
    | none => match look (lk L sl 2) L.length with
      | some a => (a, lk L sl 2 a)
      | none => (0, 0)
theorem res_long {L : List I5} {sl : Bool} (h : L.length < 1 ∨ 64 < L.length) : res L sl = (0, 8) := by unfold res; rw [if_pos h]
/-- The k-th look is the first that tells of something. -/
theorem res_at {L : List I5} {sl : Bool} (h : ¬ (L.length < 1 ∨ 64 < L.length)) {k a : Nat} (hk : k < 3) (ha : a < L.length) (hz : lk L sl k a ≠ 0) (hl : ∀ b, b < a → lk L sl k b = 0) (hq : ∀ j, j < k → ∀ b, b < L.length → lk L sl j b = 0) : res L sl = (a, lk L sl k a) := by
  unfold res
  rw [if_neg h]
  obtain rfl | rfl | rfl : k = 0 ∨ k = 1 ∨ k = 2 := by omega
  · rw [look_some ha hz hl]
  · rw [look_none (hq 0 (by omega)), look_some ha hz hl]
  · rw [look_none (hq 0 (by omega)), look_none (hq 1 (by omega)), look_some ha hz hl]
theorem res_ok {L : List I5} {sl : Bool} (h : ¬ (L.length < 1 ∨ 64 < L.length)) (hq : ∀ j, j < 3 → ∀ b, b < L.length → lk L sl j b = 0) : res L sl = (0, 0) := by
  unfold res
  rw [if_neg h, look_none (hq 0 (by omega)), look_none (hq 1 (by omega)), look_none (hq 2 (by omega))]
theorem look_val {f : Nat → Int} {n a : Nat} (h : look f n = some a) : f a ≠ 0 := by
  unfold look at h
  have := List.find?_some h
  simpa using this
theorem look_no {f : Nat → Int} {n : Nat} (h : look f n = none) : ∀ b, b < n → f b = 0 := by
  unfold look at h
  rw [List.find?_eq_none] at h
  intro b hb
  simpa using h b (by simpa using hb)
/-- Of a right program nothing is told. -/
theorem res_right {L : List I5} {sl : Bool} (h : (res L sl).2 = 0) : 1 ≤ L.length ∧ L.length ≤ 64 ∧ ∀ j, j < 3 → ∀ b, b < L.length → lk L sl j b = 0 := by
  by_cases hl : L.length < 1 ∨ 64 < L.length
  · rw [res_long hl] at h; cases h
  · unfold res at h
    rw [if_neg hl] at h
    cases h0 : look (lk L sl 0) L.length with
    | some a => rw [h0] at h; exact absurd h (look_val h0)
    | none =>
      cases h1 : look (lk L sl 1) L.length with
      | some a => rw [h0, h1] at h; exact absurd h (look_val h1)
      | none =>
        cases h2 : look (lk L sl 2) L.length with
        | some a => rw [h0, h1, h2] at h; exact absurd h (look_val h2)
        | none =>
          refine ⟨by omega, by omega, fun j hj => ?_⟩
          obtain rfl | rfl | rfl : j = 0 ∨ j = 1 ∨ j = 2 := by omega
          · exact look_no h0
          · exact look_no h1
          · exact look_no h2
end Go.Proofs.YtadogffllkompaaDoor
