/-
  Plain mathematics: the program's masks against the document's lists of bools.
-/
import Derived.Test.YtajpjmnkjpildaaDoorMaskH
namespace Go.Proofs.YtajpjmnkjpildaaDoor

theorem bl_length (x : Nat) : (bl x).length = 64 := by simp [bl]
theorem bl_get (x i : Nat) (hi : i < 64) : (bl x)[i]?.getD false = x.testBit i := by simp [bl, hi]
theorem bl_ext {a b : Nat} (h : ∀ i, i < 64 → a.testBit i = b.testBit i) : bl a = bl b := by
  unfold bl
  apply List.map_congr_left
  intro i hi
  exact h i (by simpa using hi)
theorem testBit_high {x i : Nat} (hx : x < 18446744073709551616) (hi : 64 ≤ i) : x.testBit i = false := by
  apply Nat.testBit_lt_two_pow
  exact Nat.lt_of_lt_of_le (show x < 2 ^ 64 by simpa using hx) (Nat.pow_le_pow_right (by decide) hi)
theorem eq_of_bits {a b : Nat} (ha : a < 18446744073709551616) (hb : b < 18446744073709551616) (h : ∀ i, i < 64 → a.testBit i = b.testBit i) : a = b := by
  apply Nat.eq_of_testBit_eq
  intro i
  by_cases hi : i < 64
  · exact h i hi
  · rw [testBit_high ha (by omega), testBit_high hb (by omega)]

theorem bitv_test (i : Int) (j : Nat) (hj : j < 64) : (bitv i).testBit j = decide (i = (j : Int)) := by
  unfold bitv
  by_cases h : 0 ≤ i ∧ i < 64
  · rw [if_pos h, Nat.testBit_two_pow]
    congr 1
    apply propext
    constructor
    · intro e; omega
    · intro e; omega
  · rw [if_neg h]
    have e : i ≠ (j : Int) := by omega
    simp [e]

/-- Which numbers are in a list of ints. -/
def memb (zs : List Int) (j : Nat) : Bool := zs.any fun z => decide (z = (j : Int))

theorem withN_test (zs : List Int) (j : Nat) (hj : j < 64) : ∀ (m : Nat), (withN m zs).testBit j = (m.testBit j || memb zs j) := by
  induction zs with
  | nil => intro m; simp [withN, memb]
  | cons z zs ih =>
    intro m
    have e : withN m (z :: zs) = withN (m ||| bitv z) zs := rfl
    rw [e, ih, Nat.testBit_or, bitv_test z j hj]
    simp [memb, Bool.or_assoc]

theorem putB_length (zs : List Int) (v : Bool) : ∀ (bs : List Bool), (putB bs zs v).length = bs.length := by
  induction zs with
  | nil => intro bs; rfl
  | cons z zs ih =>
    intro bs
    have e : putB bs (z :: zs) v = putB (if 0 ≤ z ∧ z < 64 then bs.set z.toNat v else bs) zs v := rfl
    rw [e, ih]
    split <;> simp

theorem putB_get (zs : List Int) (v : Bool) (j : Nat) (hj : j < 64) : ∀ (bs : List Bool), bs.length = 64 → (putB bs zs v)[j]?.getD false = if memb zs j = true then v else bs[j]?.getD false := by
  induction zs with
  | nil => intro bs _; simp [putB, memb]
  | cons z zs ih =>
    intro bs hl
    have e : putB bs (z :: zs) v = putB (if 0 ≤ z ∧ z < 64 then bs.set z.toNat v else bs) zs v := rfl
    rw [e, ih _ (by split <;> simp [hl])]
    have em : memb (z :: zs) j = (decide (z = (j : Int)) || memb zs j) := by simp [memb]
    rw [em]
    cases h1 : memb zs j
    · by_cases h2 : z = (j : Int)
      · subst h2
        have : (0 : Int) ≤ (j : Int) ∧ (j : Int) < 64 := by omega
        rw [if_pos this]
        simp [hl, hj]
      · by_cases h3 : 0 ≤ z ∧ z < 64
        · have hne : z.toNat ≠ j := by omega
          rw [if_pos h3]
          simp [h2, hne]
        · rw [if_neg h3]
          simp [h2]
    · simp

theorem list_ext64 {a b : List Bool} (ha : a.length = 64) (hb : b.length = 64) (h : ∀ j, j < 64 → a[j]?.getD false = b[j]?.getD false) : a = b := by
  apply List.ext_getElem (by rw [ha, hb])
  intro i h1 h2
  have := h i (by omega)
  simpa [h1, h2] using this

theorem bl_with (m : Nat) (zs : List Int) : putB (bl m) zs true = bl (withN m zs) := by
  refine list_ext64 (by rw [putB_length, bl_length]) (bl_length _) fun j hj => ?_
  rw [putB_get zs true j hj _ (bl_length m), bl_get _ _ hj, bl_get _ _ hj, withN_test zs j hj]
  cases memb zs j <;> simp

theorem not_test (x j : Nat) (hx : x < 18446744073709551616) (hj : j < 64) : (18446744073709551615 - x).testBit j = !x.testBit j := by
  have e : 18446744073709551615 - x = 2 ^ 64 - (x + 1) := by omega
  rw [e, Nat.testBit_two_pow_sub_succ (by simpa using hx)]
  simp [hj]

theorem bl_without (m : Nat) (zs : List Int) : putB (bl m) zs false = bl (withoutN m zs) := by
  refine list_ext64 (by rw [putB_length, bl_length]) (bl_length _) fun j hj => ?_
  rw [putB_get zs false j hj _ (bl_length m), bl_get _ _ hj, bl_get _ _ hj, withoutN, Nat.testBit_and, not_test _ _ (withN_lt 0 zs (by decide)) hj, withN_test zs j hj]
  cases memb zs j <;> simp

theorem wordN_test (bs : List Bool) : ∀ (j : Nat), (wordN bs).testBit j = bs[j]?.getD false := by
  induction bs with
  | nil => intro j; simp [wordN]
  | cons b r ih =>
    intro j
    have e : wordN (b :: r) = wordN r * 2 + b.toNat := rfl
    rw [e]
    cases j with
    | zero => cases b <;> simp [Nat.testBit_zero] <;> omega
    | succ j =>
      rw [Nat.testBit_succ]
      have e2 : (wordN r * 2 + b.toNat) / 2 = wordN r := by cases b <;> simp <;> omega
      rw [e2, ih]
      simp
theorem word_bl (x : Nat) (hx : x < 18446744073709551616) : wordN (bl x) = x := by
  have hl := wordN_lt (bl x)
  rw [bl_length] at hl
  refine eq_of_bits (by simpa using hl) hx fun i hi => ?_
  rw [wordN_test, bl_get _ _ hi]

theorem rlist_bl (x : Nat) : rlistTo (bl x) 64 = Pl.ones x := by
  unfold rlistTo Pl.ones
  apply List.filter_congr
  intro i hi
  exact bl_get x i (by simpa using hi)

theorem find_congr {p q : Nat → Bool} : ∀ {l : List Nat}, (∀ i ∈ l, p i = q i) → l.find? p = l.find? q
  | [], _ => rfl
  | a :: l, h => by
    have ha := h a (by simp)
    have hl := find_congr (l := l) (fun i hi => h i (by simp [hi]))
    simp [List.find?_cons, ha, hl]

theorem ref_next (m : Nat) (from' : Int) : refO (bl m) from' = nextO m from' := by
  unfold refO nextO Pl.ones
  rw [List.find?_filter]
  apply find_congr
  intro i hi
  rw [bl_get m i (by simpa using hi), Bool.and_comm]
  simp
theorem refV_eq (m : Nat) (from' : Int) : refV (bl m) from' = nextV m from' := by unfold refV nextV; rw [ref_next]
theorem refB_eq (m : Nat) (from' : Int) : refB (bl m) from' = nextB m from' := by unfold refB nextB; rw [ref_next]
theorem rarV_eq (m : Nat) (from' : Int) : rarV (bl m) from' = aroundV m from' := by unfold rarV aroundV; rw [refB_eq, refV_eq, refV_eq]
theorem rarB_eq (m : Nat) (from' : Int) : rarB (bl m) from' = aroundB m from' := by unfold rarB aroundB; rw [refB_eq, refB_eq]

theorem rotl_test (x s j : Nat) (hx : x < 18446744073709551616) (hs : s < 64) (hj : j < 64) : (rotl x s).testBit j = x.testBit ((j + (64 - s)) % 64) := by
  have e : (18446744073709551616 : Nat) = 2 ^ 64 := by decide
  unfold rotl
  rw [Nat.testBit_or, e, Nat.testBit_mod_two_pow, Nat.testBit_mul_two_pow, Nat.testBit_div_two_pow]
  by_cases h : s ≤ j
  · have e1 : (j + (64 - s)) % 64 = j - s := by omega
    have e2 : x.testBit (j + (64 - s)) = false ∨ s = 0 := by
      by_cases h0 : s = 0
      · exact .inr h0
      · exact .inl (testBit_high hx (by omega))
    rw [e1]
    rcases e2 with e2 | e2
    · simp [hj, h, e2]
    · subst e2
      have : x.testBit (j + 64) = false := testBit_high hx (by omega)
      simp [hj, this]
  · have e1 : (j + (64 - s)) % 64 = j + (64 - s) := by omega
    rw [e1]
    simp [h]

theorem turnN_test (x : Nat) (n : Int) (j : Nat) (hx : x < 18446744073709551616) (hj : j < 64) : (turnN x n).testBit j = x.testBit ((j + (n % 64).toNat) % 64) := by
  unfold turnN
  rw [rotl_test x _ j hx (by omega) hj]
  congr 1
  omega

theorem turn_bl (x : Nat) (n : Int) (hx : x < 18446744073709551616) : rturnL (bl x) n = bl (turnN x n) := by
  unfold rturnL rturnTo bl
  apply List.map_congr_left
  intro j hj
  have hj : j < 64 := by simpa using hj
  have hlt : (j + (n % 64).toNat) % 64 < 64 := Nat.mod_lt _ (by decide)
  rw [turnN_test x n j hx hj]
  have := bl_get x _ hlt
  unfold bl at this
  rw [this]
  simp [hlt]

theorem turn_back (x : Nat) (n k : Int) (hx : x < 18446744073709551616) (hk : (k + n) % 64 = 0) : turnN (turnN x n) k = x := by
  refine eq_of_bits (turnN_lt _ _ (turnN_lt _ _ hx)) hx fun i hi => ?_
  rw [turnN_test _ k i (turnN_lt _ _ hx) hi, turnN_test x n _ hx (Nat.mod_lt _ (by decide))]
  congr 1
  omega

theorem cnt_rot (p : Nat → Bool) (k : Nat) (hk : k < 64) : ((List.range 64).filter fun j => p ((j + k) % 64)).length = ((List.range 64).filter p).length := by
  have e1 : List.range 64 = List.range (64 - k) ++ (List.range k).map ((64 - k) + ·) := by
    rw [← List.range_add]; congr 1; omega
  have e2 : List.range 64 = List.range k ++ (List.range (64 - k)).map (k + ·) := by
    rw [← List.range_add]; congr 1; omega
  have l1 : ((List.range 64).filter fun j => p ((j + k) % 64)).length = ((List.range (64 - k)).filter fun j => p (k + j)).length + ((List.range k).filter p).length := by
    rw [e1, List.filter_append, List.length_append, List.filter_map, List.length_map]
    congr 2
    · apply List.filter_congr
      intro j hj
      have : j < 64 - k := by simpa using hj
      rw [show (j + k) % 64 = k + j by omega]
    · apply List.filter_congr
      intro j hj
      have : j < k := by simpa using hj
      show p ((64 - k + j + k) % 64) = p j
      rw [show (64 - k + j + k) % 64 = j by omega]
  have l2 : ((List.range 64).filter p).length = ((List.range k).filter p).length + ((List.range (64 - k)).filter fun j => p (k + j)).length := by
    conv => lhs; rw [e2]
    rw [List.filter_append, List.length_append, List.filter_map, List.length_map]
    rfl
  omega

theorem pc_turn (x : Nat) (n : Int) (hx : x < 18446744073709551616) : Pl.pc (turnN x n) = Pl.pc x := by
  rw [Pl.pc_ones, Pl.pc_ones]
  unfold Pl.ones
  rw [← cnt_rot (fun i => x.testBit i) (n % 64).toNat (by omega)]
  congr 1
  apply List.filter_congr
  intro j hj
  exact turnN_test x n j hx (by simpa using hj)
end Go.Proofs.YtajpjmnkjpildaaDoor
