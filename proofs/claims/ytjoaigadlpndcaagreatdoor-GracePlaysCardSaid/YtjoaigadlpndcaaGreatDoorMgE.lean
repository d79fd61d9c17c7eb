/-
  Plain: a scan's holdouts; the order in which a poll looks at them; what is left behind it.
  A scan in memory: New, Began, Left, Done, Place, hasEnded.
  A scan: Quiet, Poll.
-/
import Derived.Test.YtjoaigadlpndcaaGreatDoorMgC
import Derived.Test.YtjoaigadlpndcaaGreatDoorMgB
import Derived.Test.YtjoaigadlpndcaaGreatDoorMgD
import Derived.WalkMore
namespace Go.Proofs.YtjoaigadlpndcaaGreatDoor

/-- How many of the first k are such. -/
def cntN (p : Nat → Bool) (k : Nat) : Nat := ((List.range k).filter p).length
theorem cntN_succ (p : Nat → Bool) (k : Nat) : cntN p (k + 1) = cntN p k + (if p k = true then 1 else 0) := by
  unfold cntN
  rw [List.range_succ, List.filter_append, List.length_append]
  cases h : p k <;> simp [h]
theorem cntN_le (p : Nat → Bool) (k : Nat) : cntN p k ≤ k := by
  have := List.length_filter_le p (List.range k)
  simpa [cntN] using this
theorem ones_msk (p : Nat → Bool) : Pl.ones (mskN p) = (List.range 64).filter p := by
  unfold Pl.ones
  refine List.filter_congr fun i hi => ?_
  rw [mskN_test, decide_eq_true (List.mem_range.1 hi), Bool.true_and]
theorem pc_msk (p : Nat → Bool) : Pl.pc (mskN p) = cntN p 64 := by rw [Pl.pc_ones, ones_msk]; rfl
theorem cntN_congr {p q : Nat → Bool} {k : Nat} (h : ∀ i, i < k → p i = q i) : cntN p k = cntN q k := by
  unfold cntN
  rw [List.filter_congr fun i hi => h i (List.mem_range.1 hi)]
theorem cntN_zero {p : Nat → Bool} : ∀ {k : Nat}, cntN p k = 0 ↔ ∀ i, i < k → p i = false
  | 0 => ⟨fun _ i hi => by omega, fun _ => rfl⟩
  | k + 1 => by
    rw [cntN_succ]
    have ih := cntN_zero (p := p) (k := k)
    constructor
    · intro h i hi
      cases hk : p k
      · by_cases e : i = k
        · rw [e, hk]
        · exact ih.1 (by omega) i (by omega)
      · rw [hk] at h; simp at h
    · intro h
      rw [h k (by omega), ih.2 fun i hi => h i (by omega)]
      rfl
theorem msk_zero {p : Nat → Bool} : mskN p = 0 ↔ cntN p 64 = 0 := by
  rw [cntN_zero]
  constructor
  · intro h i hi
    have := mskN_test p i
    rw [h, Nat.zero_testBit, decide_eq_true hi, Bool.true_and] at this
    exact this.symm
  · exact mskN_none

/-- Without one. -/
def rmv (p : Nat → Bool) (r : Int) : Nat → Bool := fun i => p i && !decide ((i : Int) = r)
theorem rmv_msk (p : Nat → Bool) (r : Int) : Mk.withoutN (mskN p) [r] = mskN (rmv p r) := by
  apply Nat.eq_of_testBit_eq
  intro i
  rw [without_test (mskN_lt _), mskN_test, mskN_test, rmv, Bool.and_assoc]
  simp
theorem rmv_cnt {p : Nat → Bool} {r : Nat} (hp : p r = true) : ∀ k, cntN (rmv p (r : Int)) k + (if r < k then 1 else 0) = cntN p k
  | 0 => by simp [cntN]
  | k + 1 => by
    have ih := rmv_cnt hp k
    rw [cntN_succ, cntN_succ]
    by_cases e : k = r
    · subst e
      rw [if_neg (Nat.lt_irrefl k)] at ih
      rw [hp]
      simp [rmv]
      omega
    · have e2 : rmv p (r : Int) k = p k := by simp [rmv, show ¬ (k : Int) = (r : Int) by omega]
      rw [e2]
      by_cases h : r < k
      · rw [if_pos h] at ih
        rw [if_pos (by omega : r < k + 1)]
        omega
      · rw [if_neg h] at ih
        rw [if_neg (by omega : ¬ r < k + 1)]
        omega
theorem rmv_none {p : Nat → Bool} {r : Int} (h : ∀ i : Nat, (i : Int) = r → p i = false) : rmv p r = p := by
  funext i
  unfold rmv
  by_cases e : (i : Int) = r
  · rw [h i e, Bool.false_and]
  · rw [decide_eq_false e]; simp

theorem nextO_iff {p : Nat → Bool} {f : Int} {r : Nat} : Mk.nextO (mskN p) f = some r ↔ (p r = true ∧ f ≤ (r : Int)) ∧ r < 64 ∧ ∀ j, j < r → ¬ (p j = true ∧ f ≤ (j : Int)) := by
  unfold Mk.nextO
  rw [ones_msk, List.find?_filter, List.find?_range_eq_some]
  simp
  intro _ _ _
  constructor
  · intro h j hj hp
    rcases h j hj with h | h
    · rw [hp] at h; cases h
    · exact h
  · intro h j hj
    cases hp : p j
    · exact .inl rfl
    · exact .inr (h j hj hp)
theorem nextO_none' {p : Nat → Bool} {f : Int} (h : ∀ j, j < 64 → ¬ (p j = true ∧ f ≤ (j : Int))) : Mk.nextO (mskN p) f = none := by
  cases e : Mk.nextO (mskN p) f with
  | none => rfl
  | some r =>
    have := nextO_iff.1 e
    exact absurd this.1 (h r this.2.1)

/-- How far a number is from a place on, rising and around. -/
def off (P i : Nat) : Nat := (i + 64 - P) % 64
theorem off_at {P i : Nat} (hP : P < 64) (hi : i < 64) : off P ((P + i) % 64) = i := by unfold off; omega
theorem around_spec {p : Nat → Bool} {P r : Nat} (hP : P < 64) (hr : r < 64) (hp : p r = true) (h : ∀ j, j < 64 → p j = true → off P r ≤ off P j) :
    Mk.aroundB (mskN p) (P : Int) = true ∧ Mk.aroundV (mskN p) (P : Int) = r := by
  unfold Mk.aroundB Mk.aroundV Mk.nextB Mk.nextV
  by_cases hle : P ≤ r
  · have e : Mk.nextO (mskN p) (P : Int) = some r := nextO_iff.2 ⟨⟨hp, by omega⟩, hr, fun j hj hh => by
      have := h j (by omega) hh.1
      unfold off at this
      omega⟩
    rw [e]
    exact ⟨rfl, rfl⟩
  · have e : Mk.nextO (mskN p) (P : Int) = none := nextO_none' fun j hj hh => by
      have := h j hj hh.1
      unfold off at this
      omega
    have e2 : Mk.nextO (mskN p) 0 = some r := nextO_iff.2 ⟨⟨hp, by omega⟩, hr, fun j hj hh => by
      have := h j (by omega) hh.1
      unfold off at this
      omega⟩
    rw [e, e2]
    exact ⟨rfl, rfl⟩
theorem around_none {p : Nat → Bool} (f : Int) (h : ∀ j, j < 64 → p j = false) : Mk.aroundB (mskN p) f = false := by
  unfold Mk.aroundB Mk.nextB
  rw [nextO_none' fun j hj hh => (by rw [h j hj] at hh; cases hh.1), nextO_none' fun j hj hh => (by rw [h j hj] at hh; cases hh.1)]
  rfl

/-- The order in which a poll looks at holdouts. -/
def ordN (P : Nat) (p : Nat → Bool) : List Nat := ((List.range 64).map fun i => (P + i) % 64).filter p
theorem ord_mem {P : Nat} {p : Nat → Bool} (hP : P < 64) {i : Nat} : i ∈ ordN P p ↔ i < 64 ∧ p i = true := by
  unfold ordN
  rw [List.mem_filter, List.mem_map]
  constructor
  · rintro ⟨⟨j, _, rfl⟩, h⟩
    exact ⟨Nat.mod_lt _ (by decide), h⟩
  · rintro ⟨h1, h2⟩
    exact ⟨⟨off P i, List.mem_range.2 (by unfold off; omega), by unfold off; omega⟩, h2⟩
theorem ord_off {P : Nat} {p : Nat → Bool} (hP : P < 64) : (ordN P p).Pairwise fun a b => off P a < off P b := by
  unfold ordN
  refine List.Pairwise.filter _ ?_
  rw [List.pairwise_map]
  refine List.Pairwise.imp_of_mem ?_ List.pairwise_lt_range
  intro a b ha hb hab
  rw [off_at hP (List.mem_range.1 ha), off_at hP (List.mem_range.1 hb)]
  exact hab
theorem ord_lt {P : Nat} {p : Nat → Bool} (hP : P < 64) {i j : Nat} {a b : Nat} (hij : i < j) (ha : (ordN P p)[i]? = some a) (hb : (ordN P p)[j]? = some b) : off P a < off P b := by
  obtain ⟨h1, rfl⟩ := List.getElem?_eq_some_iff.1 ha
  obtain ⟨h2, rfl⟩ := List.getElem?_eq_some_iff.1 hb
  exact List.pairwise_iff_getElem.1 (ord_off hP) i j h1 h2 hij

/-- Behind k looks of a list: who is ahead; who is left (e tells who has ended); the place. -/
def ahd (l : List Nat) (k i : Nat) : Bool := decide (i ∈ l.drop k)
def lft (e : Int → Bool) (p : Nat → Bool) (l : List Nat) (k i : Nat) : Bool := p i && !(decide (i ∈ l.take k) && e (i : Int))
def plc (P : Nat) (l : List Nat) : Nat → Nat
  | 0 => P
  | k + 1 => (l[k]?.getD 0 + 1) % 64
theorem plc_lt {P : Nat} (hP : P < 64) (l : List Nat) (k : Nat) : plc P l k < 64 := by
  cases k with
  | zero => exact hP
  | succ k => exact Nat.mod_lt _ (by decide)
theorem lft_zero (e : Int → Bool) (p : Nat → Bool) (l : List Nat) : lft e p l 0 = p := by
  funext i
  simp [lft]
theorem lft_step {e : Int → Bool} {p : Nat → Bool} {l : List Nat} {k r : Nat} (h : l[k]? = some r) : lft e p l (k + 1) = if e (r : Int) = true then rmv (lft e p l k) (r : Int) else lft e p l k := by
  have ht : l.take (k + 1) = l.take k ++ [r] := by rw [List.take_add_one, h]; rfl
  funext i
  by_cases hi : i = r
  · subst hi
    cases he : e (i : Int) <;> simp [lft, rmv, ht, he]
  · have hi2 : ¬ (i : Int) = (r : Int) := by omega
    cases he : e (r : Int) <;> simp [lft, rmv, ht, hi, hi2]
theorem ahd_zero {P : Nat} {p : Nat → Bool} (hP : P < 64) : mskN (ahd (ordN P p) 0) = mskN p := mskN_congr fun i hi => by
  rw [Bool.eq_iff_iff, ahd, decide_eq_true_eq, List.drop_zero, ord_mem hP]
  exact ⟨fun h => h.2, fun h => ⟨hi, h⟩⟩
theorem ahd_step {P : Nat} {p : Nat → Bool} (hP : P < 64) {k r : Nat} (h : (ordN P p)[k]? = some r) : ahd (ordN P p) (k + 1) = rmv (ahd (ordN P p) k) (r : Int) := by
  have hk := (List.getElem?_eq_some_iff.1 h).1
  have hd : (ordN P p).drop k = r :: (ordN P p).drop (k + 1) := by
    rw [List.drop_eq_getElem_cons hk]
    congr 1
    exact (List.getElem?_eq_some_iff.1 h).2
  have hn : r ∉ (ordN P p).drop (k + 1) := by
    intro hm
    obtain ⟨j, hj⟩ := List.mem_iff_getElem?.1 hm
    rw [List.getElem?_drop] at hj
    have := ord_lt hP (show k < k + 1 + j by omega) h hj
    omega
  funext i
  unfold ahd rmv
  rw [hd]
  by_cases e : i = r
  · subst e; simp [hn]
  · have e2 : ¬ (i : Int) = (r : Int) := by omega
    simp [e, e2]
theorem ahd_around {P : Nat} {p : Nat → Bool} (hP : P < 64) {k r : Nat} (h : (ordN P p)[k]? = some r) :
    Mk.aroundB (mskN (ahd (ordN P p) k)) (plc P (ordN P p) k : Int) = true ∧ Mk.aroundV (mskN (ahd (ordN P p) k)) (plc P (ordN P p) k : Int) = r := by
  have hr := (ord_mem hP).1 (List.mem_iff_getElem?.2 ⟨k, h⟩)
  refine around_spec (plc_lt hP _ _) hr.1 ?_ ?_
  · unfold ahd
    rw [decide_eq_true_eq]
    exact List.mem_iff_getElem?.2 ⟨0, by rw [List.getElem?_drop]; exact h⟩
  · intro j hj hm
    have hm : j ∈ (ordN P p).drop k := by unfold ahd at hm; simpa using hm
    obtain ⟨d, hd⟩ := List.mem_iff_getElem?.1 hm
    rw [List.getElem?_drop] at hd
    have hle : off P r ≤ off P j := by
      cases d with
      | zero => rw [Nat.add_zero, h] at hd; cases hd; exact Nat.le_refl _
      | succ d => exact Nat.le_of_lt (ord_lt hP (by omega) h hd)
    cases k with
    | zero => exact hle
    | succ k =>
      obtain ⟨q, hq⟩ : ∃ q, (ordN P p)[k]? = some q := ⟨_, List.getElem?_eq_getElem (by have := (List.getElem?_eq_some_iff.1 h).1; omega)⟩
      have hq64 := ((ord_mem hP).1 (List.mem_iff_getElem?.2 ⟨k, hq⟩)).1
      have h1 := ord_lt hP (Nat.lt_succ_self k) hq h
      have hr64 := hr.1
      simp only [plc, hq, Option.getD_some]
      unfold off at hle h1 ⊢
      omega
theorem ahd_end {l : List Nat} {k : Nat} (h : l.length ≤ k) (f : Int) : Mk.aroundB (mskN (ahd l k)) f = false :=
  around_none f fun j _ => by unfold ahd; rw [List.drop_eq_nil_of_le h]; rfl

/-- How many looks a poll of n has; who is left behind it; its place. -/
def lookN (n : Int) (l : List Nat) : Nat := min n.toNat l.length
def pollL (e : Int → Bool) (P : Nat) (p : Nat → Bool) (n : Int) : Nat → Bool := lft e p (ordN P p) (lookN n (ordN P p))
def pollP (P : Nat) (p : Nat → Bool) (n : Int) : Nat := plc P (ordN P p) (lookN n (ordN P p))
theorem pollP_lt {P : Nat} (hP : P < 64) (p : Nat → Bool) (n : Int) : pollP P p n < 64 := plc_lt hP _ _
/-- Where all have ended: each look takes one away. -/
theorem lft_cnt {e : Int → Bool} {P : Nat} {p : Nat → Bool} (hP : P < 64) (he : ∀ i, i < 64 → p i = true → e (i : Int) = true) : ∀ k, k ≤ (ordN P p).length → cntN (lft e p (ordN P p) k) 64 + k = cntN p 64
  | 0, _ => by rw [lft_zero, Nat.add_zero]
  | k + 1, hk => by
    obtain ⟨r, hr⟩ : ∃ r, (ordN P p)[k]? = some r := ⟨_, List.getElem?_eq_getElem (by omega)⟩
    have ih := lft_cnt hP he k (by omega)
    have hm := (ord_mem hP).1 (List.mem_iff_getElem?.2 ⟨k, hr⟩)
    rw [lft_step hr, if_pos (he r hm.1 hm.2)]
    have hl : lft e p (ordN P p) k r = true := by
      unfold lft
      have hn : r ∉ (ordN P p).take k := by
        intro hmm
        obtain ⟨j, hj⟩ := List.mem_iff_getElem?.1 hmm
        have hjk : j < k := by
          have := (List.getElem?_eq_some_iff.1 hj).1
          rw [List.length_take] at this
          omega
        rw [List.getElem?_take_of_lt hjk] at hj
        have := ord_lt hP hjk hj hr
        omega
      simp [hn, hm.2]
    have := rmv_cnt hl 64
    rw [if_pos hm.1] at this
    omega
theorem ord_len {P : Nat} {p : Nat → Bool} (hP : P < 64) : (ordN P p).length = cntN p 64 := by
  have h := lft_cnt (e := fun _ => true) (p := p) hP (fun _ _ _ => rfl) (ordN P p).length (Nat.le_refl _)
  have h0 : cntN (lft (fun _ => true) p (ordN P p) (ordN P p).length) 64 = 0 := cntN_zero.2 fun i hi => by
    unfold lft
    rw [List.take_length]
    cases hp : p i
    · rfl
    · simp [(ord_mem hP).2 ⟨hi, hp⟩]
  omega
theorem pollL_cnt {e : Int → Bool} {P : Nat} {p : Nat → Bool} (hP : P < 64) (he : ∀ i, i < 64 → p i = true → e (i : Int) = true) (n : Int) : cntN (pollL e P p n) 64 = cntN p 64 - min n.toNat (cntN p 64) := by
  have h := lft_cnt hP he (lookN n (ordN P p)) (Nat.min_le_right _ _)
  unfold pollL
  unfold lookN at h ⊢
  rw [ord_len hP] at h ⊢
  omega
theorem pollL_sub {e : Int → Bool} {P : Nat} {p : Nat → Bool} {n : Int} {i : Nat} (h : pollL e P p n i = true) : p i = true := by
  unfold pollL lft at h
  rw [Bool.and_eq_true] at h
  exact h.1
theorem pollL_stays {e : Int → Bool} {P : Nat} {p : Nat → Bool} {n : Int} {i : Nat} (hp : p i = true) (he : e (i : Int) = false) : pollL e P p n i = true := by
  unfold pollL lft
  rw [hp, he]
  simp
/-- Behind a look at one. -/
def lookL (e : Int → Bool) (p : Nat → Bool) (r : Int) : Nat → Bool := if e r = true then rmv p r else p
def quietL (e : Int → Bool) (p : Nat → Bool) (zs : List Int) : Nat → Bool := zs.foldl (lookL e) p
theorem quietL_snoc (e : Int → Bool) (p : Nat → Bool) (zs : List Int) (r : Int) : quietL e p (zs ++ [r]) = lookL e (quietL e p zs) r := by simp [quietL]
theorem quietL_take {e : Int → Bool} {p : Nat → Bool} {zs : List Int} {k : Nat} (h : k < zs.length) : quietL e p (zs.take (k + 1)) = lookL e (quietL e p (zs.take k)) (zs[k]?.getD 0) := by
  rw [List.take_succ_eq_append_getElem h, quietL_snoc, List.getElem?_eq_getElem h]
  rfl
theorem look_le (e : Int → Bool) (p : Nat → Bool) (r : Int) : cntN (lookL e p r) 64 ≤ cntN p 64 := by
  unfold lookL
  split
  · by_cases h : ∃ i : Nat, (i : Int) = r ∧ p i = true
    · obtain ⟨i, rfl, hp⟩ := h
      have := rmv_cnt hp 64
      omega
    · rw [rmv_none fun i hi => by cases hp : p i <;> first | rfl | exact absurd ⟨i, hi, hp⟩ h]
      exact Nat.le_refl _
  · exact Nat.le_refl _
theorem quiet_le (e : Int → Bool) (zs : List Int) : ∀ p, cntN (quietL e p zs) 64 ≤ cntN p 64 := by
  induction zs with
  | nil => intro p; exact Nat.le_refl _
  | cons z zs ih => intro p; exact Nat.le_trans (ih (lookL e p z)) (look_le e p z)
theorem look_twice (e : Int → Bool) (p : Nat → Bool) (r : Int) : quietL e p [r, r] = lookL e p r := by
  show lookL e (lookL e p r) r = _
  unfold lookL
  by_cases h : e r = true
  · rw [if_pos h, if_pos h]
    funext i
    unfold rmv
    cases p i <;> cases decide ((i : Int) = r) <;> rfl
  · rw [if_neg h, if_neg h]
/-- Is a number a holdout whose section has ended? -/
def lookB (e : Int → Bool) (p : Nat → Bool) (r : Int) : Bool := decide (0 ≤ r ∧ r < 64) && (p r.toNat && e r)
theorem rmv_far {p : Nat → Bool} {r : Int} (h : ¬ (0 ≤ r ∧ r < 64)) : ∀ i, i < 64 → rmv p r i = p i := fun i hi => by
  unfold rmv
  rw [decide_eq_false (show ¬ (i : Int) = r by omega)]
  simp
theorem look_cnt (e : Int → Bool) (p : Nat → Bool) (r : Int) : (cntN p 64 : Int) - (cntN (lookL e p r) 64 : Int) = if lookB e p r = true then 1 else 0 := by
  unfold lookB lookL
  by_cases hr : 0 ≤ r ∧ r < 64
  · obtain ⟨i, rfl⟩ : ∃ i : Nat, r = (i : Int) := ⟨r.toNat, by omega⟩
    rw [decide_eq_true hr, Bool.true_and, Int.toNat_natCast]
    cases he : e (i : Int)
    · simp
    · rw [if_pos rfl, Bool.and_true]
      cases hpi : p i
      · rw [rmv_none fun j hj => by rw [show j = i by omega]; exact hpi]
        simp
      · have := rmv_cnt hpi 64
        rw [if_pos (by omega)] at this
        rw [if_pos rfl]
        omega
  · rw [decide_eq_false hr, Bool.false_and]
    have hn : cntN (if e r = true then rmv p r else p) 64 = cntN p 64 := by
      split
      · exact cntN_congr (rmv_far hr)
      · rfl
    rw [hn]
    simp
theorem look_at (e : Int → Bool) (p : Nat → Bool) (r : Int) : ∀ i, i < 64 → (if lookB e p r = true then rmv p r else p) i = lookL e p r i := fun i hi => by
  unfold lookB lookL
  by_cases hr : 0 ≤ r ∧ r < 64
  · rw [decide_eq_true hr, Bool.true_and]
    cases he : e r
    · simp
    · rw [if_pos rfl, Bool.and_true]
      cases hpi : p r.toNat
      · rw [rmv_none fun j hj => by rw [show j = r.toNat by omega]; exact hpi]
        simp
      · rfl
  · rw [decide_eq_false hr, Bool.false_and, if_neg (by decide)]
    split
    · exact (rmv_far hr i hi).symm
    · rfl
end Go.Proofs.YtjoaigadlpndcaaGreatDoor
namespace Go.Proofs.YtjoaigadlpndcaaGreatDoor
open Go.RowKit

/-- A scan in a block of four cells. -/
structure Sn (w : World) (c : Nat) (pt : Value) (t : Int) (p : Nat → Bool) (P : Nat) : Prop where
  c0 : w.cell? ⟨c, 0, none⟩ = some pt
  c1 : w.cell? ⟨c, 1, none⟩ = some (.int .i64 t)
  c2 : w.cell? ⟨c, 2, none⟩ = some (.int .u64 ((mskN p : Nat) : Int))
  c3 : w.cell? ⟨c, 3, none⟩ = some (.int .i64 (P : Int))
  fr : ∀ k, w.frozen? ⟨c, k, none⟩ = false
section
variable {w w' : World} {c : Nat} {pt : Value} {t : Int} {p : Nat → Bool} {P : Nat}
theorem Sn.lt (h : Sn w c pt t p P) : c < w.heap.size := cell_lt h.c0
theorem Sn.ch {S : List Nat} (h : Sn w c pt t p P) (hc : Ch S w w') (hb : c ∉ S) : Sn w' c pt t p P :=
  ⟨(hc.cell (p := ⟨c, 0, none⟩) h.lt hb).trans h.c0, (hc.cell (p := ⟨c, 1, none⟩) h.lt hb).trans h.c1, (hc.cell (p := ⟨c, 2, none⟩) h.lt hb).trans h.c2, (hc.cell (p := ⟨c, 3, none⟩) h.lt hb).trans h.c3, fun k => (hc.frozen (p := ⟨c, k, none⟩) h.lt hb).trans (h.fr k)⟩
theorem Sn.drew (h : Sn w c pt t p P) : Sn w.drew c pt t p P := ⟨h.c0, h.c1, h.c2, h.c3, h.fr⟩
theorem Sn.setL (h : Sn w c pt t p P) (q : Nat → Bool) : Sn (w.setCell ⟨c, 2, none⟩ (.int .u64 ((mskN q : Nat) : Int))) c pt t q P :=
  ⟨setCell_other h.c0 (addr_ne_off (by omega)), setCell_other h.c1 (addr_ne_off (by omega)), setCell_same h.c2, setCell_other h.c3 (addr_ne_off (by omega)), fun k => by simpa using h.fr k⟩
theorem Sn.setP (h : Sn w c pt t p P) (Q : Nat) : Sn (w.setCell ⟨c, 3, none⟩ (.int .i64 (Q : Int))) c pt t p Q :=
  ⟨setCell_other h.c0 (addr_ne_off (by omega)), setCell_other h.c1 (addr_ne_off (by omega)), setCell_other h.c2 (addr_ne_off (by omega)), setCell_same h.c3, fun k => by simpa using h.fr k⟩
theorem Sn.new (w : World) (pt : Value) (t : Int) (p : Nat → Bool) (ty : TypeId) : Sn (w.alloc (.cells #[pt, .int .i64 t, .int .u64 ((mskN p : Nat) : Int), .int .i64 0] ty)) w.heap.size pt t p 0 :=
  ⟨by rw [World.cell?_alloc_at _ _ _ _ rfl]; rfl, by rw [World.cell?_alloc_at _ _ _ _ rfl]; rfl, by rw [World.cell?_alloc_at _ _ _ _ rfl]; rfl, by rw [World.cell?_alloc_at _ _ _ _ rfl]; rfl, fun k => World.frozen?_alloc_new w _ _ _⟩
end

/-- Where only a scan's block turns, the sections tell since when (f). -/
def Sns (w : World) (c : Nat) (pt : Value) (f : Int → Int) : Prop :=
  ∀ w', Ch [c] w w' → ∀ r, Calls Tryz.prog 90 #[pt, .int .i64 r] w' fun e w'' => e = .returned (.int .i64 (f r)) ∧ w' = w''
theorem Sns.ch {w w' : World} {c : Nat} {pt : Value} {f : Int → Int} (h : Sns w c pt f) (hc : Ch [c] w w') : Sns w' c pt f := fun w2 h2 r => h w2 (hc.trans h2) r
theorem Sns.of {w : World} {b c : Nat} {x : SS} (h : Sec w b x) (hb : b ≠ c) : Sns w c (.pointer (some ⟨b, 0, none⟩)) (sOf x) := fun _ hc r => since_any (h.ch hc (by simpa using hb)) r

theorem nil_stamp (w : World) : Calls Tryz.prog 83 #[.pointer none] w fun e w' => e = .returned (.int .i64 0) ∧ w = w' := by
  go_enter Tryz.func83, Tryz.ntmps83
  go_wp2
  go_ret
  exact ⟨rfl, rfl⟩
theorem nil_since (w : World) (r : Int) : Calls Tryz.prog 90 #[.pointer none, .int .i64 r] w fun e w' => e = .returned (.int .i64 0) ∧ w = w' := by
  go_enter Tryz.func90, Tryz.ntmps90
  go_wp2
  go_ret
  exact ⟨rfl, rfl⟩
theorem Sns.nil (w : World) (c : Nat) : Sns w c (.pointer none) (fun _ => 0) := fun _ _ r => nil_since _ r
theorem nil_in (w : World) : Calls Tryz.prog 47 #[.pointer none] w fun e w' => e = .returned (.int .u64 ((mskN (fun _ => false) : Nat) : Int)) ∧ Ch [] w w' := by
  have hal := (Ch.refl [] w).alloc (.cells #[.pointer none] 68)
  have H := Lib.hid (maskOf_any (w := w.alloc (.cells #[.pointer none] 68)) (p := none) (F := 64) (lb := #[.pointer (some ⟨w.heap.size, 0, none⟩)]) (q := fun _ => false)
    (enters_of Tryz.func64 (by kernel_rfl) rfl) (fun _ => by simp [selC]) (fun a e => by cases e))
  have HAl := Lib.hid hal
  clear hal
  go_enter Tryz.func47, Tryz.ntmps47
  go_wp2_with fail
  with_reducible refine H.out.mono ?_
  rintro e w1 ⟨rfl, hc⟩
  go_wp2_with fail
  go_ret
  exact ⟨rfl, HAl.out.trans hc⟩

set_option maxHeartbeats 1000000 in
theorem new_core {w w1 : World} {p : Option Addr} {t : Int} {q : Nat → Bool}
    (hs : Calls Tryz.prog 83 #[.pointer p] w fun e w' => e = .returned (.int .i64 t) ∧ w = w')
    (hi : Calls Tryz.prog 47 #[.pointer p] w fun e w' => e = .returned (.int .u64 ((mskN q : Nat) : Int)) ∧ Ch [] w w') (h1 : w1 = w) :
    Calls Tryz.prog 72 #[.pointer p] w1 fun e w' => ∃ c, e = .returned (.pointer (some ⟨c, 0, none⟩)) ∧ Sn w' c (.pointer p) t q 0 ∧ w1.heap.size ≤ c ∧ Ch [] w1 w' := by
  subst h1
  have HS := Lib.hid hs
  have HI := Lib.hid hi
  obtain ⟨M, hM⟩ : ∃ M, M = mskN q := ⟨_, rfl⟩
  rw [← hM] at HI
  have HM := Lib.hid hM
  clear hs hi hM
  go_enter Tryz.func72, Tryz.ntmps72
  go_wp2_with fail
  with_reducible refine HS.out.mono ?_
  rintro e w' ⟨rfl, rfl⟩
  go_wp2_with fail
  with_reducible refine HI.out.mono ?_
  rintro e w2 ⟨rfl, hc⟩
  have HC := Lib.hid hc
  clear hc HS HI
  go_wp2_with fail
  go_ret
  refine ⟨_, rfl, ?_, HC.out.size, HC.out.alloc _⟩
  rw [HM.out]
  exact Sn.new _ _ _ _ _
theorem new_any {w : World} {b : Nat} {x : SS} (h : Sec w b x) :
    Calls Tryz.prog 72 #[.pointer (some ⟨b, 0, none⟩)] w fun e w' => ∃ c, e = .returned (.pointer (some ⟨c, 0, none⟩)) ∧ Sn w' c (.pointer (some ⟨b, 0, none⟩)) x.n (inP x) 0 ∧ w.heap.size ≤ c ∧ Ch [] w w' :=
  new_core (stamp_any h) (in_any h) rfl
theorem new_nil (w : World) :
    Calls Tryz.prog 72 #[.pointer none] w fun e w' => ∃ c, e = .returned (.pointer (some ⟨c, 0, none⟩)) ∧ Sn w' c (.pointer none) 0 (fun _ => false) 0 ∧ w.heap.size ≤ c ∧ Ch [] w w' :=
  new_core (nil_stamp w) (nil_in w) rfl

section
variable {w : World} {c : Nat} {pt : Value} {t : Int} {p : Nat → Bool} {P : Nat}
theorem left_any (h : Sn w c pt t p P) {m : Nat} (hm : mskN p = m) : Calls Tryz.prog 49 #[.pointer (some ⟨c, 0, none⟩)] w fun e w' => e = .returned (.int .u64 (m : Int)) ∧ w = w' := by
  have c1 := h.c2
  rw [hm] at c1
  clear h hm
  go_enter Tryz.func49, Tryz.ntmps49
  go_wp2
  go_ret
  exact ⟨rfl, rfl⟩
/-- Has the section in which one was when a scan began ended, since it is in one of stamp s? -/
def endB (t s : Int) : Bool := decide (s = 0) || decide (t < s)
theorem ended_any (h : Sn w c pt t p P) {f : Int → Int} (hf : Sns w c pt f) (r : Int) : Calls Tryz.prog 79 #[.pointer (some ⟨c, 0, none⟩), .int .i64 r] w fun e w' => e = .returned (.bool (endB t (f r))) ∧ w = w' := by
  have H := Lib.hid (hf w (Ch.refl _ _) r)
  have c0 := h.c0
  have c1 := h.c1
  clear h hf
  unfold endB
  generalize f r = s at *
  by_cases h0 : s = 0
  · subst h0
    go_enter Tryz.func79, Tryz.ntmps79
    go_wp2_with fail
    with_reducible refine H.out.mono ?_
    rintro e w' ⟨rfl, rfl⟩
    go_wp2_with fail
    go_ret
    exact ⟨rfl, rfl⟩
  · have h1 : (s == 0) = false := by simpa using h0
    rw [decide_eq_false h0, Bool.false_or]
    clear h0
    go_enter Tryz.func79, Tryz.ntmps79
    go_wp2_with fail
    with_reducible refine H.out.mono ?_
    rintro e w' ⟨rfl, rfl⟩
    go_wp2_with fail
    go_ret
    exact ⟨rfl, rfl⟩
end
end Go.Proofs.YtjoaigadlpndcaaGreatDoor
namespace Go.Proofs.YtjoaigadlpndcaaGreatDoor
open Go.RowKit

theorem without_one (p : Nat → Bool) (r : Int) (W : World) (t : TypeId) {M M' : Nat} (hM : mskN p = M) (hM' : mskN (rmv p r) = M') :
    Calls Tryz.prog 80 #[.int .u64 (M : Int), .slice (some ⟨W.heap.size, 0, none⟩) 1 1] (W.alloc (.cells #[.int .i64 r] t)) fun e w' => e = .returned (.int .u64 (M' : Int)) ∧ (W.alloc (.cells #[.int .i64 r] t)) = w' := by
  rw [← hM', ← rmv_msk, ← hM]
  exact Mk.without_any _ (mskN_lt p) (some ⟨W.heap.size, 0, none⟩) 1 [r] _ (by simp) (intsAt_one (cell_new W _ _).1)
theorem len_msk (p : Nat → Bool) (w : World) {M : Nat} (hM : mskN p = M) :
    Calls Tryz.prog 81 #[.int .u64 (M : Int)] w fun e w' => e = .returned (.int .i64 ((cntN p 64 : Nat) : Int)) ∧ w = w' := by
  rw [← hM, ← pc_msk]
  exact Mk.len_any _ (mskN_lt p) w
theorem tab_ch {S : List Nat} {w w' : World} (h : Mk.Tab w) (hc : Ch S w w') (hS : 0 ∉ S) : Mk.Tab w' :=
  fun j hj => (hc.cell (p := ⟨0, j, none⟩) (cell_lt (h j hj)) hS).trans (h j hj)

end Go.Proofs.YtjoaigadlpndcaaGreatDoor
