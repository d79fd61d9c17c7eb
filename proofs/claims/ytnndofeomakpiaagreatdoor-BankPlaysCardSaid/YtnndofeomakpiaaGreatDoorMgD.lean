/-
  Plain: timers by their spots; when each is due, seen from a tick; in which order they come out.
  Plain: which slots of a wheel are due next, by the masks of its levels.
  A wheel in memory: its block, the rows of its slots, the map of its timers; what a call may turn.
  A new wheel; Now, Len, Find.
  The masks of a wheel's levels: with a slot, without some.
  The masks of a wheel's levels: without some slots.
  A wheel in memory, one part turned at a time.
-/
import Derived.Test.YtnndofeomakpiaaGreatDoorMgC
import Derived.Test.YtnndofeomakpiaaGreatDoorMgB
import Derived.Test.YtnndofeomakpiaaGreatDoorMgA
import Derived.Laws.Tables
import Derived.Maps.RangeWalk
import Derived.Maps.OwnSet
import Derived.Deep.MidRow
namespace Go.Proofs.YtnndofeomakpiaaGreatDoor

/-- A timer that is held: its number, its spot, how many were put ahead of it. -/
structure Tm where
  id : Int
  sp : Sp
  put : Nat

/-- A spot that whoever looks from x finds due: it is number N of its level. -/
structure FitsN (x : Int) (s : Sp) (N : Int) : Prop where
  lv : s.lv < 8
  sl : s.sl = N % 64
  due : s.due = mulV N (g8 s.lv)
  top : N * g8 s.lv ≤ 18446744073709551616
  top0 : s.lv = 0 → N ≤ 18446744073709551615
  turn : N ≤ x / g8 s.lv + 64
  ahead : x < s.due
def Fits (x : Int) (s : Sp) : Prop := 0 ≤ x ∧ ∃ N, FitsN x s N

theorem fits_place {f a : Int} (hf : Wd f) (ha : Wd a) (hm : f ≠ 18446744073709551615) : Fits f (placeV f a) := by
  refine ⟨hf.lo, ?_⟩
  obtain ⟨-, p1, p2, p3⟩ := clampV_of hf ha hm
  have hf0 := hf.lo
  unfold placeV
  simp only []
  generalize clampV f a 132120575 = c at *
  have hd : ofN (c - f) < 8 := by
    have := (ofN_iff (c - f) (j := 7) (by decide)).1 (by simp only [g8]; omega)
    omega
  have hr : c - f < 63 * g8 (ofN (c - f)) := (ofN_iff (c - f) hd).2 (Nat.le_refl _)
  generalize ofN (c - f) = n at *
  clear ha hm
  refine ⟨numV c (g8 n), ?_⟩
  unfold numV
  rcases eight hd with h | h | h | h | h | h | h | h <;> subst h <;> simp only [g8] at hr <;>
    refine ⟨by simp, rfl, rfl, ?_, ?_, ?_, ?_⟩ <;> simp only [g8, mulV] <;> first | omega | (intro; omega)

theorem Fits.lv {x : Int} {s : Sp} (h : Fits x s) : s.lv < 8 := by obtain ⟨_, N, h⟩ := h; exact h.lv
theorem Fits.sl {x : Int} {s : Sp} (h : Fits x s) : 0 ≤ s.sl ∧ s.sl < 64 := by obtain ⟨_, N, h⟩ := h; have := h.sl; omega
theorem Fits.ahead {x : Int} {s : Sp} (h : Fits x s) : x < s.due := by obtain ⟨_, N, h⟩ := h; exact h.ahead
theorem Fits.top {x : Int} {s : Sp} (h : Fits x s) : s.due ≤ 18446744073709551615 := by obtain ⟨_, N, h⟩ := h; rw [h.due]; unfold mulV; omega
theorem Fits.later {x y : Int} {s : Sp} (h : Fits x s) (hxy : x ≤ y) (hy : y < s.due) : Fits y s := by
  obtain ⟨h0, N, h⟩ := h
  refine ⟨by omega, N, h.lv, h.sl, h.due, h.top, h.top0, ?_, hy⟩
  have ht := h.turn
  rcases eight h.lv with e | e | e | e | e | e | e | e <;> rw [e] at ht ⊢ <;> simp only [g8] at ht ⊢ <;> omega
theorem FitsN.next {x : Int} {s : Sp} {N : Int} (h0 : 0 ≤ x) (h : FitsN x s N) : nextV x (g8 s.lv) s.sl = N ∧ x / g8 s.lv < N := by
  have h1 := h.due
  have h2 := h.turn
  have h3 := h.ahead
  have h4 := h.sl
  unfold nextV
  unfold mulV at h1
  rw [h4]
  generalize s.due = D at *
  clear h4
  rcases eight h.lv with e | e | e | e | e | e | e | e <;> rw [e] at h1 h2 ⊢ <;> simp only [g8] at h1 h2 ⊢ <;> omega
theorem Fits.time {x : Int} {s : Sp} (h : Fits x s) : timeV x s.lv s.sl = s.due := by
  obtain ⟨h0, N, h⟩ := h
  unfold timeV
  rw [(h.next h0).1, h.due]
theorem FitsN.lt {x : Int} {s t : Sp} {N M : Int} (h : FitsN x s N) (k : FitsN x t M) (hl : s.lv = t.lv) (hNM : N < M) : s.due < t.due := by
  have h1 := h.due
  have h2 := h.top
  have h3 := h.top0
  have k1 := k.due
  have k2 := k.top
  have k3 := k.top0
  rw [← hl] at k1 k2 k3
  unfold mulV at h1 k1
  rw [h1, k1]
  clear h1 k1
  rcases eight h.lv with e | e | e | e | e | e | e | e <;> rw [e] at h2 h3 k2 k3 ⊢ <;> simp only [g8] at h2 k2 ⊢ <;> (try (have h4 := h3 trivial; have k4 := k3 trivial)) <;> omega
/-- How far ahead a spot's slot stands. -/
def aheadV (x : Int) (n : Nat) (s : Int) : Int := (s - (x / g8 n + 1)) % 64
theorem FitsN.num {x : Int} {s : Sp} {N : Int} (h0 : 0 ≤ x) (h : FitsN x s N) : N = x / g8 s.lv + 1 + aheadV x s.lv s.sl := by
  rw [← (h.next h0).1]; rfl
theorem Fits.less {x : Int} {s t : Sp} (h : Fits x s) (k : Fits x t) (hl : s.lv = t.lv) (ha : aheadV x s.lv s.sl ≤ aheadV x t.lv t.sl) : s.due ≤ t.due := by
  obtain ⟨h0, N, h⟩ := h
  obtain ⟨-, M, k⟩ := k
  have e1 := h.num h0
  have e2 := k.num h0
  rw [hl] at e1 ha
  rcases Int.lt_trichotomy N M with hlt | heq | hgt
  · exact Int.le_of_lt (h.lt k hl hlt)
  · rw [h.due, k.due, heq, hl]; exact Int.le_refl _
  · exfalso; omega
theorem Fits.apart {x : Int} {s t : Sp} (h : Fits x s) (k : Fits x t) (hl : s.lv = t.lv) : s.sl = t.sl ↔ s.due = t.due := by
  constructor
  · intro e; rw [← h.time, ← k.time, hl, e]
  · intro e
    obtain ⟨h0, N, h⟩ := h
    obtain ⟨-, M, k⟩ := k
    rcases Int.lt_trichotomy N M with hlt | heq | hgt
    · have := h.lt k hl hlt; omega
    · rw [h.sl, k.sl, heq]
    · have := k.lt h hl.symm hgt; omega

/-! ### The order in which they come out -/

def dueLt (a b : Tm) : Prop := a.sp.due < b.sp.due ∨ (a.sp.due = b.sp.due ∧ a.put < b.put)
def dueLe (a b : Tm) : Bool := decide (a.sp.due < b.sp.due ∨ (a.sp.due = b.sp.due ∧ a.put ≤ b.put))
/-- All, by when they are due, and of one tick in the order in which they were put. -/
def DL (L : List Tm) : List Tm := L.mergeSort dueLe

theorem dueLt_irrefl (a : Tm) : ¬ dueLt a a := by unfold dueLt; omega
theorem dueLt_trans {a b c : Tm} (h : dueLt a b) (k : dueLt b c) : dueLt a c := by unfold dueLt at *; omega
theorem dueLt_asymm {a b : Tm} (h : dueLt a b) : ¬ dueLt b a := by unfold dueLt at *; omega

theorem sorted_unique {α : Type} {r : α → α → Prop} (ha : ∀ a b, r a b → ¬ r b a) : ∀ {l l' : List α}, l.Perm l' → l.Pairwise r → l'.Pairwise r → l = l' := by
  intro l
  induction l with
  | nil => intro l' hp _ _; exact (List.nil_perm.1 hp).symm
  | cons a t ih =>
    intro l' hp h h'
    cases l' with
    | nil => exact absurd hp.symm (by simp)
    | cons b u =>
      rw [List.pairwise_cons] at h h'
      have hab : a = b := by
        have h1 : a ∈ b :: u := hp.mem_iff.1 (by simp)
        have h2 : b ∈ a :: t := hp.mem_iff.2 (by simp)
        rcases List.mem_cons.1 h1 with e | m1
        · exact e
        · rcases List.mem_cons.1 h2 with e | m2
          · exact e.symm
          · exact absurd (h.1 b m2) (ha _ _ (h'.1 a m1))
      subst hab
      rw [ih (List.Perm.cons_inv hp) h.2 h'.2]

theorem DL_perm (L : List Tm) : (DL L).Perm L := List.mergeSort_perm _ _
theorem DL_le (L : List Tm) : (DL L).Pairwise (fun a b => dueLe a b = true) :=
  List.pairwise_mergeSort (fun a b c h k => by simp only [dueLe, decide_eq_true_eq] at *; omega) (fun a b => by simp only [dueLe, Bool.or_eq_true, decide_eq_true_eq]; omega) L
/-- The puts of all that are held rise. -/
def Rising (L : List Tm) : Prop := L.Pairwise fun a b => a.put < b.put
theorem Rising.filter {L : List Tm} (h : Rising L) (p : Tm → Bool) : Rising (L.filter p) := h.sublist List.filter_sublist
theorem Rising.nodup {L : List Tm} (h : Rising L) : (L.map (·.put)).Nodup := by
  unfold Rising at h
  rw [List.nodup_iff_pairwise_ne, List.pairwise_map]
  exact h.imp fun e => by omega
theorem DL_sorted {L : List Tm} (h : Rising L) : (DL L).Pairwise dueLt := by
  have h1 := DL_le L
  have h2 : ((DL L).map (·.put)).Nodup := ((DL_perm L).map _).nodup_iff.2 h.nodup
  rw [List.nodup_iff_pairwise_ne, List.pairwise_map] at h2
  refine (h1.and h2).imp fun {a b} h => ?_
  obtain ⟨h3, h4⟩ := h
  unfold dueLt
  simp only [dueLe, decide_eq_true_eq] at h3
  omega
theorem DL_only {L xs : List Tm} (h : Rising L) (hp : xs.Perm L) (hs : xs.Pairwise dueLt) : xs = DL L :=
  sorted_unique (fun _ _ => dueLt_asymm) (hp.trans (DL_perm L).symm) hs (DL_sorted h)
theorem DL_nil : DL [] = [] := by simp [DL]
theorem DL_length (L : List Tm) : (DL L).length = L.length := (DL_perm L).length_eq
theorem DL_mem {L : List Tm} {t : Tm} : t ∈ DL L ↔ t ∈ L := (DL_perm L).mem_iff

/-- The next tick first: those that are due then, in the order in which they were put; then the others. -/
theorem DL_step {L : List Tm} (h : Rising L) {d : Int} (hd : ∀ t ∈ L, d ≤ t.sp.due) : DL L = L.filter (fun t => decide (t.sp.due = d)) ++ DL (L.filter fun t => decide (d < t.sp.due)) := by
  refine (DL_only h ?_ ?_).symm
  · refine (List.Perm.append_left _ (DL_perm _)).trans ?_
    have e : L.filter (fun t => decide (d < t.sp.due)) = L.filter (fun t => !decide (t.sp.due = d)) := by
      refine List.filter_congr fun t ht => ?_
      have := hd t ht
      by_cases h1 : t.sp.due = d
      · simp [h1]
      · simp [h1]; omega
    rw [e]
    exact List.filter_append_perm _ _
  · rw [List.pairwise_append]
    refine ⟨?_, DL_sorted (h.filter _), fun a ha b hb => ?_⟩
    · refine List.Pairwise.imp_of_mem (fun {a b} ha hb hlt => ?_) (h.filter _)
      simp at ha hb
      right
      exact ⟨by omega, hlt⟩
    · rw [DL_mem] at hb
      simp at ha hb
      left
      omega
/-- Those that are due by a tick come first. -/
theorem DL_cut {L pre rest : List Tm} (h : Rising L) (e : DL L = pre ++ rest) (d : Int) (hp : ∀ t ∈ pre, t.sp.due ≤ d) (hr : ∀ t ∈ rest, d < t.sp.due) : pre = DL (L.filter fun t => decide (t.sp.due ≤ d)) := by
  refine DL_only (h.filter _) ?_ ?_
  · have e1 : (DL L).filter (fun t => decide (t.sp.due ≤ d)) = pre := by
      rw [e, List.filter_append, List.filter_eq_self.2 (fun t ht => by simpa using hp t ht), List.filter_eq_nil_iff.2 (fun t ht => by have := hr t ht; simp; omega), List.append_nil]
    rw [← e1]
    exact (DL_perm L).filter _
  · have := DL_sorted h
    rw [e] at this
    exact (List.pairwise_append.1 this).1
/-- What stands behind one that is due later than d is due later, too. -/
theorem DL_rest {L pre rest : List Tm} (h : Rising L) {x : Tm} (e : DL L = pre ++ x :: rest) {d : Int} (hd : d < x.sp.due) : ∀ t ∈ x :: rest, d < t.sp.due := by
  have := DL_sorted h
  rw [e] at this
  have h2 := (List.pairwise_append.1 this).2.1
  rw [List.pairwise_cons] at h2
  intro t ht
  rcases List.mem_cons.1 ht with rfl | ht
  · exact hd
  · have := h2.1 t ht
    unfold dueLt at this
    omega
end Go.Proofs.YtnndofeomakpiaaGreatDoor
namespace Go.Proofs.YtnndofeomakpiaaGreatDoor

theorem ones_mem (m i : Nat) : i ∈ Pl.ones m ↔ i < 64 ∧ m.testBit i = true := by simp [Pl.ones]
theorem ones_sorted (m : Nat) : (Pl.ones m).Pairwise (· < ·) := List.Pairwise.sublist List.filter_sublist (List.pairwise_lt_range)
/-- The first of a rising list that is such is the least that is such. -/
theorem find_least {l : List Nat} (h : l.Pairwise (· < ·)) (p : Nat → Bool) : (l.find? p = none ∧ ∀ i ∈ l, p i = false) ∨ ∃ j, l.find? p = some j ∧ j ∈ l ∧ p j = true ∧ ∀ i ∈ l, p i = true → j ≤ i := by
  induction l with
  | nil => exact .inl ⟨rfl, by simp⟩
  | cons a t ih =>
    rw [List.pairwise_cons] at h
    cases ha : p a with
    | true =>
      refine .inr ⟨a, by simp [ha], by simp, ha, fun i hi _ => ?_⟩
      rcases List.mem_cons.1 hi with rfl | hi
      · exact Nat.le_refl _
      · exact Nat.le_of_lt (h.1 i hi)
    | false =>
      rcases ih h.2 with ⟨h1, h2⟩ | ⟨j, h1, h2, h3, h4⟩
      · refine .inl ⟨by simp [ha, h1], fun i hi => ?_⟩
        rcases List.mem_cons.1 hi with rfl | hi
        · exact ha
        · exact h2 i hi
      · refine .inr ⟨j, by simp [ha, h1], by simp [h2], h3, fun i hi hp => ?_⟩
        rcases List.mem_cons.1 hi with rfl | hi
        · rw [ha] at hp; cases hp
        · exact h4 i hi hp
theorem next_spec (m : Nat) (f : Int) : (Mk.nextB m f = false ∧ ∀ i, i < 64 → m.testBit i = true → (i : Int) < f) ∨
    (Mk.nextB m f = true ∧ Mk.nextV m f < 64 ∧ m.testBit (Mk.nextV m f) = true ∧ f ≤ (Mk.nextV m f : Int) ∧ ∀ i, i < 64 → m.testBit i = true → f ≤ (i : Int) → Mk.nextV m f ≤ i) := by
  unfold Mk.nextB Mk.nextV Mk.nextO
  rcases find_least (ones_sorted m) (fun i => decide (f ≤ (i : Int))) with ⟨h1, h2⟩ | ⟨j, h1, h2, h3, h4⟩
  · rw [h1]
    refine .inl ⟨rfl, fun i hi hb => ?_⟩
    have := h2 i ((ones_mem m i).2 ⟨hi, hb⟩)
    simp at this
    omega
  · rw [h1]
    obtain ⟨h5, h6⟩ := (ones_mem m j).1 h2
    refine .inr ⟨rfl, h5, h6, by simpa using h3, fun i hi hb hf => ?_⟩
    exact h4 i ((ones_mem m i).2 ⟨hi, hb⟩) (by simpa using hf)
/-- Around from r on: there is one where there is any; it is the first in turn. -/
theorem around_spec (m : Nat) {r : Int} (h0 : 0 ≤ r) (h64 : r < 64) : (Mk.aroundB m r = false ∧ ∀ i, i < 64 → m.testBit i = false) ∨
    (Mk.aroundB m r = true ∧ Mk.aroundV m r < 64 ∧ m.testBit (Mk.aroundV m r) = true ∧ ∀ i, i < 64 → m.testBit i = true → ((Mk.aroundV m r : Int) - r) % 64 ≤ ((i : Int) - r) % 64) := by
  unfold Mk.aroundB Mk.aroundV
  rcases next_spec m r with ⟨h1, h2⟩ | ⟨h1, h2, h3, h4, h5⟩
  · rw [h1]
    simp only [Bool.false_eq_true, if_false]
    rcases next_spec m 0 with ⟨k1, k2⟩ | ⟨k1, k2, k3, k4, k5⟩
    · refine .inl ⟨k1, fun i hi => ?_⟩
      cases hb : m.testBit i with
      | false => rfl
      | true => have := k2 i hi hb; omega
    · refine .inr ⟨k1, k2, k3, fun i hi hb => ?_⟩
      have := h2 i hi hb
      have := k5 i hi hb (by omega)
      have := h2 _ k2 k3
      omega
  · rw [h1]
    simp only [if_true]
    refine .inr ⟨trivial, h2, h3, fun i hi hb => ?_⟩
    by_cases hi2 : r ≤ (i : Int)
    · have := h5 i hi hb hi2
      omega
    · omega

/-- The masks of the levels tell which slots hold one of R. -/
def MB (M : Nat → Nat) (R : List Tm) : Prop := ∀ n, n < 8 → M n < 18446744073709551616 ∧ ∀ i, i < 64 → ((M n).testBit i = true ↔ ∃ t ∈ R, t.sp.lv = n ∧ t.sp.sl = (i : Int))

/-- Of each level the slot that is due next. -/
def candB (x : Int) (M : Nat → Nat) (n : Nat) : Bool := Mk.aroundB (M n) ((x / g8 n + 1) % 64)
def candV (x : Int) (M : Nat → Nat) (n : Nat) : Nat := Mk.aroundV (M n) ((x / g8 n + 1) % 64)
def cands (x : Int) (M : Nat → Nat) (k : Nat) : List (Nat × Nat) := ((List.range k).filter (candB x M)).map fun n => (n, candV x M n)
theorem cands_yes {x : Int} {M : Nat → Nat} {k : Nat} (h : candB x M k = true) : cands x M (k + 1) = cands x M k ++ [(k, candV x M k)] := by
  unfold cands
  rw [List.range_succ, List.filter_append]
  simp [h]
theorem cands_no {x : Int} {M : Nat → Nat} {k : Nat} (h : candB x M k = false) : cands x M (k + 1) = cands x M k := by
  unfold cands
  rw [List.range_succ, List.filter_append]
  simp [h]
theorem cands_le (x : Int) (M : Nat → Nat) (k : Nat) : (cands x M k).length ≤ k := by
  unfold cands
  rw [List.length_map]
  exact Nat.le_trans (List.length_filter_le _ _) (by simp)
theorem cands_mem {x : Int} {M : Nat → Nat} {k : Nat} {p : Nat × Nat} : p ∈ cands x M k ↔ p.1 < k ∧ candB x M p.1 = true ∧ p.2 = candV x M p.1 := by
  unfold cands
  simp only [List.mem_map, List.mem_filter, List.mem_range]
  constructor
  · rintro ⟨n, ⟨h1, h2⟩, rfl⟩; exact ⟨h1, h2, rfl⟩
  · rintro ⟨h1, h2, h3⟩; exact ⟨p.1, ⟨h1, h2⟩, by rw [← h3]⟩
theorem cand_lt (x : Int) (M : Nat → Nat) (n : Nat) (h : candB x M n = true) : candV x M n < 64 := by
  rcases around_spec (M n) (r := (x / g8 n + 1) % 64) (by omega) (by omega) with ⟨h1, _⟩ | ⟨_, h2, _⟩
  · unfold candB at h; rw [h1] at h; cases h
  · exact h2
/-- The slots that are due at d. -/
def keep (x d : Int) (K : List (Nat × Nat)) : List (Nat × Nat) := K.filter fun p => decide (timeV x p.1 (p.2 : Int) = d)

theorem aheadV_eq (x : Int) (n : Nat) (s : Int) : aheadV x n s = (s - (x / g8 n + 1) % 64) % 64 := by unfold aheadV; omega

theorem cands_nil {x : Int} {M : Nat → Nat} (hM : MB M []) : cands x M 8 = [] := by
  rw [List.eq_nil_iff_forall_not_mem]
  intro p hp
  obtain ⟨h1, h2, h3⟩ := cands_mem.1 hp
  rcases around_spec (M p.1) (r := (x / g8 p.1 + 1) % 64) (by omega) (by omega) with ⟨k1, _⟩ | ⟨_, k2, k3, _⟩
  · unfold candB at h2; rw [k1] at h2; cases h2
  · obtain ⟨t, ht, _⟩ := ((hM p.1 h1).2 _ k2).1 k3
    simp at ht
theorem cand_in {x : Int} {M : Nat → Nat} {R : List Tm} (hM : MB M R) {n : Nat} (hn : n < 8) (h : candB x M n = true) : ∃ t ∈ R, t.sp.lv = n ∧ t.sp.sl = (candV x M n : Int) := by
  rcases around_spec (M n) (r := (x / g8 n + 1) % 64) (by omega) (by omega) with ⟨k1, _⟩ | ⟨_, k2, k3, _⟩
  · unfold candB at h; rw [k1] at h; cases h
  · exact ((hM n hn).2 _ k2).1 k3
theorem cand_of {x : Int} {M : Nat → Nat} {R : List Tm} (hM : MB M R) (hF : ∀ t ∈ R, Fits x t.sp) {t : Tm} (ht : t ∈ R) : candB x M t.sp.lv = true ∧ ∃ u ∈ R, u.sp.lv = t.sp.lv ∧ u.sp.sl = (candV x M t.sp.lv : Int) ∧ u.sp.due ≤ t.sp.due := by
  have hl := (hF t ht).lv
  have hs := (hF t ht).sl
  obtain ⟨i, hi⟩ := Int.eq_ofNat_of_zero_le hs.1
  have hb : (M t.sp.lv).testBit i = true := ((hM _ hl).2 i (by omega)).2 ⟨t, ht, rfl, hi⟩
  rcases around_spec (M t.sp.lv) (r := (x / g8 t.sp.lv + 1) % 64) (by omega) (by omega) with ⟨_, k1⟩ | ⟨k1, k2, k3, k4⟩
  · rw [k1 i (by omega)] at hb; cases hb
  · obtain ⟨u, hu, hu1, hu2⟩ := ((hM _ hl).2 _ k2).1 k3
    refine ⟨k1, u, hu, hu1, hu2, (hF u hu).less (hF t ht) hu1 ?_⟩
    rw [aheadV_eq, aheadV_eq, hu1, hu2, hi]
    exact k4 i (by omega) hb
/-- What the masks tell of all of R: the least tick, and the slots that are due then. -/
theorem pick_spec {x : Int} {M : Nat → Nat} {R : List Tm} (hM : MB M R) (hF : ∀ t ∈ R, Fits x t.sp) {d : Int} (hd : ∀ p ∈ cands x M 8, d ≤ timeV x p.1 (p.2 : Int)) (hd2 : ∃ p ∈ cands x M 8, timeV x p.1 (p.2 : Int) = d) :
    (∀ t ∈ R, d ≤ t.sp.due) ∧ (∃ t ∈ R, t.sp.due = d) ∧ ∀ n s : Nat, (n, s) ∈ keep x d (cands x M 8) ↔ ∃ t ∈ R, t.sp.lv = n ∧ t.sp.sl = (s : Int) ∧ t.sp.due = d := by
  have hlo : ∀ t ∈ R, d ≤ t.sp.due := fun t ht => by
    obtain ⟨h1, u, hu, hu1, hu2, hu3⟩ := cand_of hM hF ht
    have := hd (t.sp.lv, candV x M t.sp.lv) (cands_mem.2 ⟨(hF t ht).lv, h1, rfl⟩)
    have h2 := (hF u hu).time
    rw [hu1, hu2] at h2
    simp only [] at this
    omega
  refine ⟨hlo, ?_, fun n s => ?_⟩
  · obtain ⟨p, hp, e⟩ := hd2
    obtain ⟨h1, h2, h3⟩ := cands_mem.1 hp
    obtain ⟨t, ht, ht1, ht2⟩ := cand_in hM h1 h2
    have := (hF t ht).time
    rw [ht1, ht2, ← h3, e] at this
    exact ⟨t, ht, this.symm⟩
  · unfold keep
    rw [List.mem_filter, cands_mem]
    simp only [decide_eq_true_eq]
    constructor
    · rintro ⟨⟨h1, h2, h3⟩, h4⟩
      obtain ⟨t, ht, ht1, ht2⟩ := cand_in hM h1 h2
      have h5 := (hF t ht).time
      rw [ht1, ht2, ← h3, h4] at h5
      exact ⟨t, ht, ht1, by rw [ht2, h3], h5.symm⟩
    · rintro ⟨t, ht, rfl, ht2, ht3⟩
      obtain ⟨h1, u, hu, hu1, hu2, hu3⟩ := cand_of hM hF ht
      have h4 := hlo u hu
      have h5 : u.sp.sl = t.sp.sl := ((hF u hu).apart (hF t ht) hu1).2 (by omega)
      have h6 : s = candV x M t.sp.lv := by omega
      refine ⟨⟨(hF t ht).lv, h1, h6⟩, ?_⟩
      have h7 := (hF t ht).time
      rw [ht2, ht3] at h7
      exact h7
/-- With the slots that were due struck, the masks tell of those that are due later. -/
theorem MB.rest {x : Int} {M M' : Nat → Nat} {R : List Tm} {d : Int} {K : List (Nat × Nat)} (hM : MB M R) (hF : ∀ t ∈ R, Fits x t.sp) (hlo : ∀ t ∈ R, d ≤ t.sp.due) (hK : ∀ n s : Nat, (n, s) ∈ K ↔ ∃ t ∈ R, t.sp.lv = n ∧ t.sp.sl = (s : Int) ∧ t.sp.due = d)
    (hM' : ∀ n, n < 8 → M' n < 18446744073709551616 ∧ ∀ i, i < 64 → ((M' n).testBit i = true ↔ (M n).testBit i = true ∧ (n, i) ∉ K)) : MB M' (R.filter fun t => decide (d < t.sp.due)) := by
  intro n hn
  refine ⟨(hM' n hn).1, fun i hi => ?_⟩
  rw [(hM' n hn).2 i hi, (hM n hn).2 i hi, hK]
  constructor
  · rintro ⟨⟨t, ht, ht1, ht2⟩, hno⟩
    refine ⟨t, ?_, ht1, ht2⟩
    rw [List.mem_filter]
    refine ⟨ht, ?_⟩
    have := hlo t ht
    have : t.sp.due ≠ d := fun e => hno ⟨t, ht, ht1, ht2, e⟩
    simp; omega
  · rintro ⟨t, ht, ht1, ht2⟩
    rw [List.mem_filter] at ht
    obtain ⟨ht, hlt⟩ := ht
    simp at hlt
    refine ⟨⟨t, ht, ht1, ht2⟩, ?_⟩
    rintro ⟨u, hu, hu1, hu2, hu3⟩
    have := ((hF t ht).apart (hF u hu) (by rw [ht1, hu1])).1 (by rw [ht2, hu2])
    omega
end Go.Proofs.YtnndofeomakpiaaGreatDoor
namespace Go.Proofs.YtnndofeomakpiaaGreatDoor
open Go.RowKit Go.Maps

/-- Of what there was, the blocks that S names alone may have turned. -/
structure ChP (S : Nat → Prop) (w w' : World) : Prop where
  os : w'.os = w.os
  tape : w'.tape = w.tape
  output : w'.output = w.output
  size : w.heap.size ≤ w'.heap.size
  block : ∀ k, k < w.heap.size → ¬ S k → w'.heap[k]? = w.heap[k]?
theorem ChP.refl (S : Nat → Prop) (w : World) : ChP S w w := ⟨rfl, rfl, rfl, Nat.le_refl _, fun _ _ _ => rfl⟩
theorem ChP.trans {S : Nat → Prop} {a b c : World} (h : ChP S a b) (k : ChP S b c) : ChP S a c :=
  ⟨k.os.trans h.os, k.tape.trans h.tape, k.output.trans h.output, Nat.le_trans h.size k.size, fun i hi hn => (k.block i (Nat.lt_of_lt_of_le hi h.size) hn).trans (h.block i hi hn)⟩
theorem ChP.mono {S T : Nat → Prop} {w w' : World} (h : ChP S w w') (hs : ∀ k, S k → T k) : ChP T w w' := ⟨h.os, h.tape, h.output, h.size, fun k hk hn => h.block k hk (fun hm => hn (hs k hm))⟩
theorem ChP.fresh {S T : Nat → Prop} {a w w' : World} (h : ChP S a w) (k : ChP T w w') (hT : ∀ k, T k → S k ∨ a.heap.size ≤ k) : ChP S a w' :=
  ⟨k.os.trans h.os, k.tape.trans h.tape, k.output.trans h.output, Nat.le_trans h.size k.size, fun i hi hn => (k.block i (Nat.lt_of_lt_of_le hi h.size) (fun ht => by rcases hT i ht with h1 | h1 <;> first | exact hn h1 | omega)).trans (h.block i hi hn)⟩
theorem ChP.of {S : Nat → Prop} {l : List Nat} {w w' : World} (h : Ch l w w') (hs : ∀ k ∈ l, S k) : ChP S w w' := ⟨h.os, h.tape, h.output, h.size, fun k hk hn => h.block k hk (fun hm => hn (hs k hm))⟩
theorem ChP.quiet {S : Nat → Prop} {w w' : World} (h : Ch [] w w') : ChP S w w' := .of h (by simp)
theorem ChP.ch {S : Nat → Prop} {w w' : World} (h : ChP S w w') (hS : ∀ k, ¬ S k) : Ch [] w w' := ⟨h.os, h.tape, h.output, h.size, fun k hk _ => h.block k hk (hS k)⟩
theorem ChP.grown {S : Nat → Prop} {w w' : World} {row : Option Nat} (hg : w.grownBy w' row) (hr : ∀ r, row = some r → S r) : ChP S w w' :=
  ⟨hg.os, hg.tape, hg.output, hg.size, fun k hk hn => hg.block k hk (fun e => hn (hr k e.symm))⟩
theorem ChP.drew {S : Nat → Prop} {a w : World} (h : ChP S a w) : ChP S a w.drew := ⟨h.os, h.tape, h.output, h.size, h.block⟩
theorem ChP.alloc {S : Nat → Prop} {a w : World} (h : ChP S a w) (o : Obj) : ChP S a (w.alloc o) := h.trans (.quiet ((Ch.refl [] w).alloc o))
theorem ChP.setCell {S : Nat → Prop} {a w : World} (h : ChP S a w) {p : Addr} (hp : S p.block ∨ a.heap.size ≤ p.block) (u : Value) : ChP S a (w.setCell p u) :=
  h.fresh (T := fun k => k = p.block) ⟨rfl, rfl, rfl, by simp [World.setCell], fun k _ hn => Below.heap_setCell _ _ _ _ hn⟩ (fun k e => e ▸ hp)
theorem ChP.cell {S : Nat → Prop} {w w' : World} (h : ChP S w w') {p : Addr} (hp : p.block < w.heap.size) (hn : ¬ S p.block) : w'.cell? p = w.cell? p := World.cell?_of_block (w := w) (h.block p.block hp hn)
theorem ChP.frozen {S : Nat → Prop} {w w' : World} (h : ChP S w w') {p : Addr} (hp : p.block < w.heap.size) (hn : ¬ S p.block) : w'.frozen? p = w.frozen? p := World.frozen?_of_block (w := w) (h.block p.block hp hn)
theorem ChP.below {S : Nat → Prop} {w w' : World} (h : ChP S w w') (B : Nat) (hS : ∀ k, S k → B ≤ k) (hB : B ≤ w.heap.size) : Below B w w' :=
  ⟨h.os, h.tape, h.output, h.size, fun k hk => h.block k (Nat.lt_of_lt_of_le hk hB) (fun hm => by have := hS k hm; omega)⟩
theorem own_chP {w w' : World} {S : Nat → Prop} {b e s : Nat} {v : Value} {n : Nat} {xs : List Value} (h : w.ownsRow b e s v n xs) (hc : ChP S w w') (hS : ∀ g, v.ownBlock = some g → ¬ S g) : w'.ownsRow b e s v n xs := by
  obtain ⟨h1, h2⟩ := h
  refine ⟨h1, ?_⟩
  rcases h2 with h2 | ⟨g, cap, cur, rfl, hb, hg, r⟩
  · exact .inl h2
  · exact .inr ⟨g, cap, cur, rfl, hb, (hc.block g (Array.getElem?_eq_some_iff.1 hg).1 (hS g rfl)).trans hg, r⟩
theorem map_chP {H : Type} {P : Program} {k : TypeId} {R : Value → Option (DataW H × List MemPlace)} {w w' : World} {S : Nat → Prop} {M n : Nat} {D : DataW H} (h : w.ownsMap P k R M n D) (hc : ChP S w w') (hM : ¬ S M) : w'.ownsMap P k R M n D := by
  have hlt := h.lt
  obtain ⟨es, clock, hb, r⟩ := h
  exact ⟨es, clock, (hc.block M hlt hM).trans hb, r⟩
theorem chP_turned {w w' : World} {M : Nat} (h : w.mapTurned w' M) : ChP (fun k => k = M) w w' := .grown h.grown (fun r e => by cases e; rfl)

/-! ### The map of the timers -/

theorem keyed : Keyed Tryz.prog 3 := int_keyed Tryz.underlying3
def wf64 (i : Int) : Prop := (Lit.int .i64 i).wf = true
theorem key_of {i : Int} (h : wf64 i) : keyOf Tryz.prog 3 (.int .i64 i) = some (.int .i64 i) := by
  unfold wf64 at h
  simp [keyOf, mapKey, Tryz.underlying3, h]
theorem wf_small {i : Int} (h0 : 0 ≤ i) (h1 : i < 256) : wf64 i := by
  have e1 : IntKind.i64.min = -9223372036854775808 := by decide
  have e2 : IntKind.i64.max = 9223372036854775807 := by decide
  unfold wf64 Lit.wf
  simp [e1, e2]
  omega
theorem is_key (i : Int) : WideAt.IsKeyLit (Lit.int .i64 i) := trivial
theorem lit_inj {i j : Int} (h : (Lit.int .i64 i : Lit) = .int .i64 j) : i = j := by cases h; rfl
/-- A timer as the map holds it. -/
def rv (s : Sp) (p : Nat) : Value := .agg #[.int .i64 (s.lv : Int), .int .i64 s.sl, .int .u64 s.at', .int .u64 s.due, .int .u64 (p : Int)]
def rv0 : Value := .agg #[.int .i64 0, .int .i64 0, .int .u64 0, .int .u64 0, .int .u64 0]
theorem zeroT (w : World) : (zeroValue 108).run Tryz.prog w = .ok rv0 w := by kernel_rfl
def rd (v : Value) : Option (DataW Value × List MemPlace) :=
  match v with
  | .agg cs => match cs.toList with
    | [.int .i64 _, .int .i64 _, .int .u64 _, .int .u64 _, .int .u64 _] => some (.held v, [])
    | _ => none
  | _ => none
theorem rd_mk (s : Sp) (p : Nat) : rd (rv s p) = some (.held (rv s p), []) := rfl
theorem rd_0 : rd rv0 = some (.held rv0, []) := rfl
theorem rd_inv {v : Value} {y : DataW Value × List MemPlace} (h : rd v = some y) : y = (.held v, []) := by
  unfold rd at h
  split at h
  · split at h
    · cases h; rfl
    · cases h
  · cases h

/-- The map's reading D holds just the timers of L. -/
structure Vw (D : DataW Value) (L : List Tm) : Prop where
  tidy : Tidy D
  mem : ∀ t ∈ L, ∀ z, D.atKey (.int .i64 t.id) z = .held (rv t.sp t.put)
  all : ∀ l, has D l = true → ∃ t ∈ L, l = .int .i64 t.id
  nd : (L.map (·.id)).Nodup
  sz : size D = L.length
theorem Vw.empty : Vw (.map []) [] := ⟨tidy_empty, by simp, fun l h => by simp [has] at h, by simp, rfl⟩
theorem Vw.has {D : DataW Value} {L : List Tm} (h : Vw D L) {t : Tm} (ht : t ∈ L) : Maps.has D (.int .i64 t.id) = true := has_true_of_atKey (h.mem t ht)
theorem Vw.hasNot {D : DataW Value} {L : List Tm} (h : Vw D L) {k : Int} (hno : ∀ t ∈ L, t.id ≠ k) : Maps.has D (.int .i64 k) = false := by
  cases hh : Maps.has D (.int .i64 k) with
  | false => rfl
  | true =>
    obtain ⟨t, ht, e1⟩ := h.all _ hh
    exact absurd (lit_inj e1).symm (hno t ht)
theorem Vw.put {D : DataW Value} {L : List Tm} (h : Vw D L) (t : Tm) (hno : ∀ x ∈ L, x.id ≠ t.id) : Vw (D.put (.int .i64 t.id) (.held (rv t.sp t.put))) (L ++ [t]) := by
  have hn := h.hasNot hno
  refine ⟨h.tidy.put (is_key _) _, fun x hx z => ?_, fun l hl => ?_, ?_, ?_⟩
  · rcases List.mem_append.1 hx with hx | hx
    · rw [atKey_put_other (fun e1 => hno x hx (lit_inj e1))]
      exact h.mem x hx z
    · obtain rfl : x = t := by simpa using hx
      exact atKey_put_same h.tidy.isMap (is_key _) _ z
  · by_cases e1 : l = .int .i64 t.id
    · exact ⟨t, by simp, e1⟩
    · rw [has_put_other e1] at hl
      obtain ⟨x, hx, e2⟩ := h.all l hl
      exact ⟨x, by simp [hx], e2⟩
  · rw [List.map_append, List.nodup_append]
    refine ⟨h.nd, by simp, fun a ha b hb => ?_⟩
    obtain rfl : b = t.id := by simpa using hb
    obtain ⟨x, hx, e1⟩ := List.mem_map.1 ha
    rw [← e1]
    exact hno x hx
  · rw [size_put h.tidy, hn, h.sz]; simp
/-- All but one. -/
def less (L : List Tm) (k : Int) : List Tm := L.filter fun t => decide (t.id ≠ k)
theorem less_mem {L : List Tm} {k : Int} {t : Tm} : t ∈ less L k ↔ t ∈ L ∧ t.id ≠ k := by simp [less]
theorem less_length {L : List Tm} (hnd : (L.map (·.id)).Nodup) {t : Tm} (ht : t ∈ L) : (less L t.id).length + 1 = L.length := by
  induction L with
  | nil => simp at ht
  | cons a r ih =>
    rw [List.map_cons, List.nodup_cons] at hnd
    unfold less at *
    by_cases e : a.id = t.id
    · have hr : r.filter (fun x => decide (x.id ≠ t.id)) = r := by
        rw [List.filter_eq_self]
        intro x hx
        have : x.id ≠ t.id := fun e2 => hnd.1 (List.mem_map.2 ⟨x, hx, by rw [e2, e]⟩)
        simpa using this
      rw [List.filter_cons, if_neg (by simp [e]), hr]
      simp
    · have ht2 : t ∈ r := by
        rcases List.mem_cons.1 ht with rfl | h
        · exact absurd rfl e
        · exact h
      rw [List.filter_cons, if_pos (by simpa using e)]
      have := ih hnd.2 ht2
      simp only [List.length_cons]
      omega
theorem Vw.del {D : DataW Value} {L : List Tm} {t : Tm} (h : Vw D L) (ht : t ∈ L) : Vw (D.del (.int .i64 t.id)) (less L t.id) := by
  have hh := h.has ht
  refine ⟨h.tidy.del _, fun x hx z => ?_, fun l hl => ?_, (List.Sublist.map _ List.filter_sublist).nodup h.nd, ?_⟩
  · obtain ⟨hx, hne⟩ := less_mem.1 hx
    rw [atKey_del_other (fun e1 => hne (lit_inj e1))]
    exact h.mem x hx z
  · by_cases e1 : l = .int .i64 t.id
    · rw [e1, has_del_same] at hl; cases hl
    · rw [has_del_other e1] at hl
      obtain ⟨x, hx, e2⟩ := h.all l hl
      exact ⟨x, less_mem.2 ⟨hx, fun e3 => e1 (by rw [e2, e3])⟩, e2⟩
  · have h1 := size_del (k := .int .i64 t.id) h.tidy
    rw [hh, h.sz] at h1
    have h2 := less_length h.nd ht
    simp at h1
    omega

/-- The map of the timers, nil or not. -/
def HeldAt (w : World) (m : Option Nat) (L : List Tm) : Prop := (m = none ∧ L = []) ∨ ∃ b D, m = some b ∧ w.ownsMap Tryz.prog 3 rd b L.length D ∧ Vw D L
theorem HeldAt.chP {w w' : World} {S : Nat → Prop} {m : Option Nat} {L : List Tm} (h : HeldAt w m L) (hc : ChP S w w') (hS : ∀ b, m = some b → ¬ S b) : HeldAt w' m L := by
  rcases h with h | ⟨b, D, rfl, ho, hv⟩
  · exact .inl h
  · exact .inr ⟨b, D, rfl, map_chP ho hc (hS b rfl), hv⟩
/-- What a look into the map tells. -/
def lookV (L : List Tm) (k : Int) : Value := match L.find? (fun t => decide (t.id = k)) with | some t => rv t.sp t.put | none => rv0
def lookB (L : List Tm) (k : Int) : Bool := (L.find? fun t => decide (t.id = k)).isSome
theorem find_in {L : List Tm} (hnd : (L.map (·.id)).Nodup) {t : Tm} (ht : t ∈ L) : L.find? (fun x => decide (x.id = t.id)) = some t := by
  induction L with
  | nil => simp at ht
  | cons a r ih =>
    rw [List.map_cons, List.nodup_cons] at hnd
    rcases List.mem_cons.1 ht with rfl | h
    · simp
    · have : a.id ≠ t.id := fun e => hnd.1 (List.mem_map.2 ⟨t, h, e.symm⟩)
      simp [this, ih hnd.2 h]
theorem find_no {L : List Tm} {k : Int} (hno : ∀ t ∈ L, t.id ≠ k) : L.find? (fun x => decide (x.id = k)) = none := by
  rw [List.find?_eq_none]
  intro x hx
  simpa using hno x hx
theorem in_or_no (L : List Tm) (k : Int) : (∃ t ∈ L, t.id = k) ∨ ∀ t ∈ L, t.id ≠ k := by
  by_cases h : ∃ t ∈ L, t.id = k
  · exact .inl h
  · exact .inr fun t ht e => h ⟨t, ht, e⟩
theorem look_run {w : World} {m : Option Nat} {L : List Tm} (h : HeldAt w m L) {k : Int} (hk : wf64 k) :
    (Instr.lookup 102 (.map m) (.int .i64 k) true).run Tryz.prog w = .ok (.tuple #[lookV L k, .bool (lookB L k)]) w ∧
    (Instr.lookup 102 (.map m) (.int .i64 k) false).run Tryz.prog w = .ok (lookV L k) w := by
  rcases h with ⟨rfl, rfl⟩ | ⟨b, D, rfl, ho, hv⟩
  · exact ⟨Maps.look_nil true keyed Tryz.underlying102 (zeroT w) (key_of hk), Maps.look_nil false keyed Tryz.underlying102 (zeroT w) (key_of hk)⟩
  · obtain ⟨v, ps, hrun, hv2⟩ := ho.look_ok keyed Tryz.underlying102 (zeroT w) rd_0 (key_of hk)
    obtain ⟨v', ps', hrun', hv2'⟩ := ho.lookup keyed Tryz.underlying102 (zeroT w) rd_0 (key_of hk)
    have e1 := rd_inv hv2
    have e2 := rd_inv hv2'
    unfold lookV lookB
    rcases in_or_no L k with ⟨t, ht, rfl⟩ | hno
    · rw [find_in hv.nd ht]
      have h1 := hv.mem t ht (.held rv0)
      rw [h1] at e1 e2
      rw [hv.has ht] at hrun
      simp at e1 e2
      rw [← e1.1] at hrun
      rw [← e2.1] at hrun'
      exact ⟨hrun, hrun'⟩
    · rw [find_no hno]
      have hn := hv.hasNot hno
      rw [atKey_of_not_has hn] at e1 e2
      rw [hn] at hrun
      simp at e1 e2
      rw [← e1.1] at hrun
      rw [← e2.1] at hrun'
      exact ⟨hrun, hrun'⟩

/-! ### The wheel -/

/-- The numbers of those in a slot, in the order in which they were put. -/
def inSlot (L : List Tm) (i : Nat) : List Int := (L.filter fun t => decide ((t.sp.lv : Int) * 64 + t.sp.sl = (i : Int))).map (·.id)
def iv (x : Int) : Value := .int .i64 x
/-- What holds of the timers that a wheel holds. -/
structure WI (now : Int) (puts : Nat) (L : List Tm) : Prop where
  wd : Wd now
  rise : Rising L
  lt : ∀ t ∈ L, t.put < puts
  fits : ∀ t ∈ L, Fits now t.sp
  nd : (L.map (·.id)).Nodup
  ids : ∀ t ∈ L, 0 ≤ t.id ∧ t.id < 256
/-- A wheel's memory: what its map tells (Lm), its slots (Ls), its masks (Lk). -/
structure WC (w : World) (base B : Nat) (S : Nat → Prop) (now : Int) (puts : Nat) (Lm Ls Lk : List Tm) : Prop where
  c0 : w.cell? ⟨B, 0, none⟩ = some (.int .u64 now)
  c1 : w.cell? ⟨B, 1, none⟩ = some (.int .u64 (puts : Int))
  fr : ∀ o, w.frozen? ⟨B, o, none⟩ = false
  slots : ∃ vs : Nat → Value, (∀ i, i < 512 → w.cell? ⟨B, 2 + i, none⟩ = some (vs i) ∧ w.ownsRow base 3 1 (vs i) (inSlot Ls i).length ((inSlot Ls i).map iv) ∧ ∀ g, (vs i).ownBlock = some g → S g ∧ g ≠ B) ∧
    ∀ i j, i < 512 → j < 512 → i ≠ j → ∀ g, (vs i).ownBlock = some g → (vs j).ownBlock ≠ some g
  masks : ∃ M : Nat → Nat, (∀ n, n < 8 → w.cell? ⟨B, 514 + n, none⟩ = some (.int .u64 ((M n : Nat) : Int))) ∧ MB M Lk
  held : ∃ m, w.cell? ⟨B, 522, none⟩ = some (.map m) ∧ HeldAt w m Lm ∧ ∀ b, m = some b → S b ∧ b ≠ B ∧ base ≤ b
  own : S B
  lo : ∀ k, S k → base ≤ k
structure WB (w : World) (base B : Nat) (S : Nat → Prop) (now : Int) (puts : Nat) (L : List Tm) : Prop where
  wi : WI now puts L
  wc : WC w base B S now puts L L L
  hi : ∀ k, S k → k < w.heap.size
section
variable {w : World} {base B : Nat} {S : Nat → Prop} {now : Int} {puts : Nat} {L : List Tm}
theorem WB.c0 (h : WB w base B S now puts L) : w.cell? ⟨B, 0, none⟩ = some (.int .u64 now) := h.wc.c0
theorem WB.held (h : WB w base B S now puts L) : ∃ m, w.cell? ⟨B, 522, none⟩ = some (.map m) ∧ HeldAt w m L ∧ ∀ b, m = some b → S b ∧ b ≠ B ∧ base ≤ b := h.wc.held
theorem WB.own (h : WB w base B S now puts L) : S B := h.wc.own
theorem WB.lt (h : WB w base B S now puts L) : ∀ k, S k → base ≤ k ∧ k < w.heap.size := fun k hk => ⟨h.wc.lo k hk, h.hi k hk⟩
end
theorem WC.frame {w w' : World} {base B : Nat} {S T : Nat → Prop} {now : Int} {puts : Nat} {Lm Ls Lk : List Tm} (h : WC w base B S now puts Lm Ls Lk) (hc : ChP T w w') (hT : ∀ k, k < w.heap.size → S k → ¬ T k) : WC w' base B S now puts Lm Ls Lk := by
  obtain ⟨vs, h1, h2⟩ := h.slots
  obtain ⟨M, h3, h4⟩ := h.masks
  obtain ⟨m, h5, h6, h7⟩ := h.held
  have hlt : B < w.heap.size := cell_lt h.c0
  have hB := hT B hlt h.own
  refine ⟨(hc.cell hlt hB).trans h.c0, (hc.cell hlt hB).trans h.c1, fun o => (hc.frozen (p := ⟨B, o, none⟩) hlt hB).trans (h.fr o),
    ⟨vs, fun i hi => ⟨(hc.cell hlt hB).trans (h1 i hi).1, own_chP (h1 i hi).2.1 hc (fun g hg => hT g ((h1 i hi).2.1.lt g hg).2 ((h1 i hi).2.2 g hg).1), (h1 i hi).2.2⟩, h2⟩,
    ⟨M, fun n hn => (hc.cell hlt hB).trans (h3 n hn), h4⟩, ⟨m, (hc.cell hlt hB).trans h5, ?_, h7⟩, h.own, h.lo⟩
  rcases h6 with h6 | ⟨b, D, rfl, ho, hv⟩
  · exact .inl h6
  · exact .inr ⟨b, D, rfl, map_chP ho hc (hT b ho.lt (h7 b rfl).1), hv⟩
theorem WC.more {w : World} {base B : Nat} {S T : Nat → Prop} {now : Int} {puts : Nat} {Lm Ls Lk : List Tm} (h : WC w base B S now puts Lm Ls Lk) (hS : ∀ k, k < w.heap.size → S k → T k) (hT : ∀ k, T k → base ≤ k) : WC w base B T now puts Lm Ls Lk := by
  obtain ⟨vs, h1, h2⟩ := h.slots
  obtain ⟨m, h5, h6, h7⟩ := h.held
  refine ⟨h.c0, h.c1, h.fr, ⟨vs, fun i hi => ⟨(h1 i hi).1, (h1 i hi).2.1, fun g hg => ⟨hS g ((h1 i hi).2.1.lt g hg).2 ((h1 i hi).2.2 g hg).1, ((h1 i hi).2.2 g hg).2⟩⟩, h2⟩, h.masks, ⟨m, h5, h6, fun b hb => ⟨hS b ?_ (h7 b hb).1, (h7 b hb).2⟩⟩, hS B (cell_lt h.c0) h.own, hT⟩
  subst hb
  rcases h6 with ⟨h6, _⟩ | ⟨b', D, e, ho, hv⟩
  · cases h6
  · cases e; exact ho.lt
theorem WB.frame {w w' : World} {base B : Nat} {S T : Nat → Prop} {now : Int} {puts : Nat} {L : List Tm} (h : WB w base B S now puts L) (hc : ChP T w w') (hT : ∀ k, S k → ¬ T k) : WB w' base B S now puts L :=
  ⟨h.wi, h.wc.frame hc (fun k _ hk => hT k hk), fun k hk => Nat.lt_of_lt_of_le (h.hi k hk) hc.size⟩
theorem WB.quiet {w w' : World} {base B : Nat} {S : Nat → Prop} {now : Int} {puts : Nat} {L : List Tm} (h : WB w base B S now puts L) (hc : Ch [] w w') : WB w' base B S now puts L :=
  h.frame (T := fun _ => False) (.quiet hc) (fun _ _ => id)
theorem nodup_lt_len : ∀ (n : Nat) (l : List Nat), l.Nodup → (∀ x ∈ l, x < n) → l.length ≤ n
  | 0, l, _, h => by
    cases l with
    | nil => simp
    | cons a t => exact absurd (h a (by simp)) (by omega)
  | n + 1, l, hn, h => by
    have h1 := nodup_lt_len n (l.erase n) (hn.erase n) (fun x hx => by
      have := (List.Nodup.mem_erase_iff hn).1 hx
      have := h x this.2
      omega)
    by_cases hm : n ∈ l
    · have := List.length_erase_of_mem hm
      omega
    · rw [List.erase_of_not_mem hm] at h1
      omega
/-- How many there can be. -/
theorem ids_le {l : List Int} (hn : l.Nodup) (h : ∀ i ∈ l, 0 ≤ i ∧ i < 256) : l.length ≤ 256 := by
  have h1 : (l.map Int.toNat).Nodup := by
    rw [List.nodup_iff_pairwise_ne, List.pairwise_map]
    rw [List.nodup_iff_pairwise_ne] at hn
    refine List.Pairwise.imp_of_mem (fun {a b} ha hb hne => ?_) hn
    have := h a ha
    have := h b hb
    omega
  have h3 := nodup_lt_len 256 _ h1 (fun i hi => by
    obtain ⟨a, ha, rfl⟩ := List.mem_map.1 hi
    have := h a ha
    omega)
  simpa using h3
theorem WI.len {now : Int} {puts : Nat} {L : List Tm} (h : WI now puts L) : L.length ≤ 256 := by
  have := ids_le h.nd (fun i hi => by obtain ⟨t, ht, rfl⟩ := List.mem_map.1 hi; exact h.ids t ht)
  simpa using this
theorem inSlot_len {L : List Tm} (i : Nat) : (inSlot L i).length ≤ L.length := by
  unfold inSlot
  rw [List.length_map]
  exact List.length_filter_le _ _
end Go.Proofs.YtnndofeomakpiaaGreatDoor
namespace Go.Proofs.YtnndofeomakpiaaGreatDoor
open Go.RowKit Go.Maps

attribute [local go_sem] Oper.semAt_some

/-- The cells of a new wheel. -/
def wcells (now : Int) : Array Value := #[.int .u64 now, .int .u64 0] ++ Array.replicate 512 (.slice none 0 0) ++ Array.replicate 8 (.int .u64 0) ++ #[.map none]
theorem built_wheel (now : Int) : Tryz.prog.built 104 [(0, .int .u64 now)] = some (wcells now) := by kernel_rfl
theorem wcells_at (now : Int) : (wcells now)[0]? = some (.int .u64 now) ∧ (wcells now)[1]? = some (.int .u64 0) ∧ (∀ i, i < 512 → (wcells now)[2 + i]? = some (.slice none 0 0)) ∧ (∀ n, n < 8 → (wcells now)[514 + n]? = some (.int .u64 0)) ∧ (wcells now)[522]? = some (.map none) := by
  have h2 : (#[.int .u64 now, .int .u64 0] : Array Value).size = 2 := rfl
  refine ⟨by simp [wcells], by simp [wcells], fun i hi => ?_, fun n hn => ?_, ?_⟩
  · unfold wcells
    rw [Array.getElem?_append, if_pos (by simp; omega), Array.getElem?_append, if_pos (by simp; omega), Array.getElem?_append, if_neg (by simp), h2, show 2 + i - 2 = i by omega]
    simp [hi]
  · unfold wcells
    rw [Array.getElem?_append, if_pos (by simp; omega), Array.getElem?_append, if_neg (by simp)]
    simp only [Array.size_append, h2, Array.size_replicate]
    rw [show 514 + n - (2 + 512) = n by omega]
    simp [hn]
  · unfold wcells
    rw [Array.getElem?_append, if_neg (by simp)]
    simp

theorem new_wheel (now : Int) (w : World) :
    Calls Tryz.prog 24 #[.int .u64 now] w fun e w' => e = .returned (.pointer (some ⟨w.heap.size, 0, none⟩)) ∧ w' = w.alloc (.cells (wcells now) 104) := by
  have hb := built_wheel now
  go_enter Tryz.func24, Tryz.ntmps24
  go_wp2_with (first | (with_reducible refine wpList_build rfl 104 _ rfl ?_ ?_) | fail)
  go_ret
  exact ⟨rfl, rfl⟩
theorem WB.new {now : Int} (h : Wd now) (w : World) {base : Nat} (hb : base ≤ w.heap.size) : WB (w.alloc (.cells (wcells now) 104)) base w.heap.size (fun k => k = w.heap.size) now 0 [] := by
  obtain ⟨p0, p1, p2, p3, p4⟩ := wcells_at now
  have hc : ∀ i, (w.alloc (.cells (wcells now) 104)).cell? ⟨w.heap.size, i, none⟩ = (wcells now)[i]? := fun i => World.cell?_alloc_at _ _ _ _ rfl
  refine ⟨⟨h, List.Pairwise.nil, by simp, by simp, by simp, by simp⟩, ⟨(hc 0).trans p0, (hc 1).trans p1, fun o => World.frozen?_alloc_new w _ _ _, ⟨fun _ => .slice none 0 0, fun i hi => ⟨(hc _).trans (p2 i hi), ?_, by simp [Value.ownBlock]⟩, by simp [Value.ownBlock]⟩,
    ⟨fun _ => 0, fun n hn => (hc _).trans (p3 n hn), fun n _ => ⟨by simp, fun i _ => by simp⟩⟩, ⟨none, (hc _).trans p4, .inl ⟨rfl, rfl⟩, by simp⟩, rfl, fun k hk => by omega⟩, fun k hk => ?_⟩
  · simp [inSlot]
    exact World.ownsRow_nil _ _ _ _
  · subst hk
    simp
theorem new_any {now : Int} (h : Wd now) (w : World) {base : Nat} (hb : base ≤ w.heap.size) (S : Nat) (hS : w.heap.size = S) :
    Calls Tryz.prog 24 #[.int .u64 now] w fun e w' => e = .returned (.pointer (some ⟨S, 0, none⟩)) ∧ WB w' base S (fun k => k = S) now 0 [] ∧ Ch [] w w' ∧ w'.heap.size = S + 1 := by
  subst hS
  refine (new_wheel now w).mono ?_
  rintro e w' ⟨rfl, rfl⟩
  exact ⟨rfl, WB.new h w hb, (Ch.refl [] w).alloc _, by simp⟩

theorem now_any {w : World} {base B : Nat} {S : Nat → Prop} {now : Int} {puts : Nat} {L : List Tm} (h : WB w base B S now puts L) :
    Calls Tryz.prog 40 #[.pointer (some ⟨B, 0, none⟩)] w fun e w' => e = .returned (.int .u64 now) ∧ w' = w := by
  have c0 := h.c0
  clear h
  go_enter Tryz.func40, Tryz.ntmps40
  go_wp2
  go_ret
  exact ⟨rfl, rfl⟩
theorem len_any {w : World} {base B : Nat} {S : Nat → Prop} {now : Int} {puts : Nat} {L : List Tm} (h : WB w base B S now puts L) :
    Calls Tryz.prog 46 #[.pointer (some ⟨B, 0, none⟩)] w fun e w' => e = .returned (.int .i64 (L.length : Int)) ∧ w' = w := by
  obtain ⟨m, c, hh, -⟩ := h.held
  clear h
  have hl : ∀ ty, (Builtin.len_ #[102] ty #[.map m]).run Tryz.prog w = .ok (.int .i64 (L.length : Int)) w := fun ty => by
    rcases hh with ⟨rfl, rfl⟩ | ⟨b, D, rfl, ho, hv⟩
    · exact Maps.len_nil Tryz.underlying102 ty
    · have := ho.len Tryz.underlying102 ty
      rw [hv.sz] at this
      exact this
  clear hh
  go_enter Tryz.func46, Tryz.ntmps46
  go_wp2
  go_ret
  exact ⟨rfl, rfl⟩
/-- Where a timer stands; the zero spot: nowhere. -/
def sp0 : Sp := ⟨0, 0, 0, 0⟩
def findS (L : List Tm) (k : Int) : Sp := match L.find? (fun t => decide (t.id = k)) with | some t => t.sp | none => sp0
def findP (L : List Tm) (k : Int) : Nat := match L.find? (fun t => decide (t.id = k)) with | some t => t.put | none => 0
theorem lookV_eq (L : List Tm) (k : Int) : lookV L k = .agg #[.int .i64 ((findS L k).lv : Int), .int .i64 (findS L k).sl, .int .u64 (findS L k).at', .int .u64 (findS L k).due, .int .u64 ((findP L k : Nat) : Int)] := by
  unfold lookV findS findP
  cases L.find? (fun t => decide (t.id = k)) <;> rfl
theorem find_any {w : World} {base B : Nat} {S : Nat → Prop} {now : Int} {puts : Nat} {L : List Tm} (h : WB w base B S now puts L) {k : Int} (hk : wf64 k) :
    Calls Tryz.prog 38 #[.pointer (some ⟨B, 0, none⟩), .int .i64 k] w fun e w' => e = .returned (.tuple #[spV (findS L k), .bool (lookB L k)]) ∧ Ch [] w w' := by
  obtain ⟨m, c, hh, -⟩ := h.held
  have hB := (h.lt B h.own).2
  have hl := (look_run (hh.chP (.quiet ((Ch.refl [] w).alloc (.cells #[.int .i64 0, .int .i64 0, .int .u64 0, .int .u64 0] 40))) (S := fun _ => False) (fun _ _ => id)) hk).1
  rw [lookV_eq] at hl
  obtain ⟨s, hs⟩ : ∃ s, s = findS L k := ⟨_, rfl⟩
  obtain ⟨b, hb⟩ : ∃ b, b = lookB L k := ⟨_, rfl⟩
  obtain ⟨p, hp⟩ : ∃ p, p = findP L k := ⟨_, rfl⟩
  rw [← hs, ← hb, ← hp] at hl
  rw [← hs, ← hb]
  obtain ⟨lv, sl, at', due⟩ := s
  clear hs hb hp h hh
  go_enter Tryz.func38, Tryz.ntmps38
  go_wp2
  obtain ⟨k0, k1, k2, k3⟩ := Four.new w (.int .i64 (lv : Int)) (.int .i64 sl) (.int .u64 at') (.int .u64 due) 40
  refine bodyPost_ret (v := .tuple #[.agg #[.int .i64 (lv : Int), .int .i64 sl, .int .u64 at', .int .u64 due], .bool b]) ?_ rfl ?_
  · simp [results, Tryz.f38, go_sem]
  · exact ⟨rfl, ((Ch.refl [] w).alloc _).alloc _⟩
end Go.Proofs.YtnndofeomakpiaaGreatDoor
namespace Go.Proofs.YtnndofeomakpiaaGreatDoor
open Go.RowKit Go.Maps

attribute [local go_sem] Oper.semAt_some

/-- The masks as a value. -/
def mv (M : Nat → Nat) : Value := .agg #[.int .u64 ((M 0 : Nat) : Int), .int .u64 ((M 1 : Nat) : Int), .int .u64 ((M 2 : Nat) : Int), .int .u64 ((M 3 : Nat) : Int), .int .u64 ((M 4 : Nat) : Int), .int .u64 ((M 5 : Nat) : Int), .int .u64 ((M 6 : Nat) : Int), .int .u64 ((M 7 : Nat) : Int)]
def updM (M : Nat → Nat) (n v : Nat) : Nat → Nat := fun k => if k = n then v else M k
/-- Eight masks in a block. -/
structure Eight (w : World) (b : Nat) (M : Nat → Nat) : Prop where
  at' : ∀ n, n < 8 → w.cell? ⟨b, n, none⟩ = some (.int .u64 ((M n : Nat) : Int))
  fr : ∀ n, w.frozen? ⟨b, n, none⟩ = false
theorem Eight.new (w : World) (M : Nat → Nat) (t : TypeId) : Eight (w.alloc (.cells #[.int .u64 ((M 0 : Nat) : Int), .int .u64 ((M 1 : Nat) : Int), .int .u64 ((M 2 : Nat) : Int), .int .u64 ((M 3 : Nat) : Int), .int .u64 ((M 4 : Nat) : Int), .int .u64 ((M 5 : Nat) : Int), .int .u64 ((M 6 : Nat) : Int), .int .u64 ((M 7 : Nat) : Int)] t)) w.heap.size M := by
  refine ⟨fun n hn => ?_, fun n => World.frozen?_alloc_new w _ _ _⟩
  rw [World.cell?_alloc_at _ _ _ _ rfl]
  rcases eight hn with e | e | e | e | e | e | e | e <;> subst e <;> rfl
theorem Eight.lt {w : World} {b : Nat} {M : Nat → Nat} (h : Eight w b M) : b < w.heap.size := cell_lt (h.at' 0 (by decide))
theorem Eight.chP {S : Nat → Prop} {w w' : World} {b : Nat} {M : Nat → Nat} (h : Eight w b M) (hc : ChP S w w') (hb : ¬ S b) : Eight w' b M :=
  ⟨fun n hn => (hc.cell (p := ⟨b, n, none⟩) h.lt hb).trans (h.at' n hn), fun n => (hc.frozen (p := ⟨b, n, none⟩) h.lt hb).trans (h.fr n)⟩
theorem Eight.quiet {w w' : World} {b : Nat} {M : Nat → Nat} (h : Eight w b M) (hc : Ch [] w w') : Eight w' b M := h.chP (S := fun _ => False) (.quiet hc) id
theorem Eight.set {w : World} {b : Nat} {M : Nat → Nat} (h : Eight w b M) {n : Nat} (hn : n < 8) (v : Nat) : Eight (w.setCell ⟨b, n, none⟩ (.int .u64 (v : Int))) b (updM M n v) := by
  refine ⟨fun k hk => ?_, fun k => by simpa using h.fr k⟩
  unfold updM
  by_cases e : k = n
  · subst e
    rw [if_pos rfl]
    exact setCell_same (h.at' k hk)
  · rw [if_neg e]
    exact setCell_other (h.at' k hk) (addr_ne_off (fun e2 => e e2.symm))

theorem setRow_chP (w : World) (g : Nat) (cs : Array Value) : ChP (fun k => k = g) w (w.setRow g cs) := by
  refine ⟨rfl, rfl, rfl, ?_, fun k _ hn => ?_⟩
  · show w.heap.size ≤ (w.heap.modify g _).size
    rw [Array.size_modify]
    exact Nat.le_refl _
  · show (w.heap.modify g _)[k]? = w.heap[k]?
    rw [Array.getElem?_modify, if_neg (fun e => hn e.symm)]
theorem Eight.row {w : World} {g : Nat} {old : Array Value} {t : TypeId} (h : w.heap[g]? = some (.cells old t (0, 0))) (M : Nat → Nat) : Eight (w.setRow g #[.int .u64 ((M 0 : Nat) : Int), .int .u64 ((M 1 : Nat) : Int), .int .u64 ((M 2 : Nat) : Int), .int .u64 ((M 3 : Nat) : Int), .int .u64 ((M 4 : Nat) : Int), .int .u64 ((M 5 : Nat) : Int), .int .u64 ((M 6 : Nat) : Int), .int .u64 ((M 7 : Nat) : Int)]) g M := by
  have h1 := setRow_heap w g old #[.int .u64 ((M 0 : Nat) : Int), .int .u64 ((M 1 : Nat) : Int), .int .u64 ((M 2 : Nat) : Int), .int .u64 ((M 3 : Nat) : Int), .int .u64 ((M 4 : Nat) : Int), .int .u64 ((M 5 : Nat) : Int), .int .u64 ((M 6 : Nat) : Int), .int .u64 ((M 7 : Nat) : Int)] t (0, 0) h
  refine ⟨fun n hn => ?_, fun n => by simp [World.frozen?, h1]⟩
  simp only [World.cell?, h1]
  rcases eight hn with e | e | e | e | e | e | e | e <;> subst e <;> rfl

set_option maxRecDepth 100000 in
set_option maxHeartbeats 4000000 in
theorem with_spot {M : Nat → Nat} (hM : ∀ n, n < 8 → M n < 18446744073709551616) {n : Nat} (hn : n < 8) (sl a d : Int) (w : World) :
    Calls Tryz.prog 66 #[mv M, .agg #[.int .i64 (n : Int), .int .i64 sl, .int .u64 a, .int .u64 d]] w fun e w' => e = .returned (mv (updM M n (Mk.withN (M n) [sl]))) ∧ Ch [] w w' := by
  have HE := Lib.hid (Eight.new w M 101)
  have HW := Lib.hid (fun (W : World) (g : Nat) (hc : W.cell? ⟨g, 0, none⟩ = some (.int .i64 sl)) =>
    show Calls Tryz.prog 49 #[.int .u64 ((M n : Nat) : Int), .slice (some ⟨g, 0, none⟩) 1 1] W fun e w' => e = .returned (.int .u64 ((Mk.withN (M n) [sl] : Nat) : Int)) ∧ W = w' from
    Mk.with_any (M n) (hM n hn) (some ⟨g, 0, none⟩) 1 [sl] W (by simp) (.inr ⟨g, 0, rfl, fun i hi => by
      obtain rfl : i = 0 := by simpa using hi
      simpa using hc⟩))
  obtain ⟨v, hv⟩ : ∃ v, v = Mk.withN (M n) [sl] := ⟨_, rfl⟩
  rw [← hv] at HW ⊢
  obtain ⟨U, hU⟩ : ∃ U, U = updM M n v := ⟨_, rfl⟩
  rw [← hU]
  have HU := Lib.hid hU
  clear hv hU
  have b0 : (0 : Int) ≤ (n : Int) := by omega
  have b1 : (n : Int) < 8 := by omega
  have b2 : ((n : Int)).toNat = n := by omega
  obtain ⟨X, hX⟩ : ∃ X : Obj, X = .cells #[.int .u64 ((M 0 : Nat) : Int), .int .u64 ((M 1 : Nat) : Int), .int .u64 ((M 2 : Nat) : Int), .int .u64 ((M 3 : Nat) : Int), .int .u64 ((M 4 : Nat) : Int), .int .u64 ((M 5 : Nat) : Int), .int .u64 ((M 6 : Nat) : Int), .int .u64 ((M 7 : Nat) : Int)] 101 := ⟨_, rfl⟩
  obtain ⟨Y, hY⟩ : ∃ Y : Obj, Y = .cells #[.int .i64 (n : Int), .int .i64 sl, .int .u64 a, .int .u64 d] 40 := ⟨_, rfl⟩
  obtain ⟨Z, hZ⟩ : ∃ Z : Obj, Z = .cells #[.int .u64 0, .int .u64 0, .int .u64 0, .int .u64 0, .int .u64 0, .int .u64 0, .int .u64 0, .int .u64 0] 101 := ⟨_, rfl⟩
  obtain ⟨W, hW⟩ : ∃ W, W = ((w.alloc X).alloc Y).alloc Z := ⟨_, rfl⟩
  have hq : Ch [] w W := by rw [hW]; exact (((Ch.refl [] w).alloc _).alloc _).alloc _
  have hq1 : Ch [] (w.alloc X) W := by rw [hW]; exact ((Ch.refl [] _).alloc _).alloc _
  have hq2 : Ch [] ((w.alloc X).alloc Y) W := by rw [hW]; exact (Ch.refl [] _).alloc _
  have hE : Eight W w.heap.size M := by rw [← hX] at HE; exact HE.out.quiet hq1
  have hF : Four W (w.heap.size + 1) (.int .i64 (n : Int)) (.int .i64 sl) (.int .u64 a) (.int .u64 d) := by
    have := (Four.new (w.alloc X) (.int .i64 (n : Int)) (.int .i64 sl) (.int .u64 a) (.int .u64 d) 40)
    rw [← hY, World.size_alloc] at this
    exact this.ch hq2 (by simp)
  have e0 := hE.at' n hn
  have ef := hE.fr n
  have e1 := hF.c0
  have e2 := hF.c1
  have f1 : (W.alloc (.cells #[.int .i64 sl] 3)).drew.cell? ⟨w.heap.size + 1, 0, none⟩ = some (.int .i64 (n : Int)) := (World.cell?_alloc_past _ _ _ (cell_lt e1)).trans e1
  have f2 : (W.alloc (.cells #[.int .i64 sl] 3)).drew.cell? ⟨w.heap.size + 1, 1, none⟩ = some (.int .i64 sl) := (World.cell?_alloc_past _ _ _ (cell_lt e2)).trans e2
  have hE3 := hE.quiet ((Ch.refl [] W).alloc (.cells #[.int .i64 sl] 3))
  have HE2 := Lib.hid (hE3.set hn v)
  have fz : (W.alloc (.cells #[.int .i64 sl] 3)).drew.frozen? ⟨w.heap.size, n, none⟩ = false := hE3.fr n
  have fc : (W.alloc (.cells #[.int .i64 sl] 3)).drew.cell? ⟨w.heap.size, n, none⟩ = some (.int .u64 ((M n : Nat) : Int)) := hE3.at' n hn
  have HQ := Lib.hid hq
  have HZ := Lib.hid (show W.heap[w.heap.size + 1 + 1]? = some (.cells #[.int .u64 0, .int .u64 0, .int .u64 0, .int .u64 0, .int .u64 0, .int .u64 0, .int .u64 0, .int .u64 0] 101 (0, 0)) by
    rw [hW, ← hZ]
    have := World.alloc_heap_new ((w.alloc X).alloc Y) Z
    rwa [World.size_alloc, World.size_alloc] at this)
  clear hE hE3 hF hq hq1 hq2
  unfold mv
  go_enter Tryz.func66, Tryz.ntmps66
  go_wp2_with fail
  rw [← hX, ← hY, ← hZ, ← hW]
  clear hX hY hZ hW HE
  refine wp_region_noPanic ?_
  refine wp_region_lastL _ (by kernel_rfl) rfl (by kernel_rfl) (fun w' => w'.cell? ⟨w.heap.size + 1, 0, none⟩ = some (.int .i64 (n : Int)) ∧ w'.cell? ⟨w.heap.size + 1, 1, none⟩ = some (.int .i64 sl) ∧ w'.cell? ⟨w.heap.size, n, none⟩ = some (.int .u64 ((M n : Nat) : Int))) ⟨e1, e2, e0⟩ (fun hHeld => ?_)
  simp only [List.dropLast_cons_cons, List.dropLast_singleton, List.length_cons, List.length_nil]
  refine wpAnyH_take (i := 0) (v := ?v1_0) rfl (by kernel_rfl) (by kernel_rfl) (by kernel_rfl) (fun _ _ _ h => h) (Or.inl ⟨by rfl, ?y1_0⟩) (by assumption) ?_
  case y1_0 => intro w hSw; obtain ⟨s0, s1, s2⟩ := hSw; go_simp; with_reducible rfl
  try simp only [Act.put, List.getElem_toArray, List.getElem_cons_zero, List.setIfInBounds_toArray, List.set_cons_zero, List.set_cons_succ]
  refine wpAnyH_take (i := 1) (v := ?v1_1) rfl (by kernel_rfl) (by kernel_rfl) (by kernel_rfl) (fun _ _ _ h => h) (Or.inl ⟨by rfl, ?y1_1⟩) (by assumption) ?_
  case y1_1 => intro w hSw; obtain ⟨s0, s1, s2⟩ := hSw; go_simp; with_reducible rfl
  try simp only [Act.put, List.getElem_toArray, List.getElem_cons_succ, List.getElem_cons_zero, List.setIfInBounds_toArray, List.set_cons_zero, List.set_cons_succ]
  refine wpAnyH_take (i := 2) (v := ?v1_2) rfl (by kernel_rfl) (by kernel_rfl) (by kernel_rfl) (fun _ _ _ h => h) (Or.inl ⟨by rfl, ?y1_2⟩) (by assumption) ?_
  case y1_2 => intro w hSw; obtain ⟨s0, s1, s2⟩ := hSw; go_simp; with_reducible rfl
  try simp only [Act.put, List.getElem_toArray, List.getElem_cons_succ, List.getElem_cons_zero, List.setIfInBounds_toArray, List.set_cons_zero, List.set_cons_succ]
  refine wpAnyH_take (i := 3) (v := ?v1_3) rfl (by kernel_rfl) (by kernel_rfl) (by kernel_rfl) (fun _ _ _ h => h) (Or.inl ⟨by rfl, ?y1_3⟩) (by assumption) ?_
  case y1_3 => intro w hSw; obtain ⟨s0, s1, s2⟩ := hSw; go_simp; with_reducible rfl
  try simp only [Act.put, List.getElem_toArray, List.getElem_cons_succ, List.getElem_cons_zero, List.setIfInBounds_toArray, List.set_cons_zero, List.set_cons_succ]
  refine wpAnyH_take (i := 4) (v := ?v1_4) rfl (by kernel_rfl) (by kernel_rfl) (by kernel_rfl) (fun _ _ _ h => h) (Or.inl ⟨by rfl, ?y1_4⟩) (by assumption) ?_
  case y1_4 => intro w hSw; obtain ⟨s0, s1, s2⟩ := hSw; go_simp; with_reducible rfl
  try simp only [Act.put, List.getElem_toArray, List.getElem_cons_succ, List.getElem_cons_zero, List.setIfInBounds_toArray, List.set_cons_zero, List.set_cons_succ]
  refine wpAnyH_take (i := 5) (v := ?v1_5) rfl (by kernel_rfl) (by kernel_rfl) (by kernel_rfl) (fun _ _ _ h => h) (Or.inl ⟨by rfl, ?y1_5⟩) (by assumption) ?_
  case y1_5 => intro w hSw; obtain ⟨s0, s1, s2⟩ := hSw; go_simp; with_reducible rfl
  try simp only [Act.put, List.getElem_toArray, List.getElem_cons_succ, List.getElem_cons_zero, List.setIfInBounds_toArray, List.set_cons_zero, List.set_cons_succ]
  refine wpAnyH_take (i := 6) (v := ?v1_6) rfl (by kernel_rfl) (by kernel_rfl) (by kernel_rfl) (fun _ _ _ h => h) (Or.inl ⟨by rfl, ?y1_6⟩) (by assumption) ?_
  case y1_6 => intro w hSw; obtain ⟨s0, s1, s2⟩ := hSw; go_simp; with_reducible rfl
  try simp only [Act.put, List.getElem_toArray, List.getElem_cons_succ, List.getElem_cons_zero, List.setIfInBounds_toArray, List.set_cons_zero, List.set_cons_succ]
  refine wpAnyH_take (i := 7) (v := ?v1_7) rfl (by kernel_rfl) (by kernel_rfl) (by kernel_rfl) (fun _ _ _ h => h) (Or.inl ⟨by rfl, ?y1_7⟩) (by assumption) ?_
  case y1_7 => intro w hSw; obtain ⟨s0, s1, s2⟩ := hSw; go_simp; with_reducible rfl
  try simp only [Act.put, List.getElem_toArray, List.getElem_cons_succ, List.getElem_cons_zero, List.setIfInBounds_toArray, List.set_cons_zero, List.set_cons_succ]
  refine wpAnyH_ready (rs := [8]) (by kernel_rfl) (by simp) ?_
  refine AllReadyH.cons rfl (fun K hK => ?_) AllReadyH.nil
  go_simp
  refine hK.out _ _ ⟨f1, f2, fc⟩ (fun hHeld => ?_)
  clear hK K
  try simp only [Act.put, List.getElem_toArray, List.getElem_cons_succ, List.getElem_cons_zero, List.setIfInBounds_toArray, List.set_cons_zero, List.set_cons_succ]
  refine wpAnyH_ready (rs := [9]) (by kernel_rfl) (by simp) ?_
  refine AllReadyH.cons rfl (fun K hK => ?_) AllReadyH.nil
  go_simp
  refine (HW.out (W.alloc (.cells #[.int .i64 sl] 3)).drew W.heap.size (cell_new W _ _).1).mono ?_
  rintro e w' ⟨rfl, rfl⟩
  try go_simp
  refine hK.out _ _ ⟨f1, f2, fc⟩ (fun hHeld => ?_)
  clear hK K
  try simp only [Act.put, List.getElem_toArray, List.getElem_cons_succ, List.getElem_cons_zero, List.setIfInBounds_toArray, List.set_cons_zero, List.set_cons_succ]
  refine wpAnyH_take (i := 10) (v := ?v1_10) rfl (by kernel_rfl) (by kernel_rfl) (by kernel_rfl) (fun _ _ _ h => h) (Or.inl ⟨by rfl, ?y1_10⟩) (by assumption) ?_
  case y1_10 => intro w hSw; obtain ⟨s0, s1, s2⟩ := hSw; go_simp; with_reducible rfl
  try simp only [Act.put, List.getElem_toArray, List.getElem_cons_succ, List.getElem_cons_zero, List.setIfInBounds_toArray, List.set_cons_zero, List.set_cons_succ]
  refine wpAnyH_done (by kernel_rfl) ?_ _
  unfold lastPost
  simp only []
  go_simp
  refine NoPanic.normal ?_
  obtain ⟨W2, hW2⟩ : ∃ W2, W2 = ((W.alloc (.cells #[.int .i64 sl] 3)).setCell ⟨w.heap.size, n, none⟩ (.int .u64 (v : Int))).drew := ⟨_, rfl⟩
  have hE2 : Eight W2 w.heap.size U := by rw [hW2, HU.out]; exact ⟨HE2.out.at', HE2.out.fr⟩
  have hZ2 : W2.heap[w.heap.size + 1 + 1]? = some (.cells #[.int .u64 0, .int .u64 0, .int .u64 0, .int .u64 0, .int .u64 0, .int .u64 0, .int .u64 0, .int .u64 0] 101 (0, 0)) := by
    have hlt := (Array.getElem?_eq_some_iff.1 HZ.out).1
    rw [hW2]
    exact (Below.heap_setCell _ _ _ _ (by simp; omega)).trans ((Below.heap_alloc _ _ _ hlt).trans HZ.out)
  have hQ2 : Ch [] w W2 := by rw [hW2]; exact Ch.fresh HQ.out ((((Ch.refl [w.heap.size] W).alloc _).setCell (p := ⟨w.heap.size, n, none⟩) (by simp) _).drew) (by simp)
  rw [← hW2]
  clear hW2 HE2 HZ HQ HW e0 ef e1 e2 f1 f2 fc fz hHeld
  have HQ2 := Lib.hid hQ2
  have q0 := hE2.at' 0 (by decide)
  have q1 := hE2.at' 1 (by decide)
  have q2 := hE2.at' 2 (by decide)
  have q3 := hE2.at' 3 (by decide)
  have q4 := hE2.at' 4 (by decide)
  have q5 := hE2.at' 5 (by decide)
  have q6 := hE2.at' 6 (by decide)
  have q7 := hE2.at' 7 (by decide)
  clear hE2 hQ2
  go_wp2_with (first | (refine wpList_store_row rfl 101 (.tmp 4) (.tmp 16) rfl (w.heap.size + 1 + 1) _ rfl rfl 101 _ hZ2 (by kernel_rfl) (by simp) (by simp [Value.oneCell']) ?_) | fail)
  have hR := Eight.row hZ2 U
  have hQ3 := setRow_chP W2 (w.heap.size + 1 + 1) #[.int .u64 ((U 0 : Nat) : Int), .int .u64 ((U 1 : Nat) : Int), .int .u64 ((U 2 : Nat) : Int), .int .u64 ((U 3 : Nat) : Int), .int .u64 ((U 4 : Nat) : Int), .int .u64 ((U 5 : Nat) : Int), .int .u64 ((U 6 : Nat) : Int), .int .u64 ((U 7 : Nat) : Int)]
  generalize W2.setRow (w.heap.size + 1 + 1) #[.int .u64 ((U 0 : Nat) : Int), .int .u64 ((U 1 : Nat) : Int), .int .u64 ((U 2 : Nat) : Int), .int .u64 ((U 3 : Nat) : Int), .int .u64 ((U 4 : Nat) : Int), .int .u64 ((U 5 : Nat) : Int), .int .u64 ((U 6 : Nat) : Int), .int .u64 ((U 7 : Nat) : Int)] = W3 at *
  refine bodyPost_ret (v := mv U) ?_ rfl ⟨rfl, ?_⟩
  · have r0 := hR.at' 0 (by decide)
    have r1 := hR.at' 1 (by decide)
    have r2 := hR.at' 2 (by decide)
    have r3 := hR.at' 3 (by decide)
    have r4 := hR.at' 4 (by decide)
    have r5 := hR.at' 5 (by decide)
    have r6 := hR.at' 6 (by decide)
    have r7 := hR.at' 7 (by decide)
    simp [results, Tryz.f66, go_sem, r0, r1, r2, r3, r4, r5, r6, r7, mv]
  · exact (ChP.fresh (S := fun _ => False) (.quiet HQ2.out) hQ3 (fun k e => .inr (by omega))).ch (fun _ => id)
end Go.Proofs.YtnndofeomakpiaaGreatDoor
namespace Go.Proofs.YtnndofeomakpiaaGreatDoor
open Go.RowKit Go.Maps

attribute [local go_sem] Oper.semAt_some

/-- The masks without the first k spots. -/
def wtM (M : Nat → Nat) (z : Nat → Int × Int × Int × Int) : Nat → Nat → Nat
  | 0 => M
  | k + 1 => updM (wtM M z k) (z k).1.toNat (Mk.withoutN (wtM M z k (z k).1.toNat) [(z k).2.1])
theorem wtM_lt {M : Nat → Nat} (hM : ∀ n, n < 8 → M n < 18446744073709551616) (z : Nat → Int × Int × Int × Int) (k : Nat) : ∀ n, n < 8 → wtM M z k n < 18446744073709551616 := by
  induction k with
  | zero => exact hM
  | succ k ih =>
    intro n hn
    show updM _ _ _ n < _
    unfold updM
    split
    · rename_i e
      rw [← e]
      exact Mk.withoutN_lt _ _ (ih n hn)
    · exact ih n hn

set_option maxRecDepth 100000 in
set_option maxHeartbeats 4000000 in
theorem without_spots {M : Nat → Nat} (hM : ∀ n, n < 8 → M n < 18446744073709551616) {a : Option Addr} {len cap : Nat} {z : Nat → Int × Int × Int × Int} {w : World} (hz : SpotsAt w a len z) (hl : len ≤ 9223372036854775807) (hn : ∀ i, i < len → 0 ≤ (z i).1 ∧ (z i).1 < 8) :
    Calls Tryz.prog 69 #[mv M, .slice a len cap] w fun e w' => e = .returned (mv (wtM M z len)) ∧ Ch [] w w' := by
  have HZ := Lib.hid hz
  have HL := Lib.hid hl
  have HN := Lib.hid hn
  have HM := Lib.hid (wtM_lt hM z)
  have HE := Lib.hid (Eight.new w M 101)
  obtain ⟨X, hX⟩ : ∃ X : Obj, X = .cells #[.int .u64 ((M 0 : Nat) : Int), .int .u64 ((M 1 : Nat) : Int), .int .u64 ((M 2 : Nat) : Int), .int .u64 ((M 3 : Nat) : Int), .int .u64 ((M 4 : Nat) : Int), .int .u64 ((M 5 : Nat) : Int), .int .u64 ((M 6 : Nat) : Int), .int .u64 ((M 7 : Nat) : Int)] 101 := ⟨_, rfl⟩
  obtain ⟨Z, hZ⟩ : ∃ Z : Obj, Z = .cells #[.int .u64 0, .int .u64 0, .int .u64 0, .int .u64 0, .int .u64 0, .int .u64 0, .int .u64 0, .int .u64 0] 101 := ⟨_, rfl⟩
  have HW0 := Lib.hid (show Eight ((w.alloc X).alloc Z) w.heap.size (wtM M z 0) ∧ ((w.alloc X).alloc Z).heap[w.heap.size + 1]? = some Z ∧ Ch [] w ((w.alloc X).alloc Z) by
    rw [← hX] at HE
    refine ⟨HE.out.quiet ((Ch.refl [] _).alloc _), ?_, ((Ch.refl [] w).alloc _).alloc _⟩
    have := World.alloc_heap_new (w.alloc X) Z
    rwa [World.size_alloc] at this)
  clear hz hl hn hM HE
  unfold mv
  go_enter Tryz.func69, Tryz.ntmps69
  go_wp2_with fail
  rw [← hX, ← hZ]
  generalize (w.alloc X).alloc Z = W0 at *
  have HZX := Lib.hid hZ
  clear hX hZ
  go_loopw [9] (fun i wr => ∃ k : Nat, k ≤ len ∧ i = .int .i64 (k : Int) ∧ Eight wr w.heap.size (wtM M z k) ∧ wr.heap[w.heap.size + 1]? = some Z ∧ Ch [] w wr) (fun i _ => len - (intOf i).toNat)
  case atStart => exact ⟨0, Nat.zero_le _, rfl, HW0.out.1, HW0.out.2.1, HW0.out.2.2⟩
  case round =>
    obtain ⟨k, hk, rfl, hE, hZ, hC⟩ := hrel
    have hL := HL.out
    clear HW0
    by_cases hlt : k < len
    · obtain ⟨g, off, rfl, hcell⟩ := (HZ.out.ch hC).at'.resolve_left (by omega)
      obtain ⟨p0, p1, p2, p3⟩ := hcell k hlt
      obtain ⟨h0, h8⟩ := HN.out k hlt
      obtain ⟨n, hnn⟩ := Int.eq_ofNat_of_zero_le h0
      have HS := Lib.hid (show wtM M z (k + 1) = updM (wtM M z k) n (Mk.withoutN (wtM M z k n) [(z k).2.1]) by
        show updM _ _ _ = _
        rw [hnn]
        rfl)
      have hMn := HM.out k n (by omega)
      rw [hnn] at p0 h8
      generalize wtM M z k = U at *
      generalize (z k).2.1 = sl at *
      generalize (z k).2.2.1 = x2 at *
      generalize (z k).2.2.2 = x3 at *
      have HW := Lib.hid (fun (W : World) (g : Nat) (hc : W.cell? ⟨g, 0, none⟩ = some (.int .i64 sl)) =>
        show Calls Tryz.prog 75 #[.int .u64 ((U n : Nat) : Int), .slice (some ⟨g, 0, none⟩) 1 1] W fun e w' => e = .returned (.int .u64 ((Mk.withoutN (U n) [sl] : Nat) : Int)) ∧ W = w' from
        Mk.without_any (U n) hMn (some ⟨g, 0, none⟩) 1 [sl] W (by simp) (.inr ⟨g, 0, rfl, fun i hi => by
          obtain rfl : i = 0 := by simpa using hi
          simpa using hc⟩))
      obtain ⟨v, hv⟩ : ∃ v, v = Mk.withoutN (U n) [sl] := ⟨_, rfl⟩
      rw [← hv] at HW HS
      have b0 : (0 : Int) ≤ (n : Int) := by omega
      have b1 : (n : Int) < 8 := h8
      have b2 : ((n : Int)).toNat = n := by omega
      have hn8 : n < 8 := by omega
      have k0 : (0 : Int) ≤ (k : Int) := by omega
      have k1 : (k : Int) < (len : Int) := by omega
      obtain ⟨Y, hY⟩ : ∃ Y : Obj, Y = .cells #[.int .i64 (n : Int), .int .i64 sl, .int .u64 x2, .int .u64 x3] 40 := ⟨_, rfl⟩
      obtain ⟨W, hW⟩ : ∃ W, W = wr.alloc Y := ⟨_, rfl⟩
      have hq : Ch [] wr W := by rw [hW]; exact (Ch.refl [] _).alloc _
      have hE1 : Eight W w.heap.size U := hE.quiet hq
      have hF : Four W wr.heap.size (.int .i64 (n : Int)) (.int .i64 sl) (.int .u64 x2) (.int .u64 x3) := by
        rw [hW, hY]
        exact Four.new wr (.int .i64 (n : Int)) (.int .i64 sl) (.int .u64 x2) (.int .u64 x3) 40
      have e0 := hE1.at' n hn8
      have ef := hE1.fr n
      have e1 := hF.c0
      have e2 := hF.c1
      have hE3 := hE1.quiet ((Ch.refl [] W).alloc (.cells #[.int .i64 sl] 3))
      have HE2 := Lib.hid (hE3.set hn8 v)
      have f1 : (W.alloc (.cells #[.int .i64 sl] 3)).drew.cell? ⟨wr.heap.size, 0, none⟩ = some (.int .i64 (n : Int)) := (World.cell?_alloc_past _ _ _ (cell_lt e1)).trans e1
      have f2 : (W.alloc (.cells #[.int .i64 sl] 3)).drew.cell? ⟨wr.heap.size, 1, none⟩ = some (.int .i64 sl) := (World.cell?_alloc_past _ _ _ (cell_lt e2)).trans e2
      have fz : (W.alloc (.cells #[.int .i64 sl] 3)).drew.frozen? ⟨w.heap.size, n, none⟩ = false := hE3.fr n
      have fc : (W.alloc (.cells #[.int .i64 sl] 3)).drew.cell? ⟨w.heap.size, n, none⟩ = some (.int .u64 ((U n : Nat) : Int)) := hE3.at' n hn8
      have HZ1 := Lib.hid (show W.heap[w.heap.size + 1]? = some Z by
        rw [hW]
        exact (Below.heap_alloc _ _ _ (Array.getElem?_eq_some_iff.1 hZ).1).trans hZ)
      have HQ := Lib.hid (hC.trans hq)
      clear hE hE1 hE3 hF hq hC hZ hcell hnn h0 h8 hv hMn
      go_wp2_with fail
      rw [← hY, ← hW]
      clear hY hW p0 p1 p2 p3
      refine wp_region_noPanic ?_
      refine wp_region_lastL _ (by kernel_rfl) rfl (by kernel_rfl) (fun w' => w'.cell? ⟨wr.heap.size, 0, none⟩ = some (.int .i64 (n : Int)) ∧ w'.cell? ⟨wr.heap.size, 1, none⟩ = some (.int .i64 sl) ∧ w'.cell? ⟨w.heap.size, n, none⟩ = some (.int .u64 ((U n : Nat) : Int))) ⟨e1, e2, e0⟩ (fun hHeld => ?_)
      simp only [List.dropLast_cons_cons, List.dropLast_singleton, List.length_cons, List.length_nil]
      refine wpAnyH_take (i := 0) (v := ?v1_0) rfl (by kernel_rfl) (by kernel_rfl) (by kernel_rfl) (fun _ _ _ h => h) (Or.inl ⟨by rfl, ?y1_0⟩) (by assumption) ?_
      case y1_0 => intro w hSw; obtain ⟨s0, s1, s2⟩ := hSw; go_simp; with_reducible rfl
      try simp only [Act.put, List.getElem_toArray, List.getElem_cons_zero, List.setIfInBounds_toArray, List.set_cons_zero, List.set_cons_succ]
      refine wpAnyH_take (i := 1) (v := ?v1_1) rfl (by kernel_rfl) (by kernel_rfl) (by kernel_rfl) (fun _ _ _ h => h) (Or.inl ⟨by rfl, ?y1_1⟩) (by assumption) ?_
      case y1_1 => intro w hSw; obtain ⟨s0, s1, s2⟩ := hSw; go_simp; with_reducible rfl
      try simp only [Act.put, List.getElem_toArray, List.getElem_cons_succ, List.getElem_cons_zero, List.setIfInBounds_toArray, List.set_cons_zero, List.set_cons_succ]
      refine wpAnyH_take (i := 2) (v := ?v1_2) rfl (by kernel_rfl) (by kernel_rfl) (by kernel_rfl) (fun _ _ _ h => h) (Or.inl ⟨by rfl, ?y1_2⟩) (by assumption) ?_
      case y1_2 => intro w hSw; obtain ⟨s0, s1, s2⟩ := hSw; go_simp; with_reducible rfl
      try simp only [Act.put, List.getElem_toArray, List.getElem_cons_succ, List.getElem_cons_zero, List.setIfInBounds_toArray, List.set_cons_zero, List.set_cons_succ]
      refine wpAnyH_take (i := 3) (v := ?v1_3) rfl (by kernel_rfl) (by kernel_rfl) (by kernel_rfl) (fun _ _ _ h => h) (Or.inl ⟨by rfl, ?y1_3⟩) (by assumption) ?_
      case y1_3 => intro w hSw; obtain ⟨s0, s1, s2⟩ := hSw; go_simp; with_reducible rfl
      try simp only [Act.put, List.getElem_toArray, List.getElem_cons_succ, List.getElem_cons_zero, List.setIfInBounds_toArray, List.set_cons_zero, List.set_cons_succ]
      refine wpAnyH_take (i := 4) (v := ?v1_4) rfl (by kernel_rfl) (by kernel_rfl) (by kernel_rfl) (fun _ _ _ h => h) (Or.inl ⟨by rfl, ?y1_4⟩) (by assumption) ?_
      case y1_4 => intro w hSw; obtain ⟨s0, s1, s2⟩ := hSw; go_simp; with_reducible rfl
      try simp only [Act.put, List.getElem_toArray, List.getElem_cons_succ, List.getElem_cons_zero, List.setIfInBounds_toArray, List.set_cons_zero, List.set_cons_succ]
      refine wpAnyH_take (i := 5) (v := ?v1_5) rfl (by kernel_rfl) (by kernel_rfl) (by kernel_rfl) (fun _ _ _ h => h) (Or.inl ⟨by rfl, ?y1_5⟩) (by assumption) ?_
      case y1_5 => intro w hSw; obtain ⟨s0, s1, s2⟩ := hSw; go_simp; with_reducible rfl
      try simp only [Act.put, List.getElem_toArray, List.getElem_cons_succ, List.getElem_cons_zero, List.setIfInBounds_toArray, List.set_cons_zero, List.set_cons_succ]
      refine wpAnyH_take (i := 6) (v := ?v1_6) rfl (by kernel_rfl) (by kernel_rfl) (by kernel_rfl) (fun _ _ _ h => h) (Or.inl ⟨by rfl, ?y1_6⟩) (by assumption) ?_
      case y1_6 => intro w hSw; obtain ⟨s0, s1, s2⟩ := hSw; go_simp; with_reducible rfl
      try simp only [Act.put, List.getElem_toArray, List.getElem_cons_succ, List.getElem_cons_zero, List.setIfInBounds_toArray, List.set_cons_zero, List.set_cons_succ]
      refine wpAnyH_take (i := 7) (v := ?v1_7) rfl (by kernel_rfl) (by kernel_rfl) (by kernel_rfl) (fun _ _ _ h => h) (Or.inl ⟨by rfl, ?y1_7⟩) (by assumption) ?_
      case y1_7 => intro w hSw; obtain ⟨s0, s1, s2⟩ := hSw; go_simp; with_reducible rfl
      try simp only [Act.put, List.getElem_toArray, List.getElem_cons_succ, List.getElem_cons_zero, List.setIfInBounds_toArray, List.set_cons_zero, List.set_cons_succ]
      refine wpAnyH_ready (rs := [8]) (by kernel_rfl) (by simp) ?_
      refine AllReadyH.cons rfl (fun K hK => ?_) AllReadyH.nil
      go_simp
      refine hK.out _ _ ⟨f1, f2, fc⟩ (fun hHeld => ?_)
      clear hK K
      try simp only [Act.put, List.getElem_toArray, List.getElem_cons_succ, List.getElem_cons_zero, List.setIfInBounds_toArray, List.set_cons_zero, List.set_cons_succ]
      refine wpAnyH_ready (rs := [9]) (by kernel_rfl) (by simp) ?_
      refine AllReadyH.cons rfl (fun K hK => ?_) AllReadyH.nil
      go_simp
      refine (HW.out (W.alloc (.cells #[.int .i64 sl] 3)).drew W.heap.size (cell_new W _ _).1).mono ?_
      rintro e w' ⟨rfl, rfl⟩
      try go_simp
      refine hK.out _ _ ⟨f1, f2, fc⟩ (fun hHeld => ?_)
      clear hK K
      try simp only [Act.put, List.getElem_toArray, List.getElem_cons_succ, List.getElem_cons_zero, List.setIfInBounds_toArray, List.set_cons_zero, List.set_cons_succ]
      refine wpAnyH_take (i := 10) (v := ?v1_10) rfl (by kernel_rfl) (by kernel_rfl) (by kernel_rfl) (fun _ _ _ h => h) (Or.inl ⟨by rfl, ?y1_10⟩) (by assumption) ?_
      case y1_10 => intro w hSw; obtain ⟨s0, s1, s2⟩ := hSw; go_simp; with_reducible rfl
      try simp only [Act.put, List.getElem_toArray, List.getElem_cons_succ, List.getElem_cons_zero, List.setIfInBounds_toArray, List.set_cons_zero, List.set_cons_succ]
      refine wpAnyH_done (by kernel_rfl) ?_ _
      unfold lastPost
      simp only []
      go_simp
      refine NoPanic.normal ?_
      obtain ⟨W2, hW2⟩ : ∃ W2, W2 = ((W.alloc (.cells #[.int .i64 sl] 3)).setCell ⟨w.heap.size, n, none⟩ (.int .u64 (v : Int))).drew := ⟨_, rfl⟩
      have hE2 : Eight W2 w.heap.size (wtM M z (k + 1)) := by rw [hW2, HS.out]; exact ⟨HE2.out.at', HE2.out.fr⟩
      have hZ2 : W2.heap[w.heap.size + 1]? = some Z := by
        have hlt := (Array.getElem?_eq_some_iff.1 HZ1.out).1
        rw [hW2]
        exact (Below.heap_setCell _ _ _ _ (by simp)).trans ((Below.heap_alloc _ _ _ hlt).trans HZ1.out)
      have hQ2 : Ch [] w W2 := by
        have := HQ.out.size
        rw [hW2]
        exact Ch.fresh HQ.out ((((Ch.refl [w.heap.size] W).alloc _).setCell (p := ⟨w.heap.size, n, none⟩) (by simp) _).drew) (by simp)
      rw [← hW2]
      clear hW2 HE2 HZ1 HQ HW e0 ef e1 e2 f1 f2 fc fz hHeld
      go_wp2_with fail
      go_roundw
      case rel => exact ⟨k + 1, by omega, by go_num, hE2, hZ2, hQ2⟩
      case measure => simp [intOf]; omega
    · obtain rfl : k = len := by omega
      have HQ2 := Lib.hid hC
      obtain ⟨U, hU⟩ : ∃ U, U = wtM M z k := ⟨_, rfl⟩
      rw [← hU] at hE
      have HU := Lib.hid hU
      have HE := Lib.hid hE
      rw [HZX.out] at hZ
      have q0 := hE.at' 0 (by decide)
      have q1 := hE.at' 1 (by decide)
      have q2 := hE.at' 2 (by decide)
      have q3 := hE.at' 3 (by decide)
      have q4 := hE.at' 4 (by decide)
      have q5 := hE.at' 5 (by decide)
      have q6 := hE.at' 6 (by decide)
      have q7 := hE.at' 7 (by decide)
      clear hlt hk hE hC hU
      go_wp2_with (first | (refine wpList_store_row rfl 101 (.tmp 4) (.tmp 25) rfl (w.heap.size + 1) _ rfl rfl 101 _ hZ (by kernel_rfl) (by simp) (by simp [Value.oneCell']) ?_) | fail)
      have hR := Eight.row hZ U
      have hQ3 := setRow_chP wr (w.heap.size + 1) #[.int .u64 ((U 0 : Nat) : Int), .int .u64 ((U 1 : Nat) : Int), .int .u64 ((U 2 : Nat) : Int), .int .u64 ((U 3 : Nat) : Int), .int .u64 ((U 4 : Nat) : Int), .int .u64 ((U 5 : Nat) : Int), .int .u64 ((U 6 : Nat) : Int), .int .u64 ((U 7 : Nat) : Int)]
      generalize wr.setRow (w.heap.size + 1) #[.int .u64 ((U 0 : Nat) : Int), .int .u64 ((U 1 : Nat) : Int), .int .u64 ((U 2 : Nat) : Int), .int .u64 ((U 3 : Nat) : Int), .int .u64 ((U 4 : Nat) : Int), .int .u64 ((U 5 : Nat) : Int), .int .u64 ((U 6 : Nat) : Int), .int .u64 ((U 7 : Nat) : Int)] = W3 at *
      refine bodyPost_ret (v := mv U) ?_ rfl ⟨by rw [HU.out]; rfl, ?_⟩
      · have r0 := hR.at' 0 (by decide)
        have r1 := hR.at' 1 (by decide)
        have r2 := hR.at' 2 (by decide)
        have r3 := hR.at' 3 (by decide)
        have r4 := hR.at' 4 (by decide)
        have r5 := hR.at' 5 (by decide)
        have r6 := hR.at' 6 (by decide)
        have r7 := hR.at' 7 (by decide)
        simp [results, Tryz.f69, go_sem, r0, r1, r2, r3, r4, r5, r6, r7, mv]
      · exact (ChP.fresh (S := fun _ => False) (.quiet HQ2.out) hQ3 (fun k e => .inr (by omega))).ch (fun _ => id)

/-- A mask with a slot, without one. -/
theorem bitv_bit {s : Int} (h0 : 0 ≤ s) (h1 : s < 64) {i : Nat} (_ : i < 64) : (Mk.bitv s).testBit i = decide ((i : Int) = s) := by
  unfold Mk.bitv
  rw [if_pos ⟨h0, h1⟩, Nat.testBit_two_pow]
  by_cases e : s.toNat = i
  · subst e; simp; omega
  · simp [e]; omega
theorem with_bit {m : Nat} {s : Int} (h0 : 0 ≤ s) (h1 : s < 64) {i : Nat} (hi : i < 64) : (Mk.withN m [s]).testBit i = true ↔ m.testBit i = true ∨ (i : Int) = s := by
  show (m ||| Mk.bitv s).testBit i = true ↔ _
  rw [Nat.testBit_or, bitv_bit h0 h1 hi]
  simp
theorem without_bit {m : Nat} {s : Int} (h0 : 0 ≤ s) (h1 : s < 64) {i : Nat} (hi : i < 64) : (Mk.withoutN m [s]).testBit i = true ↔ m.testBit i = true ∧ (i : Int) ≠ s := by
  show (m &&& (18446744073709551615 - (0 ||| Mk.bitv s))).testBit i = true ↔ _
  rw [Nat.testBit_and, Nat.zero_or, show 18446744073709551615 - Mk.bitv s = 2 ^ 64 - (Mk.bitv s + 1) by omega, Nat.testBit_two_pow_sub_succ (Mk.bitv_lt s), bitv_bit h0 h1 hi]
  simp [hi]
theorem wtM_bit {M : Nat → Nat} {z : Nat → Int × Int × Int × Int} {len : Nat} (hz : ∀ j, j < len → (0 ≤ (z j).1 ∧ (z j).1 < 8) ∧ 0 ≤ (z j).2.1 ∧ (z j).2.1 < 64) (k : Nat) (hk : k ≤ len) (n : Nat) (hn : n < 8) (i : Nat) (hi : i < 64) :
    (wtM M z k n).testBit i = true ↔ (M n).testBit i = true ∧ ∀ j, j < k → ¬ ((z j).1 = (n : Int) ∧ (z j).2.1 = (i : Int)) := by
  induction k with
  | zero => simp [wtM]
  | succ k ih =>
    have ih := ih (by omega)
    obtain ⟨⟨h0, h8⟩, h1, h2⟩ := hz k (by omega)
    show (updM (wtM M z k) (z k).1.toNat (Mk.withoutN (wtM M z k (z k).1.toNat) [(z k).2.1]) n).testBit i = true ↔ _
    unfold updM
    by_cases e : n = (z k).1.toNat
    · rw [if_pos e, ← e, without_bit h1 h2 hi, ih]
      constructor
      · rintro ⟨⟨h3, h4⟩, h5⟩
        refine ⟨h3, fun j hj => ?_⟩
        by_cases e2 : j = k
        · subst e2; rintro ⟨-, h6⟩; exact h5 h6.symm
        · exact h4 j (by omega)
      · rintro ⟨h3, h4⟩
        exact ⟨⟨h3, fun j hj => h4 j (by omega)⟩, fun e2 => h4 k (by omega) ⟨by omega, e2.symm⟩⟩
    · rw [if_neg e, ih]
      constructor
      · rintro ⟨h3, h4⟩
        refine ⟨h3, fun j hj => ?_⟩
        by_cases e2 : j = k
        · subst e2; rintro ⟨h6, -⟩; exact e (by omega)
        · exact h4 j (by omega)
      · rintro ⟨h3, h4⟩
        exact ⟨h3, fun j hj => h4 j (by omega)⟩
end Go.Proofs.YtnndofeomakpiaaGreatDoor
namespace Go.Proofs.YtnndofeomakpiaaGreatDoor
open Go.RowKit Go.Maps

theorem iinfo : ∃ i : TypeInfo, Tryz.prog.info? 3 = some i ∧ i.zero = some (.int .i64 0) ∧ i.size = 1 ∧ i.bytes = 8 := info_parts (by kernel_rfl)
section
variable {w w' : World} {base B : Nat} {S : Nat → Prop} {now : Int} {puts : Nat} {Lm Ls Lk : List Tm}

/-- Cells of the wheel's block turned, but not the ones that p names. -/
theorem cellB {o : Nat} {v u : Value} {k : Nat} (h : w.cell? ⟨B, o, none⟩ = some v) (hne : o ≠ k) : (w.setCell ⟨B, k, none⟩ u).cell? ⟨B, o, none⟩ = some v := setCell_other h (addr_ne_off (fun e => hne e.symm))
theorem chB (w : World) (k : Nat) (u : Value) : ChP (fun x => x = B) w (w.setCell ⟨B, k, none⟩ u) := ChP.setCell (S := fun x => x = B) (ChP.refl _ _) (p := ⟨B, k, none⟩) (.inl rfl) u

theorem slots_chP {Ls : List Tm} (h : ∃ vs : Nat → Value, (∀ i, i < 512 → w.cell? ⟨B, 2 + i, none⟩ = some (vs i) ∧ w.ownsRow base 3 1 (vs i) (inSlot Ls i).length ((inSlot Ls i).map iv) ∧ ∀ g, (vs i).ownBlock = some g → S g ∧ g ≠ B) ∧
    ∀ i j, i < 512 → j < 512 → i ≠ j → ∀ g, (vs i).ownBlock = some g → (vs j).ownBlock ≠ some g) (hcell : ∀ i, i < 512 → w'.cell? ⟨B, 2 + i, none⟩ = w.cell? ⟨B, 2 + i, none⟩) {T : Nat → Prop} (hc : ChP T w w') (hT : ∀ k, T k → k = B ∨ ∃ o, w.heap[k]? = some o ∧ o.isCells = false) :
    ∃ vs : Nat → Value, (∀ i, i < 512 → w'.cell? ⟨B, 2 + i, none⟩ = some (vs i) ∧ w'.ownsRow base 3 1 (vs i) (inSlot Ls i).length ((inSlot Ls i).map iv) ∧ ∀ g, (vs i).ownBlock = some g → S g ∧ g ≠ B) ∧
    ∀ i j, i < 512 → j < 512 → i ≠ j → ∀ g, (vs i).ownBlock = some g → (vs j).ownBlock ≠ some g := by
  obtain ⟨vs, h1, h2⟩ := h
  refine ⟨vs, fun i hi => ⟨(hcell i hi).trans (h1 i hi).1, own_chP (h1 i hi).2.1 hc (fun g hg hTg => ?_), (h1 i hi).2.2⟩, h2⟩
  rcases hT g hTg with e | ⟨o, ho, hno⟩
  · exact ((h1 i hi).2.2 g hg).2 e
  · rcases (h1 i hi).2.1.2 with ⟨e, _⟩ | ⟨g', cap, cur, e, _, hg', _⟩
    · rw [e] at hg; simp [Value.ownBlock] at hg
    · rw [e] at hg
      obtain rfl : g' = g := by simpa [Value.ownBlock] using hg
      rw [ho] at hg'
      cases hg'
      simp [Obj.isCells] at hno

/-- Another count. -/
theorem WC.set1 (h : WC w base B S now puts Lm Ls Lk) (p : Nat) : WC (w.setCell ⟨B, 1, none⟩ (.int .u64 (p : Int))) base B S now p Lm Ls Lk := by
  obtain ⟨M, h3, h4⟩ := h.masks
  obtain ⟨m, h5, h6, h7⟩ := h.held
  have hc := chB (B := B) w 1 (.int .u64 (p : Int))
  refine ⟨cellB h.c0 (by decide), setCell_same h.c1, fun o => by simpa using h.fr o, slots_chP h.slots (fun i hi => ?_) hc (fun k hk => .inl hk), ⟨M, fun n hn => cellB (h3 n hn) (by omega), h4⟩, ⟨m, cellB h5 (by decide), h6.chP hc (fun b e => (h7 b e).2.1), h7⟩, h.own, h.lo⟩
  exact World.cell?_setCell_other _ _ _ _ (addr_ne_off (by omega))
/-- Another tick. -/
theorem WC.set0 (h : WC w base B S now puts Lm Ls Lk) (x : Int) : WC (w.setCell ⟨B, 0, none⟩ (.int .u64 x)) base B S x puts Lm Ls Lk := by
  obtain ⟨M, h3, h4⟩ := h.masks
  obtain ⟨m, h5, h6, h7⟩ := h.held
  have hc := chB (B := B) w 0 (.int .u64 x)
  refine ⟨setCell_same h.c0, cellB h.c1 (by decide), fun o => by simpa using h.fr o, slots_chP h.slots (fun i hi => ?_) hc (fun k hk => .inl hk), ⟨M, fun n hn => cellB (h3 n hn) (by omega), h4⟩, ⟨m, cellB h5 (by decide), h6.chP hc (fun b e => (h7 b e).2.1), h7⟩, h.own, h.lo⟩
  exact World.cell?_setCell_other _ _ _ _ (addr_ne_off (by omega))
/-- A map, where there was none. -/
theorem WC.map0 (h : WC w base B S now puts Lm Ls Lk) {b : Nat} {L : List Tm} (hc : ChP (fun k => k = B) w w') (ho : ∀ o, o ≠ 522 → w'.cell? ⟨B, o, none⟩ = w.cell? ⟨B, o, none⟩) (hf : ∀ o, w'.frozen? ⟨B, o, none⟩ = w.frozen? ⟨B, o, none⟩) (h5 : w'.cell? ⟨B, 522, none⟩ = some (.map (some b)))
    (hL : HeldAt w' (some b) L) (hb : S b ∧ b ≠ B ∧ base ≤ b) : WC w' base B S now puts L Ls Lk := by
  obtain ⟨M, h3, h4⟩ := h.masks
  exact ⟨(ho 0 (by decide)).trans h.c0, (ho 1 (by decide)).trans h.c1, fun o => (hf o).trans (h.fr o), slots_chP h.slots (fun i hi => ho _ (by omega)) hc (fun k hk => .inl hk), ⟨M, fun n hn => (ho _ (by omega)).trans (h3 n hn), h4⟩, ⟨some b, h5, hL, fun b' e => by cases e; exact hb⟩, h.own, h.lo⟩
/-- The map turned. -/
theorem WC.map (h : WC w base B S now puts Lm Ls Lk) {b : Nat} (hb : w.cell? ⟨B, 522, none⟩ = some (.map (some b))) {L : List Tm} (hL : HeldAt w' (some b) L) (ht : w.mapTurned w' b) : WC w' base B S now puts L Ls Lk := by
  obtain ⟨M, h3, h4⟩ := h.masks
  obtain ⟨m, h5, h6, h7⟩ := h.held
  have hc := chP_turned ht
  have hlt : B < w.heap.size := cell_lt h.c0
  obtain rfl : m = some b := by rw [h5] at hb; simpa using hb
  have hne : ¬ B = b := fun e => (h7 b rfl).2.1 e.symm
  refine ⟨(hc.cell hlt hne).trans h.c0, (hc.cell hlt hne).trans h.c1, fun o => (hc.frozen (p := ⟨B, o, none⟩) hlt hne).trans (h.fr o), slots_chP h.slots (fun i hi => hc.cell hlt hne) hc (fun k hk => .inr ?_), ⟨M, fun n hn => (hc.cell hlt hne).trans (h3 n hn), h4⟩, ⟨some b, (hc.cell hlt hne).trans h5, hL, h7⟩, h.own, h.lo⟩
  obtain ⟨es, clock, _, _, hh, _⟩ := ht
  subst hk
  exact ⟨_, hh, rfl⟩
/-- One slot's row turned. -/
theorem WC.slot (h : WC w base B S now puts Lm Ls Lk) {i : Nat} (hi : i < 512) {v0 v' : Value} {L : List Tm} (hv0 : w.cell? ⟨B, 2 + i, none⟩ = some v0) {w1 : World}
    (hc : ChP (fun k => v0.ownBlock = some k) w w1) (hrow : w1.ownsRow base 3 1 v' (inSlot L i).length ((inSlot L i).map iv)) (hg : ∀ g, v'.ownBlock = some g → S g ∧ (v0.ownBlock = some g ∨ w.heap.size ≤ g)) (ho : ∀ j, j < 512 → j ≠ i → inSlot L j = inSlot Ls j) :
    WC (w1.setCell ⟨B, 2 + i, none⟩ v') base B S now puts Lm L Lk := by
  obtain ⟨vs, h1, h2⟩ := h.slots
  obtain ⟨M, h3, h4⟩ := h.masks
  obtain ⟨m, h5, h6, h7⟩ := h.held
  have hlt : B < w.heap.size := cell_lt h.c0
  obtain rfl : v0 = vs i := by rw [(h1 i hi).1] at hv0; simpa using hv0.symm
  have hB : ¬ (vs i).ownBlock = some B := fun e => ((h1 i hi).2.2 B e).2 rfl
  have hcb := chB (B := B) w1 (2 + i) v'
  have hcell : ∀ o, w1.cell? ⟨B, o, none⟩ = w.cell? ⟨B, o, none⟩ := fun o => hc.cell (p := ⟨B, o, none⟩) hlt hB
  have hnew : ∀ g, v'.ownBlock = some g → g ≠ B := fun g hgg e => by
    rcases (hg g hgg).2 with k | k
    · exact ((h1 i hi).2.2 g k).2 e
    · omega
  refine ⟨cellB ((hcell 0).trans h.c0) (by omega), cellB ((hcell 1).trans h.c1) (by omega), fun o => by rw [World.frozen?_setCell]; exact (hc.frozen (p := ⟨B, o, none⟩) hlt hB).trans (h.fr o), ⟨fun j => if j = i then v' else vs j, fun j hj => ?_, fun j l hj hl hne g hgj => ?_⟩,
    ⟨M, fun n hn => cellB ((hcell _).trans (h3 n hn)) (by omega), h4⟩, ⟨m, cellB ((hcell _).trans h5) (by omega), ?_, h7⟩, h.own, h.lo⟩
  · by_cases e : j = i
    · subst e
      dsimp only
      rw [if_pos rfl]
      exact ⟨setCell_same ((hcell _).trans (h1 j hj).1), own_chP hrow hcb (fun g hgg e => hnew g hgg e), fun g hgg => ⟨(hg g hgg).1, hnew g hgg⟩⟩
    · dsimp only
      rw [if_neg e, ho j hj e]
      refine ⟨cellB ((hcell _).trans (h1 j hj).1) (by omega), own_chP (own_chP (h1 j hj).2.1 hc (fun g hgg e2 => h2 i j hi hj (fun e3 => e e3.symm) g e2 hgg)) hcb (fun g hgg e2 => ((h1 j hj).2.2 g hgg).2 e2), (h1 j hj).2.2⟩
  · by_cases e : j = i
    · subst e
      dsimp only at hgj ⊢
      rw [if_pos rfl] at hgj
      rw [if_neg (fun e => hne e.symm)]
      intro hgl
      rcases (hg g hgj).2 with k | k
      · exact h2 j l hj hl hne g k hgl
      · have := ((h1 l hl).2.1.lt g hgl).2
        omega
    · dsimp only at hgj ⊢
      rw [if_neg e] at hgj
      by_cases e2 : l = i
      · subst e2
        rw [if_pos rfl]
        intro hgl
        rcases (hg g hgl).2 with k | k
        · exact h2 j l hj hl hne g hgj k
        · have := ((h1 j hj).2.1.lt g hgj).2
          omega
      · rw [if_neg e2]
        exact h2 j l hj hl hne g hgj
  · rcases h6 with h6 | ⟨b, D, rfl, hom, hv⟩
    · exact .inl h6
    · refine .inr ⟨b, D, rfl, map_chP (map_chP hom hc (fun e => ?_)) hcb (h7 b rfl).2.1, hv⟩
      rcases (h1 i hi).2.1.2 with ⟨e1, _⟩ | ⟨g', cap, cur, e1, _, hg', _⟩
      · rw [e1] at e; simp [Value.ownBlock] at e
      · rw [e1] at e
        obtain rfl : g' = b := by simpa [Value.ownBlock] using e
        obtain ⟨es, clock, hb, _⟩ := hom
        rw [hb] at hg'
        cases hg'
/-- The masks as they are stored. -/
def ml (M : Nat → Nat) : List Value := [.int .u64 ((M 0 : Nat) : Int), .int .u64 ((M 1 : Nat) : Int), .int .u64 ((M 2 : Nat) : Int), .int .u64 ((M 3 : Nat) : Int), .int .u64 ((M 4 : Nat) : Int), .int .u64 ((M 5 : Nat) : Int), .int .u64 ((M 6 : Nat) : Int), .int .u64 ((M 7 : Nat) : Int)]
def set8 (w : World) (B : Nat) (M : Nat → Nat) : World := w.setCells B 514 (ml M)
theorem setCells_chP (B : Nat) : ∀ (vs : List Value) (o : Nat) (w : World), ChP (fun k => k = B) w (w.setCells B o vs)
  | [], _, w => ChP.refl _ w
  | v :: r, o, w => by
    rw [World.setCells]
    exact (chB w o v).trans (setCells_chP B r (o + 1) _)
theorem set8_chP (w : World) (B : Nat) (M : Nat → Nat) : ChP (fun k => k = B) w (set8 w B M) := setCells_chP B _ _ w
theorem set8_other (w : World) (B : Nat) (M : Nat → Nat) {o : Nat} (h : o < 514 ∨ 521 < o) : (set8 w B M).cell? ⟨B, o, none⟩ = w.cell? ⟨B, o, none⟩ := by
  unfold set8
  exact World.cell?_setCells_out B (ml M) 514 w ⟨B, o, none⟩ (fun _ _ => by simp only [ml, List.length_cons, List.length_nil]; omega)
theorem ml_at (M : Nat → Nat) {n : Nat} (hn : n < 8) : (ml M)[n]? = some (.int .u64 ((M n : Nat) : Int)) := by
  rcases eight hn with e | e | e | e | e | e | e | e <;> subst e <;> rfl
theorem ml_range {w : World} {B : Nat} {M : Nat → Nat} (h : ∀ n, n < 8 → w.cell? ⟨B, 514 + n, none⟩ = some (.int .u64 ((M n : Nat) : Int))) : w.rangeAt B 514 (ml M) := fun j v hv => by
  have hj : j < 8 := by have := (List.getElem?_eq_some_iff.1 hv).1; simpa [ml] using this
  rw [ml_at M hj] at hv
  cases hv
  exact h j hj
theorem ml_there {w : World} {B : Nat} {M : Nat → Nat} (h : ∀ n, n < 8 → w.cell? ⟨B, 514 + n, none⟩ = some (.int .u64 ((M n : Nat) : Int))) (hf : ∀ o, w.frozen? ⟨B, o, none⟩ = false) : w.there B 514 8 := fun j hj => ⟨by rw [h j hj]; rfl, hf _⟩
theorem set8_same {w : World} {B : Nat} {M0 : Nat → Nat} (h : ∀ n, n < 8 → w.cell? ⟨B, 514 + n, none⟩ = some (.int .u64 ((M0 n : Nat) : Int))) (hf : ∀ o, w.frozen? ⟨B, o, none⟩ = false) (M : Nat → Nat) {n : Nat} (hn : n < 8) : (set8 w B M).cell? ⟨B, 514 + n, none⟩ = some (.int .u64 ((M n : Nat) : Int)) :=
  World.rangeAt_setCells_same w B 514 (ml M) (ml_there h hf) n _ (ml_at M hn)
theorem set8_frozen (w : World) (B : Nat) (M : Nat → Nat) (o : Nat) : (set8 w B M).frozen? ⟨B, o, none⟩ = w.frozen? ⟨B, o, none⟩ := by
  unfold set8
  rw [World.frozen?_setCells]
theorem WC.masks8 (h : WC w base B S now puts Lm Ls Lk) {M : Nat → Nat} {L : List Tm} (hM : MB M L) : WC (set8 w B M) base B S now puts Lm Ls L := by
  obtain ⟨M0, h3, h4⟩ := h.masks
  obtain ⟨m, h5, h6, h7⟩ := h.held
  have hc := set8_chP w B M
  refine ⟨(set8_other w B M (.inl (by decide))).trans h.c0, (set8_other w B M (.inl (by decide))).trans h.c1, fun o => ?_, slots_chP h.slots (fun i hi => set8_other w B M (.inl (by omega))) hc (fun k hk => .inl hk), ⟨M, fun n hn => set8_same h3 h.fr M hn, hM⟩,
    ⟨m, (set8_other w B M (.inr (by decide))).trans h5, h6.chP hc (fun b e => (h7 b e).2.1), h7⟩, h.own, h.lo⟩
  exact (set8_frozen w B M o).trans (h.fr o)
end
/-- With one more: its slot's row, the others'. -/
theorem inSlot_snoc (L : List Tm) (t : Tm) (i : Nat) : inSlot (L ++ [t]) i = inSlot L i ++ (if (t.sp.lv : Int) * 64 + t.sp.sl = (i : Int) then [t.id] else []) := by
  unfold inSlot
  rw [List.filter_append, List.map_append]
  by_cases e : (t.sp.lv : Int) * 64 + t.sp.sl = (i : Int) <;> simp [e]
theorem MB.snoc {M : Nat → Nat} {L : List Tm} (h : MB M L) (t : Tm) {x : Int} (hf : Fits x t.sp) : MB (updM M t.sp.lv (Mk.withN (M t.sp.lv) [t.sp.sl])) (L ++ [t]) := by
  intro n hn
  have hs := hf.sl
  unfold updM
  by_cases e : n = t.sp.lv
  · rw [if_pos e]
    subst e
    refine ⟨Mk.withN_lt _ _ (h _ hn).1, fun i hi => ?_⟩
    rw [with_bit hs.1 hs.2 hi, (h _ hn).2 i hi]
    constructor
    · rintro (⟨u, hu, h1, h2⟩ | h1)
      · exact ⟨u, by simp [hu], h1, h2⟩
      · exact ⟨t, by simp, rfl, h1.symm⟩
    · rintro ⟨u, hu, h1, h2⟩
      rcases List.mem_append.1 hu with hu | hu
      · exact .inl ⟨u, hu, h1, h2⟩
      · obtain rfl : u = t := by simpa using hu
        exact .inr h2.symm
  · rw [if_neg e]
    refine ⟨(h _ hn).1, fun i hi => ?_⟩
    rw [(h _ hn).2 i hi]
    constructor
    · rintro ⟨u, hu, h1, h2⟩
      exact ⟨u, by simp [hu], h1, h2⟩
    · rintro ⟨u, hu, h1, h2⟩
      rcases List.mem_append.1 hu with hu | hu
      · exact ⟨u, hu, h1, h2⟩
      · obtain rfl : u = t := by simpa using hu
        exact absurd h1.symm e
theorem WI.put {now : Int} {puts : Nat} {L : List Tm} (h : WI now puts L) {id : Int} (h0 : 0 ≤ id) (h1 : id < 256) (hno : ∀ t ∈ L, t.id ≠ id) {s : Sp} (hf : Fits now s) : WI now (puts + 1) (L ++ [⟨id, s, puts⟩]) := by
  refine ⟨h.wd, ?_, fun t ht => ?_, fun t ht => ?_, ?_, fun t ht => ?_⟩
  · unfold Rising
    rw [List.pairwise_append]
    exact ⟨h.rise, List.pairwise_singleton _ _, fun a ha b hb => by rw [List.mem_singleton] at hb; subst hb; exact h.lt a ha⟩
  · rcases List.mem_append.1 ht with ht | ht
    · exact Nat.lt_succ_of_lt (h.lt t ht)
    · obtain rfl : t = ⟨id, s, puts⟩ := by simpa using ht
      exact Nat.lt_succ_self _
  · rcases List.mem_append.1 ht with ht | ht
    · exact h.fits t ht
    · obtain rfl : t = ⟨id, s, puts⟩ := by simpa using ht
      exact hf
  · rw [List.map_append, List.nodup_append]
    refine ⟨h.nd, by simp, fun a ha b hb => ?_⟩
    obtain rfl : b = id := by simpa using hb
    obtain ⟨x, hx, rfl⟩ := List.mem_map.1 ha
    exact hno x hx
  · rcases List.mem_append.1 ht with ht | ht
    · exact h.ids t ht
    · obtain rfl : t = ⟨id, s, puts⟩ := by simpa using ht
      exact ⟨h0, h1⟩
end Go.Proofs.YtnndofeomakpiaaGreatDoor
