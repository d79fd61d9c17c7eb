/-
  Several texts in one: Maps of words by keys, plain: slots, the linked keys with their handles (the last one put first), the keys by use; what each call makes of them; what always holds. · A map in memory: its struct, its arena, its table, its order (of an LRU map); what a call may turn; boxes. · A map: Look, Len, Held, Kind, Words. · A map: unlinking, using a key; Find, Del, putting out. · A map: Find, Del; putting out who was used longest ago.
-/
import Derived.Test.YtalhlopjaijhcaaGreatMgA
import Derived.Test.YtalhlopjaijhcaaGreatMgB
import Derived.Test.YtalhlopjaijhcaaGreatMgD
import Derived.Test.YtalhlopjaijhcaaGreatMgE
import Derived.Test.YtalhlopjaijhcaaGreatMgG
namespace Go.Proofs.YtalhlopjaijhcaaGreat

/-- A map: its kind, how many entries and words, whether it is closed; slots, linked ones, keys by use. -/
structure MS where
  kind : Nat
  n : Nat
  wd : Nat
  cl : Bool
  xs : List (Sl El)
  tb : List (Ent (Int × Int))
  us : List Nat

/-- A key is used. -/
def useM (s : MS) (k : Nat) : MS := if s.kind = 2 then { s with us := drp s.us k ++ [k] } else s
def unlinkM (s : MS) (k : Nat) : MS := { s with tb := delE s.tb k, us := drp s.us k }
/-- The handle of the next one. -/
def newH (s : MS) : Int × Int := (putS s.xs, putG s.xs)
def linkM (s : MS) (x : El) : MS := useM { s with xs := putL s.xs x, tb := ⟨x.k, newH s⟩ :: s.tb } x.k
def setM (s : MS) (h : Int × Int) (x : El) : MS := { s with xs := setL s.xs h.1 h.2 x }
def freeM (s : MS) (h : Int × Int) : MS := { s with xs := freeL s.xs h.1 h.2 }
def closeM (s : MS) : MS := { s with cl := true, tb := [], us := [] }
/-- A handle's error, its element; whether it is linked. -/
def errM (s : MS) (h : Int × Int) : Int := findE s.xs h.1 h.2
def elM (s : MS) (h : Int × Int) : El := getX s.xs h.1 h.2
def isLinked (s : MS) (h : Int × Int) : Bool := decide (errM s h = 0 ∧ valE s.tb (elM s h).k = some h)
/-- Words, and 0 behind them. -/
def valOf (l : List Nat) : Nat → Nat := fun i => l.getD i 0
def freeN0 (s : MS) : Nat := (sel s.xs isFree).length
def heldN (s : MS) : Nat := (sel s.xs isHeld).length
/-- What speaks against one more. -/
def refM (s : MS) (how : Int) : Int := if s.kind = 0 then 2 else if how = 2 then 4 else if s.kind = 1 ∧ s.n ≤ s.tb.length then 3 else if freeN0 s = 0 then 20 else 0
/-- What Put tells. -/
structure PA where
  h : Int × Int
  gone : Int × Int
  out : Bool
  e : Int
def noPut (e : Int) : PA := ⟨(0, 0), (0, 0), false, e⟩
def oldM (s : MS) : Nat := s.us.headD 0
/-- Another in the place of the linked one. -/
def renewM (s : MS) (how : Int) (h : Int × Int) (x : El) : MS × PA := if how = 1 then (s, noPut 5) else (useM (setM s h x) x.k, ⟨h, (0, 0), false, 0⟩)
def addM (s : MS) (how : Int) (x : El) : MS × PA :=
  if refM s how ≠ 0 then (s, noPut (refM s how))
  else if s.n ≤ s.tb.length then (linkM (unlinkM s (oldM s)) x, ⟨newH s, (valE s.tb (oldM s)).getD (0, 0), true, 0⟩)
  else (linkM s x, ⟨newH s, (0, 0), false, 0⟩)
def putM (s : MS) (how : Int) (k : Nat) (l : List Nat) : MS × PA :=
  if how < 0 ∨ 2 < how ∨ s.wd < l.length then (s, noPut 1)
  else if s.cl = true then (s, noPut 22)
  else match valE s.tb k with
    | some h => renewM s how h ⟨k, valOf l⟩
    | none => addM s how ⟨k, valOf l⟩
def delM (s : MS) (k : Nat) : MS × (Int × Int) × Int :=
  if s.kind = 0 then (s, (0, 0), 17)
  else match valE s.tb k with
    | some h => (unlinkM s k, h, 0)
    | none => (s, (0, 0), 4)
def frM (s : MS) (h : Int × Int) : MS × Int := if isLinked s h = true then (s, 21) else (freeM s h, errM s h)
def loadM (s : MS) (h : Int × Int) (i : Int) : Nat × Int := if errM s h ≠ 0 then (0, errM s h) else if i < 0 ∨ (s.wd : Int) ≤ i then (0, 1) else ((elM s h).v i.toNat, 0)
def updW (v : Nat → Nat) (i x : Nat) : Nat → Nat := fun j => if j = i then x else v j
def storeM (s : MS) (h : Int × Int) (i : Int) (x : Nat) : MS × Int :=
  if errM s h ≠ 0 then (s, errM s h) else if i < 0 ∨ (s.wd : Int) ≤ i then (s, 1) else (setM s h ⟨(elM s h).k, updW (elM s h).v i.toNat x⟩, 0)
/-- All keys, sorted where it is an array. -/
def keysM (s : MS) : List Nat := if s.kind = 2 then s.us else if s.kind = 0 then (keysE 8 s.tb).mergeSort (fun a b => decide (a ≤ b)) else keysE 8 s.tb

/-- What always holds. -/
structure WF (s : MS) : Prop where
  kd : s.kind ≤ 2
  hn : 1 ≤ s.n ∧ s.n ≤ 8
  hw : 1 ≤ s.wd ∧ s.wd ≤ 4
  xl : s.xs.length = 2 * s.n
  tnd : (ksE s.tb).Nodup
  tl : s.tb.length ≤ s.n
  live : ∀ e ∈ s.tb, errM s e.v = 0 ∧ (elM s e.v).k = e.k
  us2 : s.kind = 2 → ∀ k, k ∈ s.us ↔ k ∈ ksE s.tb
  us0 : s.kind ≠ 2 → s.us = []
  und : s.us.Nodup
theorem val_some {V : Type} {L : List (Ent V)} {k : Nat} {v : V} (h : valE L k = some v) : ⟨k, v⟩ ∈ L := by
  unfold valE at h
  cases hf : L.find? fun e => decide (e.k = k) with
  | none => rw [hf] at h; cases h
  | some e =>
    rw [hf] at h
    have h1 := List.mem_of_find?_eq_some hf
    have h2 := List.find?_some hf
    have h3 : e.k = k := of_decide_eq_true h2
    cases h
    subst h3
    exact h1
theorem val_iff {V : Type} {L : List (Ent V)} (hn : (ksE L).Nodup) {k : Nat} {v : V} : valE L k = some v ↔ ⟨k, v⟩ ∈ L := ⟨val_some, fun h => val_in hn h⟩
theorem val_none {V : Type} {L : List (Ent V)} {k : Nat} : valE L k = none ↔ k ∉ ksE L := by
  constructor
  · intro h hm
    obtain ⟨e, he, rfl⟩ := ksE_mem.1 hm
    unfold valE at h
    cases hf : L.find? fun e' => decide (e'.k = e.k) with
    | none =>
      have := List.find?_eq_none.1 hf e he
      simp at this
    | some y => rw [hf] at h; cases h
  · exact val_not
theorem len_eq_of_mem {A B : List Nat} (ha : A.Nodup) (hb : B.Nodup) (h : ∀ k, k ∈ A ↔ k ∈ B) : A.length = B.length := ((List.perm_ext_iff_of_nodup ha hb).2 h).length_eq
theorem WF.usl {s : MS} (h : WF s) (hk : s.kind = 2) : s.us.length = s.tb.length := by
  have := len_eq_of_mem h.und h.tnd (h.us2 hk)
  rwa [ksE, List.length_map] at this
theorem tch_in {room : Nat} {L : List Nat} {k : Nat} (h : k ∈ L ∨ L.length < room) : tch room L k = (drp L k ++ [k], 0) := if_pos h

theorem WF.use {s : MS} (h : WF s) {k : Nat} (hk : s.kind = 2 → k ∈ ksE s.tb) : WF (useM s k) := by
  unfold useM
  by_cases h2 : s.kind = 2
  · rw [if_pos h2]
    refine ⟨h.kd, h.hn, h.hw, h.xl, h.tnd, h.tl, h.live, fun _ j => ?_, fun e => absurd h2 e, ?_⟩
    · simp only [List.mem_append, mem_drp, List.mem_singleton]
      rw [h.us2 h2 j]
      constructor
      · rintro (⟨h1, _⟩ | rfl)
        · exact h1
        · exact hk h2
      · intro h1
        by_cases e : j = k
        · exact .inr e
        · exact .inl ⟨h1, e⟩
    · have := tch_nodup (room := 64) h.und k
      unfold tch at this
      split at this
      · exact this
      · rw [List.nodup_append]
        refine ⟨drp_nodup h.und k, by simp, fun a ha b hb e => ?_⟩
        obtain rfl : b = k := by simpa using hb
        exact (mem_drp.1 ha).2 e
  · rw [if_neg h2]; exact h
theorem WF.unlink {s : MS} (h : WF s) (k : Nat) : WF (unlinkM s k) := by
  refine ⟨h.kd, h.hn, h.hw, h.xl, del_nodup h.tnd k, Nat.le_trans (del_len_le _ _) h.tl, fun e he => h.live e (List.mem_filter.1 (show e ∈ List.filter _ s.tb from he)).1, fun h2 j => ?_, fun e => ?_, drp_nodup h.und k⟩
  · show j ∈ drp s.us k ↔ j ∈ ksE (delE s.tb k)
    rw [mem_drp, h.us2 h2 j, ks_del]
    simp
  · show drp s.us k = []
    rw [h.us0 e]; rfl
theorem useM_proj (s : MS) (k : Nat) : (useM s k).kind = s.kind ∧ (useM s k).n = s.n ∧ (useM s k).wd = s.wd ∧ (useM s k).cl = s.cl ∧ (useM s k).xs = s.xs ∧ (useM s k).tb = s.tb := by
  unfold useM
  split <;> exact ⟨rfl, rfl, rfl, rfl, rfl, rfl⟩

theorem first_free {xs : List (Sl El)} (h : (sel xs isFree).length ≠ 0) : ∃ k, firstOf xs isFree = some k := by
  cases hf : firstOf xs isFree with
  | some k => exact ⟨k, rfl⟩
  | none => rw [firstOf_none hf] at h; simp at h
/-- Another slot's turn is nothing to a handle. -/
theorem find_set_other {xs : List (Sl El)} {j : Nat} {s : Sl El} {a g : Int} (h : a ≠ (j : Int)) : findE (xs.set j s) a g = findE xs a g ∧ getX (xs.set j s) a g = getX xs a g := by
  have e : findE (xs.set j s) a g = findE xs a g := by
    unfold findE
    rw [List.length_set]
    by_cases h0 : a < 0 ∨ (xs.length : Int) ≤ a
    · rw [if_pos h0, if_pos h0]
    · rw [if_neg h0, if_neg h0, at0_set_other _ _ _ _ (by omega)]
  refine ⟨e, ?_⟩
  unfold getX
  rw [e]
  by_cases h0 : findE xs a g = 0
  · obtain ⟨k, rfl, _⟩ := findE_zero h0
    rw [if_pos h0, if_pos h0, Int.toNat_natCast, at0_set_other _ _ _ _ (by omega)]
  · rw [if_neg h0, if_neg h0]
theorem put_keeps {xs : List (Sl El)} {x : El} {a g : Int} (h : findE xs a g = 0) : findE (putL xs x) a g = 0 ∧ getX (putL xs x) a g = getX xs a g := by
  unfold putL
  cases hf : firstOf xs isFree with
  | none => exact ⟨h, rfl⟩
  | some j =>
    obtain ⟨k, rfl, hk, hh, hg⟩ := findE_zero h
    have hne : (k : Int) ≠ (j : Int) := fun e => by
      obtain rfl : k = j := by omega
      have := (firstOf_some hf).2
      rw [(free_held this).1] at hh
      cases hh
    obtain ⟨e1, e2⟩ := find_set_other (xs := xs) (s := ⟨(at0 xs j).gen, true, x⟩) (g := g) hne
    exact ⟨e1.trans h, e2⟩
theorem put_there {xs : List (Sl El)} (x : El) {k : Nat} (hf : firstOf xs isFree = some k) : findE (putL xs x) (putS xs) (putG xs) = 0 ∧ getX (putL xs x) (putS xs) (putG xs) = x := by
  obtain ⟨e1, e2, _⟩ := putA_some hf
  have hk := (firstOf_some hf).1
  have e : findE (putL xs x) (putS xs) (putG xs) = 0 := by
    rw [putL_some hf, e1, e2]
    exact findE_ok (by simpa using hk) (by rw [at0_set_same _ _ _ hk]) (by rw [at0_set_same _ _ _ hk])
  refine ⟨e, ?_⟩
  unfold getX
  rw [if_pos e, putL_some hf, e1, Int.toNat_natCast, at0_set_same _ _ _ hk]
theorem WF.link {s : MS} (h : WF s) (x : El) (hk : x.k ∉ ksE s.tb) (hr : s.tb.length < s.n) (hf : freeN0 s ≠ 0) : WF (linkM s x) := by
  obtain ⟨j, hj⟩ := first_free hf
  obtain ⟨p1, p2⟩ := put_there x hj
  unfold linkM useM
  have hlive : ∀ e ∈ (⟨x.k, newH s⟩ :: s.tb : List (Ent (Int × Int))), findE (putL s.xs x) e.v.1 e.v.2 = 0 ∧ (getX (putL s.xs x) e.v.1 e.v.2).k = e.k := by
    intro e he
    rcases List.mem_cons.1 he with rfl | he
    · exact ⟨p1, by rw [show getX (putL s.xs x) (newH s).1 (newH s).2 = x from p2]⟩
    · obtain ⟨q1, q2⟩ := h.live e he
      obtain ⟨r1, r2⟩ := put_keeps (x := x) q1
      exact ⟨r1, by rw [r2]; exact q2⟩
  have hnd : (ksE (⟨x.k, newH s⟩ :: s.tb : List (Ent (Int × Int)))).Nodup := List.nodup_cons.2 ⟨hk, h.tnd⟩
  by_cases h2 : s.kind = 2
  · rw [if_pos h2]
    refine ⟨h.kd, h.hn, h.hw, by show (putL s.xs x).length = _; rw [put_len]; exact h.xl, hnd, by simp; omega, hlive, fun _ j => ?_, fun e => absurd h2 e, ?_⟩
    · show j ∈ drp s.us x.k ++ [x.k] ↔ j ∈ x.k :: ksE s.tb
      simp only [List.mem_append, mem_drp, List.mem_cons, List.not_mem_nil, or_false]
      rw [h.us2 h2 j]
      constructor
      · rintro (⟨h1, _⟩ | rfl)
        · exact .inr h1
        · exact .inl rfl
      · rintro (rfl | h1)
        · exact .inr rfl
        · exact .inl ⟨h1, fun e => hk (e ▸ h1)⟩
    · show (drp s.us x.k ++ [x.k]).Nodup
      rw [List.nodup_append]
      refine ⟨drp_nodup h.und _, by simp, fun a ha b hb e => ?_⟩
      obtain rfl : b = x.k := by simpa using hb
      exact (mem_drp.1 ha).2 e
  · rw [if_neg h2]
    exact ⟨h.kd, h.hn, h.hw, by show (putL s.xs x).length = _; rw [put_len]; exact h.xl, hnd, by simp; omega, hlive, fun e => absurd e h2, fun _ => h.us0 h2, h.und⟩
theorem set_find {xs : List (Sl El)} {a g : Int} {x : El} (b c : Int) : findE (setL xs a g x) b c = findE xs b c := by
  unfold setL
  split
  · rename_i h0
    obtain ⟨k, rfl, hk, hh, hg⟩ := findE_zero h0
    rw [Int.toNat_natCast]
    by_cases e : b = (k : Int)
    · subst e
      unfold findE
      rw [List.length_set, Int.toNat_natCast, at0_set_same _ _ _ hk]
    · exact (find_set_other e).1
  · rfl
theorem set_get {xs : List (Sl El)} {a g : Int} {x : El} (h : findE xs a g = 0) : getX (setL xs a g x) a g = x := by
  unfold getX
  rw [set_find, if_pos h]
  unfold setL
  rw [if_pos h]
  obtain ⟨k, rfl, hk, hh, hg⟩ := findE_zero h
  rw [Int.toNat_natCast, at0_set_same _ _ _ hk]
theorem set_get_other {xs : List (Sl El)} {a g b c : Int} {x : El} (h : ¬ (b = a ∧ c = g)) : getX (setL xs a g x) b c = getX xs b c := by
  unfold getX
  rw [set_find]
  by_cases h1 : findE xs b c = 0
  · rw [if_pos h1, if_pos h1]
    unfold setL
    split
    · rename_i h0
      obtain ⟨k, rfl, hk, hh, hg⟩ := findE_zero h0
      obtain ⟨j, rfl, hj, hh2, hg2⟩ := findE_zero h1
      have hne : j ≠ k := fun e => h (by subst e; exact ⟨rfl, by rw [← hg, ← hg2]⟩)
      rw [Int.toNat_natCast, Int.toNat_natCast, at0_set_other _ _ _ _ hne]
    · rfl
  · rw [if_neg h1, if_neg h1]
theorem set_same {xs : List (Sl El)} {a g : Int} : setL xs a g (getX xs a g) = xs := by
  unfold setL
  split
  · rename_i h0
    obtain ⟨k, rfl, hk, hh, hg⟩ := findE_zero h0
    unfold getX
    rw [if_pos h0, Int.toNat_natCast]
    apply set_id
    rw [at0_get _ _ hk, List.getElem?_eq_getElem hk]
  · rfl
theorem WF.set {s : MS} (h : WF s) (hd : Int × Int) (x : El) (hx : errM s hd = 0 → x.k = (elM s hd).k) : WF (setM s hd x) := by
  refine ⟨h.kd, h.hn, h.hw, by show (setL _ _ _ _).length = _; rw [setL_len]; exact h.xl, h.tnd, h.tl, fun e he => ?_, h.us2, h.us0, h.und⟩
  obtain ⟨h1, h2⟩ := h.live e he
  refine ⟨(set_find _ _).trans h1, ?_⟩
  show (getX (setL s.xs hd.1 hd.2 x) e.v.1 e.v.2).k = e.k
  by_cases e1 : e.v.1 = hd.1 ∧ e.v.2 = hd.2
  · have e2 : e.v = hd := Prod.ext e1.1 e1.2
    rw [e2] at h1 h2 ⊢
    rw [set_get h1, hx h1]
    exact h2
  · rw [set_get_other e1]; exact h2
theorem free_keeps {xs : List (Sl El)} {a g b c : Int} (h1 : findE xs b c = 0) (h : ¬ (b = a ∧ c = g)) : findE (freeL xs a g) b c = 0 ∧ getX (freeL xs a g) b c = getX xs b c := by
  unfold freeL
  split
  · rename_i h0
    obtain ⟨k, rfl, hk, hh, hg⟩ := findE_zero h0
    obtain ⟨j, rfl, hj, hh2, hg2⟩ := findE_zero h1
    have hne : (j : Int) ≠ (k : Int) := fun e => h ⟨e, (have e2 : j = k := (by omega); (by subst e2; exact hg2.symm.trans hg))⟩
    obtain ⟨e1, e2⟩ := find_set_other (xs := xs) (s := ⟨(at0 xs k).gen + 1, false, default⟩) (g := c) hne
    rw [Int.toNat_natCast]
    exact ⟨e1.trans h1, e2⟩
  · exact ⟨h1, rfl⟩
theorem WF.free {s : MS} (h : WF s) (hd : Int × Int) (hn : isLinked s hd = false) : WF (freeM s hd) := by
  refine ⟨h.kd, h.hn, h.hw, by show (freeL _ _ _).length = _; rw [freeL_len]; exact h.xl, h.tnd, h.tl, fun e he => ?_, h.us2, h.us0, h.und⟩
  obtain ⟨h1, h2⟩ := h.live e he
  have hne : ¬ (e.v.1 = hd.1 ∧ e.v.2 = hd.2) := fun e1 => by
    have e2 : e.v = hd := Prod.ext e1.1 e1.2
    unfold isLinked at hn
    rw [decide_eq_false_iff_not] at hn
    refine hn ⟨e2 ▸ h1, ?_⟩
    rw [← e2, h2]
    exact val_in h.tnd he
  obtain ⟨q1, q2⟩ := free_keeps h1 hne
  exact ⟨q1, (congrArg El.k q2).trans h2⟩
theorem WF.close {s : MS} (h : WF s) : WF (closeM s) := ⟨h.kd, h.hn, h.hw, h.xl, List.nodup_nil, Nat.zero_le _, fun e he => (by cases he), fun _ k => by simp [closeM, ksE], fun _ => rfl, List.nodup_nil⟩
end Go.Proofs.YtalhlopjaijhcaaGreat

namespace Go.Proofs.YtalhlopjaijhcaaGreat
open Go.RowKit

/-- A block of cells, plain. -/
abbrev HB (w : World) (B : Nat) (t : TypeId) (cs : Array Value) : Prop := w.heap[B]? = some (.cells cs t (0, 0))
section
variable {w w' : World} {B : Nat} {t : TypeId} {cs : Array Value}
theorem HB.lt (h : HB w B t cs) : B < w.heap.size := (Array.getElem?_eq_some_iff.1 h).1
theorem HB.c (h : HB w B t cs) (i : Nat) {v : Value} (hv : cs[i]? = some v) : w.cell? ⟨B, i, none⟩ = some v := by rw [(cell_plain h i).1, hv]
theorem HB.f (h : HB w B t cs) (i : Nat) : w.frozen? ⟨B, i, none⟩ = false := (cell_plain h i).2
theorem HB.new (w : World) (t : TypeId) (cs : Array Value) : HB (w.alloc (.cells cs t)) w.heap.size t cs := World.alloc_heap_new w _
theorem HB.ch {S : List Nat} (h : HB w B t cs) (hc : Ch S w w') (hB : B ∉ S) : HB w' B t cs := (hc.block B h.lt hB).trans h
theorem HB.set (h : HB w B t cs) (i : Nat) (v : Value) : HB (w.setCell ⟨B, i, none⟩ v) B t (cs.setIfInBounds i v) := heap_setCell_same w B i cs t v h
theorem HB.far (h : HB w B t cs) {p : Addr} (hp : p.block ≠ B) (v : Value) : HB (w.setCell p v) B t cs := (Below.heap_setCell _ p v B (Ne.symm hp)).trans h
theorem HB.alloc (h : HB w B t cs) (o : Obj) : HB (w.alloc o) B t cs := (Below.heap_alloc w o B h.lt).trans h
theorem HB.drewN (h : HB w B t cs) (n : Nat) : HB (w.drewN n) B t cs := h
end

/-- The blocks of a map: its struct, the arena's two, the table's, the order's; what is made behind them lies from Eh on. -/
structure Bk where
  X : Nat
  Ga : Nat
  Ra : Nat
  St : Nat
  Rt : Nat
  Kt : Nat
  So : Nat
  Eh : Nat
def usP (b : Bk) (kind : Nat) : Option Addr := if kind = 2 then some ⟨b.So + 1, 0, none⟩ else none
/-- The struct's cells. -/
abbrev mapC (b : Bk) (s : MS) : Array Value := #[.int .i64 (s.kind : Int), .int .i64 (s.n : Int), .int .i64 (s.wd : Int), .bool s.cl, .pointer (some ⟨b.Ra, 0, none⟩), .pointer (some ⟨b.Rt, 0, none⟩), .pointer (usP b s.kind)]
/-- How the blocks lie. -/
structure Lay (b : Bk) : Prop where
  xg : b.X < b.Ga
  gr : b.Ga < b.Ra
  rs : b.Ra < b.St
  sr : b.St ≤ b.Rt
  sk : b.St ≤ b.Kt
  re : b.Rt < b.Eh
  ke : b.Kt < b.Eh
  so : b.St ≤ b.So
  se : b.So + 1 < b.Eh
/-- A map in memory; N: as many touches there were at most. -/
structure XM (w : World) (b : Bk) (s : MS) (N : Nat) : Prop where
  wf : WF s
  blk : HB w b.X 80 (mapC b s)
  ar : aE.AC w b.Ra b.Ga s.xs
  tb : ∃ H, bH.TB w b.St b.Rt b.Kt 8 s.n H s.tb
  od : s.kind = 2 → ∃ L n, ks L = s.us ∧ n ≤ N ∧ oU.OR w (b.So + 1) b.So s.n n L
  lay : Lay b
  eh : b.Eh ≤ w.heap.size

/-- What a call may turn: of what there was from X on up to Eh anything, of what was made behind that the table's rows alone. -/
structure Xn (b : Bk) (w w' : World) : Prop where
  os : w'.os = w.os
  tape : w'.tape = w.tape
  output : w'.output = w.output
  size : w.heap.size ≤ w'.heap.size
  low : ∀ k, k < w.heap.size → k < b.X → w'.heap[k]? = w.heap[k]?
  typ : ∀ (k : Nat) (o : Obj), b.Eh ≤ k → w.heap[k]? = some o → (∀ cs fr, o ≠ .cells cs 170 fr) → (∀ cs fr, o ≠ .cells cs 154 fr) → w'.heap[k]? = some o
section
variable {b : Bk} {w w' w2 a : World}
theorem Xn.of_ch (h : Ch [] w w') : Xn b w w' := ⟨h.os, h.tape, h.output, h.size, fun k hk _ => h.block k hk (by simp), fun k o _ hk _ _ => (h.block k (Array.getElem?_eq_some_iff.1 hk).1 (by simp)).trans hk⟩
/-- Blocks of the map's own, made with it. -/
theorem Xn.of_own {S : List Nat} (h : Ch S w w') (hS : ∀ k ∈ S, b.X ≤ k ∧ k < b.Eh) : Xn b w w' :=
  ⟨h.os, h.tape, h.output, h.size, fun k hk hx => h.block k hk (fun hm => by have := (hS k hm).1; omega), fun k o he hk _ _ => (h.block k (Array.getElem?_eq_some_iff.1 hk).1 (fun hm => by have := (hS k hm).2; omega)).trans hk⟩
theorem Xn.of_tn (hl : Lay b) (h : bH.Tn b.St w w') : Xn b w w' :=
  ⟨h.os, h.tape, h.output, h.size, fun k hk hx => h.low k hk (by have := hl.xg; have := hl.gr; have := hl.rs; omega), fun k o _ hk h1 h2 => h.typ k o hk h1 h2⟩
theorem Xn.trans (h : Xn b w w') (k : Xn b w' w2) : Xn b w w2 :=
  ⟨k.os.trans h.os, k.tape.trans h.tape, k.output.trans h.output, Nat.le_trans h.size k.size, fun i hi hx => (k.low i (Nat.lt_of_lt_of_le hi h.size) hx).trans (h.low i hi hx), fun i o he hi h1 h2 => k.typ i o he (h.typ i o he hi h1 h2) h1 h2⟩
theorem Xn.ch (h : Xn b w w') (hc : Ch [] a w) (hx : a.heap.size ≤ b.X) : Ch [] a w' :=
  ⟨h.os.trans hc.os, h.tape.trans hc.tape, h.output.trans hc.output, Nat.le_trans hc.size h.size, fun k hk _ => (h.low k (Nat.lt_of_lt_of_le hk hc.size) (by omega)).trans (hc.block k hk (by simp))⟩
theorem Xn.hb (h : Xn b w w') {B : Nat} {t : TypeId} {cs : Array Value} (hb : HB w B t cs) (he : b.Eh ≤ B) (h1 : t ≠ 170) (h2 : t ≠ 154) : HB w' B t cs :=
  h.typ B _ he hb (fun cs fr e => by cases e; exact h1 rfl) (fun cs fr e => by cases e; exact h2 rfl)
theorem Xn.row (h : Xn b w w') {B t s n : Nat} {v : Value} {xs : List Value} (hr : w.ownsRow B t s v n xs) (he : b.Eh ≤ B) (h1 : t ≠ 170) (h2 : t ≠ 154) : w'.ownsRow B t s v n xs := by
  refine ⟨hr.1, ?_⟩
  rcases hr.2 with hn | ⟨g, cap, cur, rfl, hb, hg, rest⟩
  · exact .inl hn
  · exact .inr ⟨g, cap, cur, rfl, hb, h.typ g _ (by omega) hg (fun cs fr e => by cases e; exact h1 rfl) (fun cs fr e => by cases e; exact h2 rfl), rest⟩
/-- A store into what the call itself has made. -/
theorem Xn.set (h : Xn b w w') {p : Addr} (hp : w.heap.size ≤ p.block) (v : Value) : Xn b w (w'.setCell p v) :=
  have hb : ∀ k, k < w.heap.size → (w'.setCell p v).heap[k]? = w'.heap[k]? := fun k hk => Below.heap_setCell _ p v k (by omega)
  ⟨h.os, h.tape, h.output, by simpa [World.setCell] using h.size, fun k hk hx => (hb k hk).trans (h.low k hk hx), fun k o he hk h1 h2 => (hb k (Array.getElem?_eq_some_iff.1 hk).1).trans (h.typ k o he hk h1 h2)⟩
theorem Xn.below (h : Xn b w w') (hg : Below w.heap.size w' w2) : Xn b w w2 :=
  ⟨hg.os.trans h.os, hg.tape.trans h.tape, hg.output.trans h.output, Nat.le_trans h.size hg.size, fun k hk hx => (hg.block k hk).trans (h.low k hk hx), fun k o he hk h1 h2 => (hg.block k (Array.getElem?_eq_some_iff.1 hk).1).trans (h.typ k o he hk h1 h2)⟩
end

section
variable {w w' : World} {b : Bk} {s : MS} {N : Nat}
theorem XM.nil (h : XM w b s N) : b.X < w.heap.size := h.blk.lt
theorem XM.mono (h : XM w b s N) {M : Nat} (hm : N ≤ M) : XM w b s M :=
  ⟨h.wf, h.blk, h.ar, h.tb, fun e => by obtain ⟨L, n, h1, h2, h3⟩ := h.od e; exact ⟨L, n, h1, Nat.le_trans h2 hm, h3⟩, h.lay, h.eh⟩
theorem XM.quiet (h : XM w b s N) (hc : Ch [] w w') : XM w' b s N := by
  obtain ⟨H, ht⟩ := h.tb
  exact ⟨h.wf, h.blk.ch hc (by simp), h.ar.ch hc (by simp) (by simp), ⟨H, ht.quiet hc⟩, fun e => by obtain ⟨L, n, h1, h2, h3⟩ := h.od e; exact ⟨L, n, h1, h2, h3.quiet hc⟩, h.lay, Nat.le_trans h.eh hc.size⟩
/-- A table stands where none of its blocks turns. -/
theorem tb_away {S R K n room : Nat} {H : Nat → Value} {L : List (Ent (Int × Int))} (h : bH.TB w S R K n room H L) {T : List Nat} (hc : Ch T w w')
    (hT : ∀ k ∈ T, k < S ∨ ∃ o, w.heap[k]? = some o ∧ (∀ cs fr, o ≠ .cells cs 170 fr) ∧ (∀ cs fr, o ≠ .cells cs 154 fr) ∧ (∀ cs fr, o ≠ .cells cs 135 fr)) : bH.TB w' S R K n room H L := by
  have row : ∀ {B t sz m : Nat} {v : Value} {xs : List Value}, w.ownsRow B t sz v m xs → S ≤ B → (t = 170 ∨ t = 154) → w'.ownsRow B t sz v m xs := by
    intro B t sz m v xs hr hB ht
    refine ⟨hr.1, ?_⟩
    rcases hr.2 with hn | ⟨g, cap, cur, rfl, hb, hg, rest⟩
    · exact .inl hn
    · refine .inr ⟨g, cap, cur, rfl, hb, (hc.block g (Array.getElem?_eq_some_iff.1 hg).1 (fun hm => ?_)).trans hg, rest⟩
      rcases hT g hm with h1 | ⟨o, h1, h2, h3, _⟩
      · omega
      · rw [hg] at h1
        cases h1
        rcases ht with rfl | rfl
        · exact h2 _ _ rfl
        · exact h3 _ _ rfl
  refine ⟨(hc.block R h.lt.1 (fun hm => ?_)).trans h.blk, row h.heads (Nat.le_refl _) (.inr rfl), fun i hi => row (h.rows i hi) (Nat.le_refl _) (.inl rfl), h.apart, h.rS, h.nd, h.hn, h.hr, h.hl⟩
  rcases hT R hm with h1 | ⟨o, h1, _, _, h4⟩
  · have := h.rS; omega
  · rw [h.blk] at h1
    cases h1
    exact h4 _ _ rfl
/-- The arena turned. -/
theorem XM.arena (h : XM w b s N) {xs : List (Sl El)} (hw : WF { s with xs := xs }) (hc : Ch [b.Ga] w w') (ha : aE.AC w' b.Ra b.Ga xs) : XM w' b { s with xs := xs } N ∧ Xn b w w' := by
  obtain ⟨H, ht⟩ := h.tb
  have l := h.lay
  have l1 := l.xg; have l2 := l.gr; have l3 := l.rs; have l4 := l.sr; have l5 := l.re; have l6 := l.so
  refine ⟨⟨hw, h.blk.ch hc (by simp; omega), ha, ⟨H, tb_away ht hc (fun k hk => by simp at hk; left; omega)⟩, fun e => ?_, l, Nat.le_trans h.eh hc.size⟩, Xn.of_own hc (fun k hk => by simp at hk; omega)⟩
  obtain ⟨L, n, h1, h2, h3⟩ := h.od e
  exact ⟨L, n, h1, h2, h3.ch hc (by simp; omega) (by simp; omega)⟩
/-- The table turned. -/
theorem XM.table (h : XM w b s N) {tb : List (Ent (Int × Int))} {us : List Nat} (hw : WF { s with tb := tb, us := us }) (hu : s.kind ≠ 2) (hc : bH.Tn b.St w w') (ht : ∃ H, bH.TB w' b.St b.Rt b.Kt 8 s.n H tb) : XM w' b { s with tb := tb, us := us } N ∧ Xn b w w' := by
  have l := h.lay
  have l1 := l.xg; have l2 := l.gr; have l3 := l.rs
  have a := h.ar.lt
  refine ⟨⟨hw, (hc.low b.X h.blk.lt (by omega)).trans h.blk, h.ar.blocks (hc.low _ a.1 (by omega)) (hc.low _ a.2 (by omega)), ht, fun e => absurd e hu, l, Nat.le_trans h.eh hc.size⟩, Xn.of_tn l hc⟩
/-- Parts of a map, each by itself. -/
structure XP (w : World) (b : Bk) (s : MS) (N : Nat) (tb : List (Ent (Int × Int))) (us : List Nat) : Prop where
  blk : HB w b.X 80 (mapC b s)
  ar : aE.AC w b.Ra b.Ga s.xs
  tb : ∃ H, bH.TB w b.St b.Rt b.Kt 8 s.n H tb
  od : s.kind = 2 → ∃ L n, ks L = us ∧ n ≤ N ∧ oU.OR w (b.So + 1) b.So s.n n L
  lay : Lay b
  eh : b.Eh ≤ w.heap.size
end
section
variable {w w' : World} {b : Bk} {s : MS} {N : Nat} {tb : List (Ent (Int × Int))} {us : List Nat}
theorem XM.xp (h : XM w b s N) : XP w b s N s.tb s.us := ⟨h.blk, h.ar, h.tb, h.od, h.lay, h.eh⟩
theorem XP.xm (h : XP w b s N tb us) (hw : WF { s with tb := tb, us := us }) : XM w b { s with tb := tb, us := us } N := ⟨hw, h.blk, h.ar, h.tb, h.od, h.lay, h.eh⟩
theorem XP.quiet (h : XP w b s N tb us) (hc : Ch [] w w') : XP w' b s N tb us := by
  obtain ⟨H, ht⟩ := h.tb
  exact ⟨h.blk.ch hc (by simp), h.ar.ch hc (by simp) (by simp), ⟨H, ht.quiet hc⟩, fun e => by obtain ⟨L, n, h1, h2, h3⟩ := h.od e; exact ⟨L, n, h1, h2, h3.quiet hc⟩, h.lay, Nat.le_trans h.eh hc.size⟩
theorem XP.arena (h : XP w b s N tb us) {xs : List (Sl El)} (hc : Ch [b.Ga] w w') (ha : aE.AC w' b.Ra b.Ga xs) : XP w' b { s with xs := xs } N tb us ∧ Xn b w w' := by
  obtain ⟨H, ht⟩ := h.tb
  have l := h.lay
  have l1 := l.xg; have l2 := l.gr; have l3 := l.rs; have l4 := l.sr; have l5 := l.re; have l6 := l.so
  refine ⟨⟨h.blk.ch hc (by simp; omega), ha, ⟨H, tb_away ht hc (fun k hk => by simp at hk; left; omega)⟩, fun e => ?_, l, Nat.le_trans h.eh hc.size⟩, Xn.of_own hc (fun k hk => by simp at hk; omega)⟩
  obtain ⟨L, n, h1, h2, h3⟩ := h.od e
  exact ⟨L, n, h1, h2, h3.ch hc (by simp; omega) (by simp; omega)⟩
theorem XP.table (h : XP w b s N tb us) {tb2 : List (Ent (Int × Int))} (hc : bH.Tn b.St w w') (ht : ∃ H, bH.TB w' b.St b.Rt b.Kt 8 s.n H tb2) : XP w' b s N tb2 us ∧ Xn b w w' := by
  have l := h.lay
  have l1 := l.xg; have l2 := l.gr; have l3 := l.rs
  have a := h.ar.lt
  refine ⟨⟨(hc.low b.X h.blk.lt (by omega)).trans h.blk, h.ar.blocks (hc.low _ a.1 (by omega)) (hc.low _ a.2 (by omega)), ht, fun e => ?_, l, Nat.le_trans h.eh hc.size⟩, Xn.of_tn l hc⟩
  obtain ⟨L, n, h1, h2, h3⟩ := h.od e
  obtain ⟨es, clock, hm⟩ := h3.isMap
  exact ⟨L, n, h1, h2, h3.blocks (by rw [h3.blk]; exact hc.blk h3.blk (by decide) (by decide)) (by rw [hm]; exact hc.typ _ _ hm (fun _ _ e => by cases e) (fun _ _ e => by cases e))⟩
/-- The order turned. -/
theorem XP.order (h : XP w b s N tb us) (h2 : s.kind = 2) {T : List Nat} (hT : ∀ k ∈ T, k = b.So + 1 ∨ k = b.So) (hc : Ch T w w') {L : List oU.Ent} {n M : Nat} {us2 : List Nat} (hL : ks L = us2) (hn : n ≤ M) (ho : oU.OR w' (b.So + 1) b.So s.n n L) : XP w' b s M tb us2 ∧ Xn b w w' := by
  obtain ⟨H, ht⟩ := h.tb
  obtain ⟨L0, n0, _, _, h0⟩ := h.od h2
  have l := h.lay
  have l1 := l.xg; have l2 := l.gr; have l3 := l.rs; have l6 := l.so; have l7 := l.se
  have hn' : ∀ {k}, k < b.St → k ∉ T := fun hk hm => by have := hT _ hm; omega
  refine ⟨⟨h.blk.ch hc (hn' (by omega)), h.ar.ch hc (hn' (by omega)) (hn' (by omega)), ⟨H, tb_away ht hc (fun k hk => .inr ?_)⟩, fun _ => ⟨L, n, hL, hn, ho⟩, l, Nat.le_trans h.eh hc.size⟩, Xn.of_own hc (fun k hk => by have := hT k hk; omega)⟩
  rcases hT k hk with rfl | rfl
  · exact ⟨_, h0.blk, fun _ _ e => (by cases e), fun _ _ e => (by cases e), fun _ _ e => (by cases e)⟩
  · obtain ⟨es, clock, hm⟩ := h0.isMap
    exact ⟨_, hm, fun _ _ e => (by cases e), fun _ _ e => (by cases e), fun _ _ e => (by cases e)⟩
/-- A box of a call's own turns. -/
theorem XP.other (h : XP w b s N tb us) {B : Nat} {cs : Array Value} {t : TypeId} (hB : HB w B t cs) (he : b.Eh ≤ B) (h1 : t ≠ 170) (h2 : t ≠ 154) (h3 : t ≠ 135) (o : Nat) (v : Value) : XP (w.setCell ⟨B, o, none⟩ v) b s N tb us := by
  obtain ⟨H, ht⟩ := h.tb
  have l := h.lay
  have l1 := l.xg; have l2 := l.gr; have l3 := l.rs; have l4 := l.sr; have l5 := l.re; have l7 := l.se; have l6 := l.so
  have hc : Ch [B] w (w.setCell ⟨B, o, none⟩ v) := (Ch.refl [B] w).setCell (p := ⟨B, o, none⟩) (by simp) v
  refine ⟨h.blk.ch hc (by simp; omega), h.ar.ch hc (by simp; omega) (by simp; omega), ⟨H, ht.other hB h1 h2 h3 o v⟩, fun e => ?_, l, Nat.le_trans h.eh hc.size⟩
  obtain ⟨L, n, g1, g2, g3⟩ := h.od e
  exact ⟨L, n, g1, g2, g3.ch hc (by simp; omega) (by simp; omega)⟩
end
end Go.Proofs.YtalhlopjaijhcaaGreat

namespace Go.Proofs.YtalhlopjaijhcaaGreat
open Go.RowKit

attribute [local go_sem] Oper.semAt_some

abbrev hdV (h : Int × Int) : Value := .agg #[.int .i64 h.1, .int .i64 h.2]
abbrev mp (b : Bk) : Value := .pointer (some ⟨b.X, 0, none⟩)
section
variable {w : World} {b : Bk} {s : MS} {N : Nat} {tb : List (Ent (Int × Int))} {us : List Nat}
theorem XP.tg (h : XP w b s N tb us) : bH.TG w b.St (some ⟨b.Rt, 0, none⟩) 8 tb := by
  obtain ⟨H, ht⟩ := h.tb
  exact .inr ⟨b.Rt, b.Kt, s.n, H, rfl, ht⟩
theorem XP.la (h : XP w b s N tb us) : aE.LA w.heap.size w (some ⟨b.Ra, 0, none⟩) b.Ga s.xs := .inr ⟨b.Ra, rfl, h.ar.lt.1, h.ar.lt.2, h.ar⟩
theorem XP.cells (h : XP w b s N tb us) : w.cell? ⟨b.X, 0, none⟩ = some (.int .i64 (s.kind : Int)) ∧ w.cell? ⟨b.X, 1, none⟩ = some (.int .i64 (s.n : Int)) ∧ w.cell? ⟨b.X, 2, none⟩ = some (.int .i64 (s.wd : Int)) ∧ w.cell? ⟨b.X, 3, none⟩ = some (.bool s.cl) ∧
    w.cell? ⟨b.X, 4, none⟩ = some (.pointer (some ⟨b.Ra, 0, none⟩)) ∧ w.cell? ⟨b.X, 5, none⟩ = some (.pointer (some ⟨b.Rt, 0, none⟩)) ∧ w.cell? ⟨b.X, 6, none⟩ = some (.pointer (usP b s.kind)) :=
  ⟨h.blk.c 0 rfl, h.blk.c 1 rfl, h.blk.c 2 rfl, h.blk.c 3 rfl, h.blk.c 4 rfl, h.blk.c 5 rfl, h.blk.c 6 rfl⟩

/-- What Look tells. -/
def lookH (tb : List (Ent (Int × Int))) (k : Nat) : Int × Int := (valE tb k).getD (0, 0)
def lookE (tb : List (Ent (Int × Int))) (k : Nat) : Int := if (valE tb k).isSome = true then 0 else 4
theorem look_any (h : XP w b s N tb us) (k : Nat) :
    Calls Tryz.prog 31 #[mp b, .int .u64 (k : Int)] w fun e w' => e = .returned (.tuple #[hdV (lookH tb k), .int .i64 (lookE tb k)]) ∧ Ch [] w w' := by
  obtain ⟨w1, hw1⟩ : ∃ w1, w1 = w.alloc (.cells #[.int .i64 0, .int .i64 0] 39) := ⟨_, rfl⟩
  have hc1 : Ch [] w w1 := by rw [hw1]; exact (Ch.refl [] w).alloc _
  have h1 := h.quiet hc1
  have HG := Lib.hid (bH.get_any h1.tg k)
  have c5 := h1.cells.2.2.2.2.2.1
  have HR := Lib.hid (show Box2 w1 w.heap.size (.int .i64 0) (.int .i64 0) by rw [hw1]; exact Box2.new w _ _ _)
  have HC1 := Lib.hid hc1
  have HW := Lib.hid hw1
  unfold lookH lookE
  rw [hw1] at c5
  obtain ⟨v, hv⟩ : ∃ v, v = valE tb k := ⟨_, rfl⟩
  rw [← hv] at HG ⊢
  clear h h1 hc1 hw1 hv
  cases v with
  | none =>
    go_enter Tryz.func31, Tryz.ntmps31
    go_wp2_with fail
    rw [← HW.out]
    with_reducible refine HG.out.mono ?_
    rintro e w2 ⟨rfl, hc⟩
    have HC := Lib.hid ((HC1.out.trans hc).alloc (.cells #[.int .i64 0, .int .i64 0] 39))
    have HR2 := Lib.hid ((HR.out.ch hc (by simp)).alloc (.cells #[.int .i64 0, .int .i64 0] 39))
    obtain ⟨d0, d1, f0, f1⟩ := HR2.out
    have d1' := setCell_other (u := Value.int .i64 0) d1 (addr_ne_off (g := w.heap.size) (a := 0) (b := 1) (by decide))
    clear hc HG c5
    go_wp2
    obtain ⟨k0, k1, _, _⟩ := HR2.out.set (.int .i64 0) (.int .i64 0)
    refine bodyPost_ret (v := .tuple #[hdV (0, 0), .int .i64 4]) ?_ rfl ?_
    · simp [results, Tryz.f31, go_sem, k0, k1]
    · exact ⟨rfl, chSetNew (p := ⟨w.heap.size, 1, none⟩) (chSetNew (p := ⟨w.heap.size, 0, none⟩) HC.out (Nat.le_refl _) _) (Nat.le_refl _) _⟩
  | some y =>
    go_enter Tryz.func31, Tryz.ntmps31
    go_wp2_with fail
    rw [← HW.out]
    with_reducible refine HG.out.mono ?_
    rintro e w2 ⟨rfl, hc⟩
    obtain ⟨p, q⟩ := y
    have HC := Lib.hid ((HC1.out.trans hc).alloc (.cells #[.int .i64 p, .int .i64 q] 39))
    have HR2 := Lib.hid ((HR.out.ch hc (by simp)).alloc (.cells #[.int .i64 p, .int .i64 q] 39))
    have HN := Lib.hid (Box2.new w2 (.int .i64 p) (.int .i64 q) 39)
    obtain ⟨d0, d1, f0, f1⟩ := HR2.out
    obtain ⟨n0, n1, _, _⟩ := HN.out
    have d1' := setCell_other (u := Value.int .i64 p) d1 (addr_ne_off (g := w.heap.size) (a := 0) (b := 1) (by decide))
    clear hc HG c5
    simp only [Option.getD_some, Option.isSome_some] at *
    go_wp2
    obtain ⟨k0, k1, _, _⟩ := HR2.out.set (.int .i64 p) (.int .i64 q)
    refine bodyPost_ret (v := .tuple #[hdV (p, q), .int .i64 0]) ?_ rfl ?_
    · simp [results, Tryz.f31, go_sem, k0, k1]
    · exact ⟨rfl, chSetNew (p := ⟨w.heap.size, 1, none⟩) (chSetNew (p := ⟨w.heap.size, 0, none⟩) HC.out (Nat.le_refl _) _) (Nat.le_refl _) _⟩

theorem look_nil (k : Nat) (w : World) :
    Calls Tryz.prog 31 #[.pointer none, .int .u64 (k : Int)] w fun e w' => e = .returned (.tuple #[hdV (0, 0), .int .i64 6]) ∧ Ch [] w w' := by
  have HR := Lib.hid (Box2.new w (.int .i64 0) (.int .i64 0) 39)
  have HC := Lib.hid ((Ch.refl [] w).alloc (.cells #[.int .i64 0, .int .i64 0] 39))
  go_enter Tryz.func31, Tryz.ntmps31
  go_wp2
  obtain ⟨k0, k1, _, _⟩ := HR.out
  refine bodyPost_ret (v := .tuple #[hdV (0, 0), .int .i64 6]) ?_ rfl ?_
  · simp [results, Tryz.f31, go_sem, k0, k1]
  · exact ⟨rfl, HC.out⟩

theorem len_any (h : XP w b s N tb us) : Calls Tryz.prog 16 #[mp b] w fun e w' => e = .returned (.int .i64 (tb.length : Int)) ∧ w' = w := by
  have HL := Lib.hid (bH.len_any h.tg)
  have c5 := h.cells.2.2.2.2.2.1
  clear h
  go_enter Tryz.func16, Tryz.ntmps16
  go_wp2_with fail
  with_reducible refine HL.out.mono ?_
  rintro e w' ⟨rfl, rfl⟩
  go_wp2
  go_ret
  exact ⟨rfl, rfl⟩
theorem held_any (h : XP w b s N tb us) : Calls Tryz.prog 18 #[mp b] w fun e w' => e = .returned (.int .i64 (heldN s : Int)) ∧ Ch [] w w' := by
  have HL := Lib.hid (aE.len_la _ _ _ w h.la)
  have c4 := h.cells.2.2.2.2.1
  unfold heldN
  generalize (sel s.xs isHeld).length = m at *
  clear h
  go_enter Tryz.func18, Tryz.ntmps18
  go_wp2_with fail
  with_reducible refine HL.out.mono ?_
  rintro e w' ⟨rfl, hb⟩
  go_wp2
  go_ret
  exact ⟨rfl, Ch.of_below hb⟩
theorem kind_any (h : XP w b s N tb us) : Calls Tryz.prog 19 #[mp b] w fun e w' => e = .returned (.int .i64 (s.kind : Int)) ∧ w' = w := by
  have c0 := h.cells.1
  clear h
  go_enter Tryz.func19, Tryz.ntmps19
  go_wp2
  go_ret
  exact ⟨rfl, rfl⟩
theorem words_any (h : XP w b s N tb us) : Calls Tryz.prog 20 #[mp b] w fun e w' => e = .returned (.int .i64 (s.wd : Int)) ∧ w' = w := by
  have c2 := h.cells.2.2.1
  clear h
  go_enter Tryz.func20, Tryz.ntmps20
  go_wp2
  go_ret
  exact ⟨rfl, rfl⟩
end
theorem ints_nil (w : World) : (Calls Tryz.prog 16 #[.pointer none] w fun e w' => e = .returned (.int .i64 0) ∧ w' = w) ∧ (Calls Tryz.prog 18 #[.pointer none] w fun e w' => e = .returned (.int .i64 0) ∧ w' = w) ∧
    (Calls Tryz.prog 19 #[.pointer none] w fun e w' => e = .returned (.int .i64 0) ∧ w' = w) ∧ (Calls Tryz.prog 20 #[.pointer none] w fun e w' => e = .returned (.int .i64 0) ∧ w' = w) := by
  refine ⟨?_, ?_, ?_, ?_⟩
  · go_enter Tryz.func16, Tryz.ntmps16
    go_wp2
    go_ret
    exact ⟨rfl, rfl⟩
  · go_enter Tryz.func18, Tryz.ntmps18
    go_wp2
    go_ret
    exact ⟨rfl, rfl⟩
  · go_enter Tryz.func19, Tryz.ntmps19
    go_wp2
    go_ret
    exact ⟨rfl, rfl⟩
  · go_enter Tryz.func20, Tryz.ntmps20
    go_wp2
    go_ret
    exact ⟨rfl, rfl⟩
end Go.Proofs.YtalhlopjaijhcaaGreat

namespace Go.Proofs.YtalhlopjaijhcaaGreat
open Go.RowKit

attribute [local go_sem] Oper.semAt_some

theorem wf64 {k : Nat} (h : k < 18446744073709551616) : oU.wfK k := by
  unfold oU.wfK
  have h1 : IntKind.u64.min = 0 := by decide
  have h2 : IntKind.u64.max = 18446744073709551615 := by decide
  simp only [Lit.wf]
  simp
  omega
theorem lt64 {k : Nat} (h : oU.wfK k) : k < 18446744073709551616 := by
  unfold oU.wfK at h
  have h1 : IntKind.u64.min = 0 := by decide
  have h2 : IntKind.u64.max = 18446744073709551615 := by decide
  simp only [Lit.wf] at h
  simp at h
  omega

/-- One key is deleted from a table. -/
theorem tdel_any {w : World} {S R K n room : Nat} {H : Nat → Value} {L : List (Ent (Int × Int))} (h : bH.TB w S R K n room H L) (k : Nat) {Y : Nat} (hY : HB w Y 40 #[.int .u64 (k : Int)]) :
    Calls Tryz.prog 94 #[.pointer (some ⟨R, 0, none⟩), .slice (some ⟨Y, 0, none⟩) 1 1] w fun e w' => (∃ v, e = .returned v) ∧ (∃ H', bH.TB w' S R K n room H' (delE L k)) ∧ bH.Tn S w w' := by
  refine (callsIn_wide.1 (bH.del_in 0 S n room (some ⟨R, 0, none⟩) L (some ⟨Y, 0, none⟩) 1 1 [k] w (.inr ⟨R, K, H, rfl, h⟩) h.lt.2.2.2 rfl (by decide) (fun W hW => .inr ⟨Y, 0, rfl, fun j z hj => ?_⟩))).mono ?_
  · have h1 := hW.blk hY (by decide) (by decide)
    rw [Nat.zero_add, (cell_plain h1 j).1]
    match j, hj with
    | 0, hj => simp at hj; subst hj; rfl
    | j + 1, hj => simp at hj
  · rintro r w' ⟨rfl, ht, htn⟩
    refine ⟨⟨_, rfl⟩, ?_, htn⟩
    rcases ht with ⟨h0, _⟩ | ⟨R', K', H', h1, ht'⟩
    · cases h0
    · obtain rfl : R = R' := by simpa using h1
      have e1 := htn.blk h.blk (by decide) (by decide)
      rw [ht'.blk] at e1
      obtain rfl : K' = K := by simpa using e1
      exact ⟨H', ht'⟩
/-- One key is touched. -/
theorem touch1_any {w : World} {R M room n : Nat} {L : List oU.Ent} (h : oU.OR w R M room n L) {k : Nat} (hk : oU.wfK k) (hin : k ∈ ks L ∨ (ks L).length < room) {Y : Nat} (hY : HB w Y 40 #[.int .u64 (k : Int)]) (hn : n + 1 ≤ 9223372036854775807) :
    Calls Tryz.prog 57 #[.pointer (some ⟨R, 0, none⟩), .slice (some ⟨Y, 0, none⟩) 1 1] w fun e w' => (∃ v, e = .returned v) ∧ ∃ n' L', ks L' = drp (ks L) k ++ [k] ∧ n' ≤ n + 1 ∧ oU.OR w' R M room n' L' ∧ Ch [R, M] w w' := by
  have hR : Y ≠ R := by
    rintro rfl
    have h1 := h.blk
    rw [hY] at h1
    cases h1
  have hM : Y ≠ M := by
    rintro rfl
    obtain ⟨es, clock, h1⟩ := h.isMap
    rw [hY] at h1
    cases h1
  refine (oU.touch_any h (some ⟨Y, 0, none⟩) 1 [k] (.inr ⟨Y, 0, rfl, fun j z hj => ?_⟩) (.inr fun x hx => ?_) (by simpa using hk) hn).mono ?_
  · rw [Nat.zero_add, (cell_plain hY j).1]
    match j, hj with
    | 0, hj => simp at hj; subst hj; rfl
    | j + 1, hj => simp at hj
  · cases hx
    simp [hR, hM]
  · rintro e w' ⟨n', L', rfl, h1, h2, h3, h4⟩
    refine ⟨⟨_, rfl⟩, n', L', ?_, h2, h3, h4⟩
    rw [h1]
    have e1 : tchs room (ks L) [k] = tch room (ks L) k := by
      unfold tchs
      split
      · rename_i e0
        unfold tchs
        rw [← e0]
      · rfl
    rw [e1, tch_in hin]

section
variable {w : World} {b : Bk} {s : MS} {N : Nat} {tb : List (Ent (Int × Int))} {us : List Nat}
theorem unlink_any (h : XP w b s N tb us) (hu : s.kind ≠ 2 → us = []) {k : Nat} (hk : s.kind = 2 → oU.wfK k) :
    Calls Tryz.prog 62 #[mp b, .int .u64 (k : Int)] w fun e w' => e = .returned (.tuple #[]) ∧ XP w' b s N (delE tb k) (drp us k) ∧ Xn b w w' := by
  obtain ⟨w1, hw1⟩ : ∃ w1, w1 = w.alloc (.cells #[.int .u64 (k : Int)] 40) := ⟨_, rfl⟩
  have hc1 : Ch [] w w1 := by rw [hw1]; exact (Ch.refl [] w).alloc _
  have h1 := h.quiet hc1
  obtain ⟨H, ht⟩ := h1.tb
  have HD := Lib.hid (tdel_any ht k (Y := w.heap.size) (by rw [hw1]; exact HB.new w _ _))
  have HC1 := Lib.hid hc1
  have H1 := Lib.hid h1
  have HW := Lib.hid hw1
  have HU := Lib.hid hu
  have c5 := h.cells.2.2.2.2.2.1
  clear h h1 hc1 hw1 ht hu
  by_cases h2 : s.kind = 2
  · have HK2 := Lib.hid h2
    go_enter Tryz.func62, Tryz.ntmps62
    go_wp2_with fail
    rw [← HW.out]
    with_reducible refine HD.out.mono ?_
    rintro e w2 ⟨⟨v, rfl⟩, ht2, htn⟩
    obtain ⟨hp2, hx2⟩ := H1.out.table htn ht2
    obtain ⟨L, n, hL, hn, ho⟩ := hp2.od h2
    have HO := Lib.hid (oU.drop_any ho (hk h2))
    have HP2 := Lib.hid hp2
    have HX2 := Lib.hid ((Xn.of_ch HC1.out).trans hx2)
    have HL := Lib.hid (And.intro hL hn)
    have c6 := hp2.cells.2.2.2.2.2.2
    rw [show usP b s.kind = some ⟨b.So + 1, 0, none⟩ from if_pos h2] at c6
    clear hp2 hx2 ht2 htn hL hn ho h2 c5 HD
    go_wp2_with fail
    with_reducible refine HO.out.mono ?_
    rintro e w3 ⟨rfl, L', hL', ho', hc3⟩
    obtain ⟨hp3, hx3⟩ := HP2.out.order HK2.out (T := [b.So]) (by simp) hc3 (hL'.trans (by rw [HL.out.1])) HL.out.2 ho'
    have HP3 := Lib.hid hp3
    have HX3 := Lib.hid (HX2.out.trans hx3)
    clear hp3 hx3 hc3 hL' ho' HO c6
    go_wp2
    go_end0
    exact ⟨rfl, HP3.out, HX3.out⟩
  · have HK2 := Lib.hid h2
    go_enter Tryz.func62, Tryz.ntmps62
    go_wp2_with fail
    rw [← HW.out]
    with_reducible refine HD.out.mono ?_
    rintro e w2 ⟨⟨v, rfl⟩, ht2, htn⟩
    obtain ⟨hp2, hx2⟩ := H1.out.table htn ht2
    have HO := Lib.hid (oU.drop_nil k w2)
    have HP2 := Lib.hid hp2
    have HX2 := Lib.hid ((Xn.of_ch HC1.out).trans hx2)
    have c6 := hp2.cells.2.2.2.2.2.2
    rw [show usP b s.kind = none from if_neg h2] at c6
    clear hp2 hx2 ht2 htn h2 c5 HD
    go_wp2_with fail
    with_reducible refine HO.out.mono ?_
    rintro e w3 ⟨rfl, rfl⟩
    go_wp2
    go_end0
    have hu := HU.out HK2.out
    subst hu
    exact ⟨rfl, HP2.out, HX2.out⟩

/-- What a key's use makes of the keys by use. -/
def useL (kind : Nat) (us : List Nat) (k : Nat) : List Nat := if kind = 2 then drp us k ++ [k] else us
theorem useM_eq (s : MS) (k : Nat) : useM s k = { s with us := useL s.kind s.us k } := by
  unfold useM useL
  split <;> rfl
theorem full_any (h : XP w b s N tb us) : Calls Tryz.prog 90 #[mp b] w fun e w' => e = .returned (.bool (decide (s.n ≤ tb.length))) ∧ Ch [] w w' := by
  have HL := Lib.hid (fun W (hW : Ch [] w W) => len_any (h.quiet hW))
  have c1 := h.cells.2.1
  obtain ⟨m, hm⟩ : ∃ m, m = tb.length := ⟨_, rfl⟩
  rw [← hm] at HL ⊢
  clear h hm
  go_enter Tryz.func90, Tryz.ntmps90
  go_wp2_with fail
  go_quiet ((go_at_call 16; exact Calls.quiet_of_same (HL.out _ ((Ch.refl [] w).drewN _))))
  go_wp2
  go_ret
  exact ⟨by simp, (Ch.refl [] w).drewN _⟩
end
end Go.Proofs.YtalhlopjaijhcaaGreat

namespace Go.Proofs.YtalhlopjaijhcaaGreat
open Go.RowKit

attribute [local go_sem] Oper.semAt_some

section
variable {w : World} {b : Bk} {s : MS} {N : Nat} {tb : List (Ent (Int × Int))} {us : List Nat}
/-- A key is touched, where there is an order. -/
theorem used_touch (h : XP w b s N tb us) {k : Nat} (hk : oU.wfK k) (hin : s.kind = 2 → k ∈ us ∨ us.length < s.n) {Y : Nat} (hY : HB w Y 40 #[.int .u64 (k : Int)]) (hn : N + 1 ≤ 9223372036854775807) :
    Calls Tryz.prog 57 #[.pointer (usP b s.kind), .slice (some ⟨Y, 0, none⟩) 1 1] w fun e w' => (∃ v, e = .returned v) ∧ XP w' b s (N + 1) tb (useL s.kind us k) ∧ Xn b w w' := by
  by_cases h2 : s.kind = 2
  · obtain ⟨L, n, hL, hnN, ho⟩ := h.od h2
    rw [show usP b s.kind = some ⟨b.So + 1, 0, none⟩ from if_pos h2, show useL s.kind us k = drp us k ++ [k] from if_pos h2]
    refine (touch1_any ho hk (by rw [hL]; exact hin h2) hY (by omega)).mono ?_
    rintro e w' ⟨⟨v, rfl⟩, n', L', h3, h4, h5, h6⟩
    obtain ⟨p, q⟩ := h.order h2 (T := [b.So + 1, b.So]) (by simp) h6 (h3.trans (by rw [hL])) (by omega : n' ≤ N + 1) h5
    exact ⟨⟨_, rfl⟩, p, q⟩
  · rw [show usP b s.kind = none from if_neg h2, show useL s.kind us k = us from if_neg h2]
    refine (oU.touch_nil _ w).mono ?_
    rintro e w' ⟨rfl, rfl⟩
    exact ⟨⟨_, rfl⟩, ⟨h.blk, h.ar, h.tb, fun e => absurd e h2, h.lay, h.eh⟩, Xn.of_ch (Ch.refl _ _)⟩
theorem XP.mono (h : XP w b s N tb us) {M : Nat} (hm : N ≤ M) : XP w b s M tb us :=
  ⟨h.blk, h.ar, h.tb, fun e => by obtain ⟨L, n, h1, h2, h3⟩ := h.od e; exact ⟨L, n, h1, Nat.le_trans h2 hm, h3⟩, h.lay, h.eh⟩
theorem look_some {tb : List (Ent (Int × Int))} {k : Nat} {y : Int × Int} (h : valE tb k = some y) : lookH tb k = y ∧ lookE tb k = 0 := by unfold lookH lookE; rw [h]; exact ⟨rfl, rfl⟩
theorem look_none {tb : List (Ent (Int × Int))} {k : Nat} (h : valE tb k = none) : lookH tb k = (0, 0) ∧ lookE tb k = 4 := by unfold lookH lookE; rw [h]; exact ⟨rfl, rfl⟩

/-- The result's box of a handle, which a call stores at its end. -/
theorem XP.ret (h : XP w b s N tb us) {B : Nat} {u v : Value} (hB : HB w B 39 #[u, v]) (he : b.Eh ≤ B) (p q : Value) : XP ((w.setCell ⟨B, 0, none⟩ p).setCell ⟨B, 1, none⟩ q) b s N tb us ∧ HB ((w.setCell ⟨B, 0, none⟩ p).setCell ⟨B, 1, none⟩ q) B 39 #[p, q] :=
  ⟨(h.other hB he (by decide) (by decide) (by decide) 0 p).other (hB.set 0 p) he (by decide) (by decide) (by decide) 1 q, (hB.set 0 p).set 1 q⟩

set_option maxHeartbeats 1000000 in
theorem find_in (h : XP w b s N tb us) {k : Nat} (hk : oU.wfK k) (hin : s.kind = 2 → k ∈ us) (hn : N + 1 ≤ 9223372036854775807) {y : Int × Int} (hv : valE tb k = some y) :
    Calls Tryz.prog 25 #[mp b, .int .u64 (k : Int)] w fun e w' => e = .returned (.tuple #[hdV y, .int .i64 0]) ∧ XP w' b s (N + 1) tb (useL s.kind us k) ∧ Xn b w w' := by
  obtain ⟨w1, hw1⟩ : ∃ w1, w1 = w.alloc (.cells #[.int .i64 0, .int .i64 0] 39) := ⟨_, rfl⟩
  have hc1 : Ch [] w w1 := by rw [hw1]; exact (Ch.refl [] w).alloc _
  have HL := Lib.hid (look_any (h.quiet hc1) k)
  rw [(look_some hv).1, (look_some hv).2] at HL
  have H := Lib.hid h
  have HC1 := Lib.hid hc1
  have HR := Lib.hid (show HB w1 w.heap.size 39 #[.int .i64 0, .int .i64 0] by rw [hw1]; exact HB.new w _ _)
  have HW := Lib.hid hw1
  have HIn := Lib.hid hin
  have HEh := Lib.hid h.eh
  clear h hc1 hw1 hin hv
  obtain ⟨p, q⟩ := y
  go_enter Tryz.func25, Tryz.ntmps25
  go_wp2_with fail
  rw [← HW.out]
  with_reducible refine HL.out.mono ?_
  rintro e w2 ⟨rfl, hc⟩
  obtain ⟨w3, hw3⟩ : ∃ w3, w3 = w2.alloc (.cells #[.int .i64 p, .int .i64 q] 39) := ⟨_, rfl⟩
  obtain ⟨w4, hw4⟩ : ∃ w4, w4 = w3.alloc (.cells #[.int .u64 (k : Int)] 40) := ⟨_, rfl⟩
  have hc2 := HC1.out.trans hc
  have s3 : w3.heap.size = w2.heap.size + 1 := by rw [hw3]; simp
  have hc3 : Ch [] w w3 := by rw [hw3]; exact hc2.alloc _
  have hc4 : Ch [] w w4 := by rw [hw4]; exact hc3.alloc _
  have HR4 := Lib.hid (show HB w4 w.heap.size 39 #[.int .i64 0, .int .i64 0] by rw [hw4, hw3]; exact ((HR.out.ch hc (by simp)).alloc _).alloc _)
  have HX4 := Lib.hid (show HB w4 w2.heap.size 39 #[.int .i64 p, .int .i64 q] by rw [hw4, hw3]; exact (HB.new w2 _ _).alloc _)
  have HX2 := Lib.hid (show b.Eh ≤ w2.heap.size from Nat.le_trans HEh.out hc2.size)
  have HT := Lib.hid (used_touch (H.out.quiet hc4) hk (fun e => .inl (HIn.out e)) (Y := w2.heap.size + 1) (by rw [hw4, ← s3]; exact HB.new w3 _ _) hn)
  have HC4 := Lib.hid hc4
  have c6 := (H.out.quiet hc3).cells.2.2.2.2.2.2
  have HW3 := Lib.hid hw3
  have HW4 := Lib.hid hw4
  rw [hw3] at c6
  obtain ⟨X2, hX2⟩ : ∃ X2, X2 = w2.heap.size := ⟨_, rfl⟩
  have HXe := Lib.hid hX2
  clear hc hc2 hc3 hc4 hw3 hw4 HL HR hX2 s3
  go_wp2_with fail
  rw [← HW3.out, ← HW4.out, ← HXe.out]
  rw [← HXe.out] at HX4 HX2 HT
  with_reducible refine HT.out.mono ?_
  rintro e w5 ⟨⟨v, rfl⟩, hp, hx⟩
  have HP := Lib.hid hp
  have HXn := Lib.hid ((Xn.of_ch HC4.out).trans hx)
  have hr5 := hx.hb HR4.out HEh.out (by decide) (by decide)
  have hx5 := hx.hb HX4.out HX2.out (by decide) (by decide)
  have HR5 := Lib.hid hr5
  have d0 := hr5.c 0 rfl
  have d1 := setCell_other (u := Value.int .i64 p) (hr5.c 1 rfl) (addr_ne_off (g := w.heap.size) (a := 0) (b := 1) (by decide))
  have f0 := hr5.f 0
  have f1 := hr5.f 1
  have x0 := hx5.c 0 rfl
  have x1 := hx5.c 1 rfl
  clear hp hx hr5 hx5 HT c6
  go_wp2
  obtain ⟨hp, hb⟩ := HP.out.ret HR5.out HEh.out (.int .i64 p) (.int .i64 q)
  have k0 := hb.c 0 rfl
  have k1 := hb.c 1 rfl
  refine bodyPost_ret (v := .tuple #[hdV (p, q), .int .i64 0]) ?_ rfl ?_
  · simp [results, Tryz.f25, go_sem, k0, k1]
  · exact ⟨rfl, hp, (HXn.out.set (p := ⟨w.heap.size, 0, none⟩) (Nat.le_refl _) _).set (p := ⟨w.heap.size, 1, none⟩) (Nat.le_refl _) _⟩

/-- Find, where Look tells an error. -/
theorem find_err {pv : Value} {k : Nat} {E : Int} (hE : E ≠ 0) (hL : ∀ W, Ch [] w W → Calls Tryz.prog 31 #[pv, .int .u64 (k : Int)] W fun e w' => e = .returned (.tuple #[hdV (0, 0), .int .i64 E]) ∧ Ch [] W w') :
    Calls Tryz.prog 25 #[pv, .int .u64 (k : Int)] w fun e w' => e = .returned (.tuple #[hdV (0, 0), .int .i64 E]) ∧ Ch [] w w' := by
  obtain ⟨w1, hw1⟩ : ∃ w1, w1 = w.alloc (.cells #[.int .i64 0, .int .i64 0] 39) := ⟨_, rfl⟩
  have hc1 : Ch [] w w1 := by rw [hw1]; exact (Ch.refl [] w).alloc _
  have HL := Lib.hid (hL w1 hc1)
  have HC1 := Lib.hid hc1
  have HR := Lib.hid (show Box2 w1 w.heap.size (.int .i64 0) (.int .i64 0) by rw [hw1]; exact Box2.new w _ _ _)
  have HW := Lib.hid hw1
  have hd : (E == 0) = false := by simpa using hE
  clear hc1 hw1 hL
  go_enter Tryz.func25, Tryz.ntmps25
  go_wp2_with fail
  rw [← HW.out]
  with_reducible refine HL.out.mono ?_
  rintro e w2 ⟨rfl, hc⟩
  have HC := Lib.hid ((HC1.out.trans hc).alloc (.cells #[.int .i64 0, .int .i64 0] 39))
  have HR2 := Lib.hid ((HR.out.ch hc (by simp)).alloc (.cells #[.int .i64 0, .int .i64 0] 39))
  have HN := Lib.hid (Box2.new w2 (.int .i64 0) (.int .i64 0) 39)
  obtain ⟨d0, d1, f0, f1⟩ := HR2.out
  obtain ⟨n0, n1, _, _⟩ := HN.out
  have d1' := setCell_other (u := Value.int .i64 0) d1 (addr_ne_off (g := w.heap.size) (a := 0) (b := 1) (by decide))
  clear hc HL
  go_wp2
  obtain ⟨k0, k1, _, _⟩ := HR2.out.set (.int .i64 0) (.int .i64 0)
  refine bodyPost_ret (v := .tuple #[hdV (0, 0), .int .i64 E]) ?_ rfl ?_
  · simp [results, Tryz.f25, go_sem, k0, k1]
  · exact ⟨rfl, chSetNew (p := ⟨w.heap.size, 1, none⟩) (chSetNew (p := ⟨w.heap.size, 0, none⟩) HC.out (Nat.le_refl _) _) (Nat.le_refl _) _⟩
theorem find_not (h : XP w b s N tb us) {k : Nat} (hv : valE tb k = none) :
    Calls Tryz.prog 25 #[mp b, .int .u64 (k : Int)] w fun e w' => e = .returned (.tuple #[hdV (0, 0), .int .i64 4]) ∧ Ch [] w w' :=
  find_err (by decide) fun W hW => by
    have := look_any (h.quiet hW) k
    rwa [(look_none hv).1, (look_none hv).2] at this
theorem find_nil (k : Nat) (w : World) : Calls Tryz.prog 25 #[.pointer none, .int .u64 (k : Int)] w fun e w' => e = .returned (.tuple #[hdV (0, 0), .int .i64 6]) ∧ Ch [] w w' :=
  find_err (by decide) fun W _ => look_nil k W

/-- Del, where it isn't an array's, and Look tells an error. -/
theorem del_err (h : XP w b s N tb us) (hk0 : s.kind ≠ 0) {k : Nat} (hv : valE tb k = none) :
    Calls Tryz.prog 28 #[mp b, .int .u64 (k : Int)] w fun e w' => e = .returned (.tuple #[hdV (0, 0), .int .i64 4]) ∧ Ch [] w w' := by
  obtain ⟨w1, hw1⟩ : ∃ w1, w1 = w.alloc (.cells #[.int .i64 0, .int .i64 0] 39) := ⟨_, rfl⟩
  have hc1 : Ch [] w w1 := by rw [hw1]; exact (Ch.refl [] w).alloc _
  have HL := look_any (h.quiet hc1) k
  rw [(look_none hv).1, (look_none hv).2] at HL
  have HL := Lib.hid HL
  have HC1 := Lib.hid hc1
  have HR := Lib.hid (show Box2 w1 w.heap.size (.int .i64 0) (.int .i64 0) by rw [hw1]; exact Box2.new w _ _ _)
  have HW := Lib.hid hw1
  have c0 := (h.quiet hc1).cells.1
  rw [hw1] at c0
  have hd : ((s.kind : Int) == 0) = false := by simp; omega
  clear hc1 hw1 h hv hk0
  go_enter Tryz.func28, Tryz.ntmps28
  go_wp2_with fail
  rw [← HW.out]
  with_reducible refine HL.out.mono ?_
  rintro e w2 ⟨rfl, hc⟩
  have HC := Lib.hid ((HC1.out.trans hc).alloc (.cells #[.int .i64 0, .int .i64 0] 39))
  have HR2 := Lib.hid ((HR.out.ch hc (by simp)).alloc (.cells #[.int .i64 0, .int .i64 0] 39))
  have HN := Lib.hid (Box2.new w2 (.int .i64 0) (.int .i64 0) 39)
  obtain ⟨d0, d1, f0, f1⟩ := HR2.out
  obtain ⟨n0, n1, _, _⟩ := HN.out
  have d1' := setCell_other (u := Value.int .i64 0) d1 (addr_ne_off (g := w.heap.size) (a := 0) (b := 1) (by decide))
  clear hc HL c0
  go_wp2
  obtain ⟨k0, k1, _, _⟩ := HR2.out.set (.int .i64 0) (.int .i64 0)
  refine bodyPost_ret (v := .tuple #[hdV (0, 0), .int .i64 4]) ?_ rfl ?_
  · simp [results, Tryz.f28, go_sem, k0, k1]
  · exact ⟨rfl, chSetNew (p := ⟨w.heap.size, 1, none⟩) (chSetNew (p := ⟨w.heap.size, 0, none⟩) HC.out (Nat.le_refl _) _) (Nat.le_refl _) _⟩
theorem del_nil (k : Nat) (w : World) : Calls Tryz.prog 28 #[.pointer none, .int .u64 (k : Int)] w fun e w' => e = .returned (.tuple #[hdV (0, 0), .int .i64 6]) ∧ Ch [] w w' := by
  obtain ⟨w1, hw1⟩ : ∃ w1, w1 = w.alloc (.cells #[.int .i64 0, .int .i64 0] 39) := ⟨_, rfl⟩
  have hc1 : Ch [] w w1 := by rw [hw1]; exact (Ch.refl [] w).alloc _
  have HL := Lib.hid (look_nil k w1)
  have HC1 := Lib.hid hc1
  have HR := Lib.hid (show Box2 w1 w.heap.size (.int .i64 0) (.int .i64 0) by rw [hw1]; exact Box2.new w _ _ _)
  have HW := Lib.hid hw1
  clear hc1 hw1
  go_enter Tryz.func28, Tryz.ntmps28
  go_wp2_with fail
  rw [← HW.out]
  with_reducible refine HL.out.mono ?_
  rintro e w2 ⟨rfl, hc⟩
  have HC := Lib.hid ((HC1.out.trans hc).alloc (.cells #[.int .i64 0, .int .i64 0] 39))
  have HR2 := Lib.hid ((HR.out.ch hc (by simp)).alloc (.cells #[.int .i64 0, .int .i64 0] 39))
  have HN := Lib.hid (Box2.new w2 (.int .i64 0) (.int .i64 0) 39)
  obtain ⟨d0, d1, f0, f1⟩ := HR2.out
  obtain ⟨n0, n1, _, _⟩ := HN.out
  have d1' := setCell_other (u := Value.int .i64 0) d1 (addr_ne_off (g := w.heap.size) (a := 0) (b := 1) (by decide))
  clear hc HL
  go_wp2
  obtain ⟨k0, k1, _, _⟩ := HR2.out.set (.int .i64 0) (.int .i64 0)
  refine bodyPost_ret (v := .tuple #[hdV (0, 0), .int .i64 6]) ?_ rfl ?_
  · simp [results, Tryz.f28, go_sem, k0, k1]
  · exact ⟨rfl, chSetNew (p := ⟨w.heap.size, 1, none⟩) (chSetNew (p := ⟨w.heap.size, 0, none⟩) HC.out (Nat.le_refl _) _) (Nat.le_refl _) _⟩
theorem del_array (h : XP w b s N tb us) (hk0 : s.kind = 0) (k : Nat) :
    Calls Tryz.prog 28 #[mp b, .int .u64 (k : Int)] w fun e w' => e = .returned (.tuple #[hdV (0, 0), .int .i64 17]) ∧ Ch [] w w' := by
  have HC := Lib.hid ((Ch.refl [] w).alloc (.cells #[.int .i64 0, .int .i64 0] 39))
  have HR := Lib.hid (Box2.new w (.int .i64 0) (.int .i64 0) 39)
  have c0 := (h.quiet HC.out).cells.1
  rw [hk0] at c0
  clear h hk0
  go_enter Tryz.func28, Tryz.ntmps28
  go_wp2
  obtain ⟨k0, k1, _, _⟩ := HR.out
  refine bodyPost_ret (v := .tuple #[hdV (0, 0), .int .i64 17]) ?_ rfl ?_
  · simp [results, Tryz.f28, go_sem, k0, k1]
  · exact ⟨rfl, HC.out⟩

set_option maxHeartbeats 1000000 in
theorem del_in (h : XP w b s N tb us) (hu : s.kind ≠ 2 → us = []) (hk0 : s.kind ≠ 0) {k : Nat} (hk : oU.wfK k) {y : Int × Int} (hv : valE tb k = some y) :
    Calls Tryz.prog 28 #[mp b, .int .u64 (k : Int)] w fun e w' => e = .returned (.tuple #[hdV y, .int .i64 0]) ∧ XP w' b s N (delE tb k) (drp us k) ∧ Xn b w w' := by
  obtain ⟨w1, hw1⟩ : ∃ w1, w1 = w.alloc (.cells #[.int .i64 0, .int .i64 0] 39) := ⟨_, rfl⟩
  have hc1 : Ch [] w w1 := by rw [hw1]; exact (Ch.refl [] w).alloc _
  have HL := Lib.hid (look_any (h.quiet hc1) k)
  rw [(look_some hv).1, (look_some hv).2] at HL
  have H := Lib.hid h
  have HC1 := Lib.hid hc1
  have HR := Lib.hid (show HB w1 w.heap.size 39 #[.int .i64 0, .int .i64 0] by rw [hw1]; exact HB.new w _ _)
  have HW := Lib.hid hw1
  have HU := Lib.hid hu
  have HEh := Lib.hid h.eh
  have c0 := (h.quiet hc1).cells.1
  rw [hw1] at c0
  have hd : ((s.kind : Int) == 0) = false := by simp; omega
  clear h hc1 hw1 hu hv hk0
  obtain ⟨p, q⟩ := y
  go_enter Tryz.func28, Tryz.ntmps28
  go_wp2_with fail
  rw [← HW.out]
  with_reducible refine HL.out.mono ?_
  rintro e w2 ⟨rfl, hc⟩
  obtain ⟨w3, hw3⟩ : ∃ w3, w3 = w2.alloc (.cells #[.int .i64 p, .int .i64 q] 39) := ⟨_, rfl⟩
  have hc2 := HC1.out.trans hc
  have hc3 : Ch [] w w3 := by rw [hw3]; exact hc2.alloc _
  have HR3 := Lib.hid (show HB w3 w.heap.size 39 #[.int .i64 0, .int .i64 0] by rw [hw3]; exact (HR.out.ch hc (by simp)).alloc _)
  have HX3 := Lib.hid (show HB w3 w2.heap.size 39 #[.int .i64 p, .int .i64 q] by rw [hw3]; exact HB.new w2 _ _)
  have HX2 := Lib.hid (show b.Eh ≤ w2.heap.size from Nat.le_trans HEh.out hc2.size)
  have HT := Lib.hid (unlink_any (H.out.quiet hc3) HU.out (fun _ => hk))
  have HC3 := Lib.hid hc3
  have HW3 := Lib.hid hw3
  obtain ⟨X2, hX2⟩ : ∃ X2, X2 = w2.heap.size := ⟨_, rfl⟩
  have HXe := Lib.hid hX2
  clear hc hc2 hc3 hw3 HL HR hX2 c0
  go_wp2_with fail
  rw [← HW3.out, ← HXe.out]
  rw [← HXe.out] at HX3 HX2
  with_reducible refine HT.out.mono ?_
  rintro e w5 ⟨rfl, hp, hx⟩
  have HP := Lib.hid hp
  have HXn := Lib.hid ((Xn.of_ch HC3.out).trans hx)
  have hr5 := hx.hb HR3.out HEh.out (by decide) (by decide)
  have hx5 := hx.hb HX3.out HX2.out (by decide) (by decide)
  have HR5 := Lib.hid hr5
  have d0 := hr5.c 0 rfl
  have d1 := setCell_other (u := Value.int .i64 p) (hr5.c 1 rfl) (addr_ne_off (g := w.heap.size) (a := 0) (b := 1) (by decide))
  have f0 := hr5.f 0
  have f1 := hr5.f 1
  have x0 := hx5.c 0 rfl
  have x1 := hx5.c 1 rfl
  clear hp hx hr5 hx5 HT
  go_wp2
  obtain ⟨hp, hb⟩ := HP.out.ret HR5.out HEh.out (.int .i64 p) (.int .i64 q)
  have k0 := hb.c 0 rfl
  have k1 := hb.c 1 rfl
  refine bodyPost_ret (v := .tuple #[hdV (p, q), .int .i64 0]) ?_ rfl ?_
  · simp [results, Tryz.f28, go_sem, k0, k1]
  · exact ⟨rfl, hp, (HXn.out.set (p := ⟨w.heap.size, 0, none⟩) (Nat.le_refl _) _).set (p := ⟨w.heap.size, 1, none⟩) (Nat.le_refl _) _⟩

set_option maxHeartbeats 1000000 in
/-- Who was used longest ago is put out. -/
theorem putOut_any (h : XP w b s N tb us) (h2 : s.kind = 2) {k : Nat} {r : List Nat} (hus : us = k :: r) :
    Calls Tryz.prog 91 #[mp b] w fun e w' => e = .returned (hdV ((valE tb k).getD (0, 0))) ∧ XP w' b s N (delE tb k) (drp us k) ∧ Xn b w w' := by
  obtain ⟨⟨p, q⟩, hy⟩ : ∃ y, y = (valE tb k).getD (0, 0) := ⟨_, rfl⟩
  rw [← hy]
  have HY := Lib.hid hy
  clear hy
  obtain ⟨w1, hw1⟩ : ∃ w1, w1 = w.alloc (.cells #[.int .i64 0, .int .i64 0] 39) := ⟨_, rfl⟩
  have hc1 : Ch [] w w1 := by rw [hw1]; exact (Ch.refl [] w).alloc _
  have h1 := h.quiet hc1
  obtain ⟨L, n, hL, hn, ho⟩ := h1.od h2
  have HO := oU.oldest_any (p := some ⟨b.So + 1, 0, none⟩) (L := L) (w := w1) (.inr ⟨b.So + 1, b.So, s.n, n, rfl, ho⟩)
  rw [hL, hus] at HO
  have HO := Lib.hid HO
  have HK := Lib.hid (show oU.wfK k by
    obtain ⟨D, _, hv⟩ := ho.own
    have hm : k ∈ ks L := by rw [hL, hus]; simp
    obtain ⟨e, he, rfl⟩ := List.mem_map.1 hm
    exact (hv.mem e he).1)
  have H := Lib.hid h
  have HC1 := Lib.hid hc1
  have HR := Lib.hid (show HB w1 w.heap.size 39 #[.int .i64 0, .int .i64 0] by rw [hw1]; exact HB.new w _ _)
  have HW := Lib.hid hw1
  have HEh := Lib.hid h.eh
  have c6 := h1.cells.2.2.2.2.2.2
  rw [show usP b s.kind = some ⟨b.So + 1, 0, none⟩ from if_pos h2, hw1] at c6
  have HK2 := Lib.hid h2
  clear h h1 hc1 hw1 hL hn ho hus h2
  go_enter Tryz.func91, Tryz.ntmps91
  go_wp2_with fail
  rw [← HW.out]
  with_reducible refine HO.out.mono ?_
  rintro e w2 ⟨rfl, hc⟩
  have hc2 := HC1.out.trans hc
  have HG := Lib.hid (bH.get_any (H.out.quiet hc2).tg k)
  have c5 := (H.out.quiet hc2).cells.2.2.2.2.2.1
  have HR2 := Lib.hid (HR.out.ch hc (by simp))
  have HC2 := Lib.hid hc2
  clear hc hc2 HO c6 HR
  simp only [oU.oldK, List.headD_cons]
  go_wp2_with fail
  with_reducible refine HG.out.mono ?_
  rintro e w3 ⟨rfl, hc⟩
  rw [show (valE tb k).getD bH.v0 = (p, q) from HY.out.symm]
  obtain ⟨w4, hw4⟩ : ∃ w4, w4 = w3.alloc (.cells #[.int .i64 p, .int .i64 q] 39) := ⟨_, rfl⟩
  have hc3 := HC2.out.trans hc
  have hc4 : Ch [] w w4 := by rw [hw4]; exact hc3.alloc _
  have HR4 := Lib.hid (show HB w4 w.heap.size 39 #[.int .i64 0, .int .i64 0] by rw [hw4]; exact (HR2.out.ch hc (by simp)).alloc _)
  have HX4 := Lib.hid (show HB w4 w3.heap.size 39 #[.int .i64 p, .int .i64 q] by rw [hw4]; exact HB.new w3 _ _)
  have HX3 := Lib.hid (show b.Eh ≤ w3.heap.size from Nat.le_trans HEh.out hc3.size)
  have HT := Lib.hid (unlink_any (H.out.quiet hc4) (fun e => absurd HK2.out e) (fun _ => HK.out))
  have HC4 := Lib.hid hc4
  have HW4 := Lib.hid hw4
  obtain ⟨X3, hX3⟩ : ∃ X3, X3 = w3.heap.size := ⟨_, rfl⟩
  have HXe := Lib.hid hX3
  clear hc hc3 hc4 hw4 HG HR2 hX3 c5
  go_wp2_with fail
  rw [← HW4.out, ← HXe.out]
  rw [← HXe.out] at HX4 HX3
  with_reducible refine HT.out.mono ?_
  rintro e w5 ⟨rfl, hp, hx⟩
  have HP := Lib.hid hp
  have HXn := Lib.hid ((Xn.of_ch HC4.out).trans hx)
  have hr5 := hx.hb HR4.out HEh.out (by decide) (by decide)
  have hx5 := hx.hb HX4.out HX3.out (by decide) (by decide)
  have HR5 := Lib.hid hr5
  have d0 := hr5.c 0 rfl
  have d1 := setCell_other (u := Value.int .i64 p) (hr5.c 1 rfl) (addr_ne_off (g := w.heap.size) (a := 0) (b := 1) (by decide))
  have f0 := hr5.f 0
  have f1 := hr5.f 1
  have x0 := hx5.c 0 rfl
  have x1 := hx5.c 1 rfl
  clear hp hx hr5 hx5 HT
  go_wp2
  obtain ⟨hp, hb⟩ := HP.out.ret HR5.out HEh.out (.int .i64 p) (.int .i64 q)
  have k0 := hb.c 0 rfl
  have k1 := hb.c 1 rfl
  refine bodyPost_ret (v := hdV (p, q)) ?_ rfl ?_
  · simp [results, Tryz.f91, go_sem, k0, k1]
  · exact ⟨rfl, hp, (HXn.out.set (p := ⟨w.heap.size, 0, none⟩) (Nat.le_refl _) _).set (p := ⟨w.heap.size, 1, none⟩) (Nat.le_refl _) _⟩
end
end Go.Proofs.YtalhlopjaijhcaaGreat
