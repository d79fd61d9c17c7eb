/-
  Touches compared; rows of elements of two cells, sorted.
-/
import Derived.Test.YtediabcgeghogaaOrP
import Derived.Test.YtediabcgeghogaaShelf
import Derived.Sort.OwnSorted

namespace Go.Proofs.Ytediabcgeghogaa
open Go.RowKit Go.Maps Go.Sort

attribute [local go_sem] Oper.semAt_some

def cmpI (x y : Int) : Int := if x < y then -1 else if y < x then 1 else 0
theorem nan_any (x : Int) (w : World) : Calls Try.prog 45 #[.int .u64 x] w fun e w' => e = .returned (.bool false) ∧ w' = w := by
  go_enter Try.func45, Try.ntmps45
  go_wp2_with fail
  go_ret
  refine ⟨?_, rfl⟩
  rw [show false = (x != x) by simp]
  rfl
theorem cmp_any (x y : Int) (w : World) : Calls Try.prog 39 #[.int .u64 x, .int .u64 y] w fun e w' => e = .returned (.int .i64 (cmpI x y)) ∧ w' = w := by
  have HN := Lib.hid nan_any
  unfold cmpI
  by_cases h1 : x < y
  · have hd1 : decide (x < y) = true := decide_eq_true h1
    rw [if_pos h1]
    clear h1
    go_enter Try.func39, Try.ntmps39
    go_wp2_with (go_at_call 45; refine (HN.out _ _).mono ?_; rintro e w' ⟨rfl, rfl⟩)
    go_ret
    exact ⟨rfl, rfl⟩
  · rw [if_neg h1]
    by_cases h2 : y < x
    · have hd1 : decide (x < y) = false := decide_eq_false h1
      have hd2 : decide (y < x) = true := decide_eq_true h2
      rw [if_pos h2]
      clear h1 h2
      go_enter Try.func39, Try.ntmps39
      go_wp2_with (go_at_call 45; refine (HN.out _ _).mono ?_; rintro e w' ⟨rfl, rfl⟩)
      go_ret
      exact ⟨rfl, rfl⟩
    · have hd1 : decide (x < y) = false := decide_eq_false h1
      have hd2 : decide (y < x) = false := decide_eq_false h2
      rw [if_neg h2]
      clear h1 h2
      go_enter Try.func39, Try.ntmps39
      go_wp2_with (go_at_call 45; refine (HN.out _ _).mono ?_; rintro e w' ⟨rfl, rfl⟩)
      go_ret
      exact ⟨rfl, rfl⟩

section
variable {α : Type} [Inhabited α] {enc : α → List Value}
theorem flat_at (h2 : ∀ x, ∃ a b, enc x = [a, b]) : ∀ (l : List α) (t : Nat), t < l.length * 2 → (l.flatMap enc)[t]? = some ((enc l[t / 2]!)[t % 2]!)
  | [], t, h => by simp at h
  | x :: r, t, h => by
    obtain ⟨a, b, e⟩ := h2 x
    rw [List.flatMap_cons, e]
    match t, h with
    | 0, _ => simp [e]
    | 1, _ => simp [e]
    | t + 2, h =>
      have := flat_at h2 r t (by simp at h; omega)
      rw [show (t + 2) / 2 = t / 2 + 1 by omega, show (t + 2) % 2 = t % 2 by omega]
      simpa using this
omit [Inhabited α] in
theorem flat_len (h2 : ∀ x, ∃ a b, enc x = [a, b]) (l : List α) : (l.flatMap enc).length = l.length * 2 := by
  induction l with
  | nil => rfl
  | cons x r ih =>
    obtain ⟨a, b, e⟩ := h2 x
    rw [List.flatMap_cons, e]
    simp [ih]
    omega
theorem holdsK_of_block (h2 : ∀ x, ∃ a b, enc x = [a, b]) {w : World} {g : Nat} {cur : Array Value} {e : TypeId} {ss : List α} (hb : w.heap[g]? = some (.cells cur e (0, 0))) (ht : cur.toList.take (ss.length * 2) = ss.flatMap enc) : HoldsK enc 2 w g 0 ss.toArray := by
  intro j hj
  have hj' : j < ss.length * 2 := by simpa using hj
  refine ⟨?_, by simp [World.frozen?, hb]⟩
  have h1 : (cur.toList.take (ss.length * 2))[j]? = (ss.flatMap enc)[j]? := by rw [ht]
  rw [List.getElem?_take_of_lt hj', flat_at h2 ss j hj'] at h1
  simp only [World.cell?, hb, Nat.zero_add]
  simp only [Option.isSome_none, Bool.false_eq_true, if_false]
  rw [← Array.getElem?_toList, h1, get_flatK _ _ _ _ (by simpa using hj')]
  simp
theorem heap_sortedK {w : World} {g n : Nat} {os : Array Obj} {cur : Array Value} {e : TypeId} {fr : Nat × Nat} (d : Array α) (hb : w.heap[g]? = some (.cells cur e fr)) :
    (sortWorldK enc 2 w g 0 n d os).heap[g]? = some (.cells (putCells id 0 (flatK enc 2 d) cur) e fr) := by
  have hg : g < w.heap.size := (Array.getElem?_eq_some_iff.1 hb).1
  unfold sortWorldK putRowK
  rw [heap_grow_old _ _ (by simpa using hg)]
  simp [putRow, mapBlock, Sort.ahead, Array.getElem?_modify, hb, onCells]
theorem grownBy_sortedK {w : World} {g n : Nat} {os : Array Obj} (d : Array α) : w.grownBy (sortWorldK enc 2 w g 0 n d os) (some g) := by
  refine ⟨rfl, rfl, rfl, by simp [sortWorldK, putRowK], fun k hk hne => ?_⟩
  unfold sortWorldK putRowK
  rw [heap_grow_old _ _ (by simpa using hk)]
  have : g ≠ k := fun e => hne (by rw [e])
  simp [putRow, mapBlock, Sort.ahead, Array.getElem?_modify, this]
theorem take_putCellsK (h2 : ∀ x, ∃ a b, enc x = [a, b]) (cur : Array Value) (ts : List α) (h : ts.length * 2 ≤ cur.size) : (putCells id 0 (flatK enc 2 ts.toArray) cur).toList.take (ts.length * 2) = ts.flatMap enc := by
  apply List.ext_getElem?
  intro j
  by_cases hj : j < ts.length * 2
  · rw [List.getElem?_take_of_lt hj, Array.getElem?_toList, flat_at h2 ts j hj]
    have := get_flatK enc 2 ts.toArray j (by simpa using hj)
    rw [getElem!_pos _ _ (by simpa using hj)] at this
    simp [putCells, hj, show j < cur.size by omega, this]
  · rw [List.getElem?_take_eq_none (by omega), List.getElem?_eq_none (by rw [flat_len h2]; omega)]
/-- Behind the sort the same slice owns the sorted list. -/
theorem ownsRow_sortedK (h2 : ∀ x, ∃ a b, enc x = [a, b]) {w : World} {base g cap n : Nat} {e : TypeId} {os : Array Obj} {cur : Array Value} {ss ts : List α} (hl : ts.length = ss.length) (hbase : base ≤ g) (hb : w.heap[g]? = some (.cells cur e (0, 0)))
    (h1 : ss.length ≤ cap) (h3 : cap ≤ maxLen) (h4 : cur.size = cap * 2) :
    (sortWorldK enc 2 w g 0 n ts.toArray os).ownsRow base e 2 (.slice (some ⟨g, 0, none⟩) ss.length cap) ss.length (ts.flatMap enc) :=
  ⟨by rw [flat_len h2, hl], .inr ⟨g, cap, _, rfl, hbase, heap_sortedK _ hb, h1, h3, by simp [putCells, h4], by rw [← hl]; exact take_putCellsK h2 cur ts (by omega)⟩⟩
end
end Go.Proofs.Ytediabcgeghogaa
