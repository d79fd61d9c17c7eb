/-
  A bank in memory: its block, the row of its wheels, the wheels; what a call may turn.
-/
import Derived.Test.YtnndofeomakpiaaGreatDoorMgE
namespace Go.Proofs.YtnndofeomakpiaaGreatDoor
open Go.RowKit Go.Maps

/-- A wheel of a bank: its block, its own blocks, its tick, how many were put, its timers. -/
structure Wh where
  B : Nat
  S : Nat → Prop
  now : Int
  puts : Nat
  L : List Tm
/-- The wheels with another. -/
def updW (f : Nat → Wh) (c : Nat) (x : Wh) : Nat → Wh := fun i => if i = c then x else f i
theorem updW_same (f : Nat → Wh) (c : Nat) (x : Wh) : updW f c x c = x := by simp [updW]
theorem updW_other (f : Nat → Wh) {c i : Nat} (x : Wh) (h : i ≠ c) : updW f c x i = f i := by simp [updW, h]
theorem updW_self (f : Nat → Wh) (c : Nat) : updW f c (f c) = f := by
  funext i
  unfold updW
  split
  · rename_i h; rw [h]
  · rfl
/-- The blocks that the wheels own. -/
def SU (f : Nat → Wh) (n : Nat) (k : Nat) : Prop := ∃ i, i < n ∧ (f i).S k

structure BK (w : World) (base K G cap n : Nat) (f : Nat → Wh) : Prop where
  c : w.cell? ⟨K, 0, none⟩ = some (.slice (some ⟨G, 0, none⟩) n cap)
  row : ∀ i, i < n → w.cell? ⟨G, i, none⟩ = some (.pointer (some ⟨(f i).B, 0, none⟩))
  wh : ∀ i, i < n → WB w base (f i).B (f i).S (f i).now (f i).puts (f i).L
  sep : ∀ i j, i < n → j < n → i ≠ j → ∀ k, (f i).S k → ¬ (f j).S k
  out : ∀ i, i < n → ¬ (f i).S K ∧ ¬ (f i).S G
  lo : base ≤ K ∧ base ≤ G
  n0 : 1 ≤ n
  n1 : n ≤ 64
  one : ∀ i j, i < n → j < n → i ≠ j → ∀ t ∈ (f i).L, ∀ u ∈ (f j).L, t.id ≠ u.id
section
variable {w w' : World} {base K G cap n : Nat} {f : Nat → Wh}
theorem BK.ltK (h : BK w base K G cap n f) : K < w.heap.size := cell_lt h.c
theorem BK.ltG (h : BK w base K G cap n f) : G < w.heap.size := cell_lt (h.row 0 h.n0)
theorem BK.ltS (h : BK w base K G cap n f) {k : Nat} (hk : SU f n k) : base ≤ k ∧ k < w.heap.size := by
  obtain ⟨i, hi, hs⟩ := hk
  exact (h.wh i hi).lt k hs
theorem BK.frame {T : Nat → Prop} (h : BK w base K G cap n f) (hc : ChP T w w') (hK : ¬ T K) (hG : ¬ T G) (hT : ∀ k, SU f n k → ¬ T k) : BK w' base K G cap n f :=
  ⟨(hc.cell (p := ⟨K, 0, none⟩) h.ltK hK).trans h.c, fun i hi => (hc.cell (p := ⟨G, i, none⟩) h.ltG hG).trans (h.row i hi), fun i hi => (h.wh i hi).frame hc (fun k hk => hT k ⟨i, hi, hk⟩), h.sep, h.out, h.lo, h.n0, h.n1, h.one⟩
theorem BK.quiet (h : BK w base K G cap n f) (hc : Ch [] w w') : BK w' base K G cap n f := h.frame (T := fun _ => False) (.quiet hc) id id (fun _ _ => id)
/-- One wheel has turned. -/
theorem BK.upd (h : BK w base K G cap n f) {c : Nat} (hcn : c < n) {x : Wh} (hx : WB w' base x.B x.S x.now x.puts x.L) (hB : x.B = (f c).B) (hch : ChP (f c).S w w') (hS : ∀ k, x.S k → (f c).S k ∨ w.heap.size ≤ k)
    (hone : ∀ t ∈ x.L, (∃ u ∈ (f c).L, u.id = t.id) ∨ ∀ j, j < n → j ≠ c → ∀ u ∈ (f j).L, u.id ≠ t.id) : BK w' base K G cap n (updW f c x) := by
  have hout := h.out c hcn
  have no : ∀ j, j < n → j ≠ c → ∀ k, (f j).S k → ¬ x.S k := fun j hj hne k hk hx => by
    rcases hS k hx with h1 | h1
    · exact h.sep j c hj hcn hne k hk h1
    · have := (h.wh j hj).hi k hk; omega
  have noid : ∀ j, j < n → j ≠ c → ∀ t ∈ x.L, ∀ u ∈ (f j).L, u.id ≠ t.id := fun j hj hne t ht u hu => by
    rcases hone t ht with ⟨v, hv, e⟩ | h1
    · rw [← e]; exact h.one j c hj hcn hne u hu v hv
    · exact h1 j hj hne u hu
  refine ⟨(hch.cell (p := ⟨K, 0, none⟩) h.ltK hout.1).trans h.c, fun i hi => ?_, fun i hi => ?_, fun i j hi hj hne k => ?_, fun i hi => ?_, h.lo, h.n0, h.n1, fun i j hi hj hne t ht u hu => ?_⟩
  · rw [(hch.cell (p := ⟨G, i, none⟩) h.ltG hout.2), h.row i hi]
    by_cases e : i = c
    · subst e; rw [updW_same, hB]
    · rw [updW_other f x e]
  · by_cases e : i = c
    · subst e; rw [updW_same]; exact hx
    · rw [updW_other f x e]
      exact (h.wh i hi).frame hch (fun k hk => h.sep i c hi hcn e k hk)
  · by_cases e1 : i = c
    · have e2 : j ≠ c := fun e => hne (e1.trans e.symm)
      rw [e1, updW_same, updW_other f x e2]
      exact fun h1 h2 => no j hj e2 k h2 h1
    · rw [updW_other f x e1]
      by_cases e2 : j = c
      · rw [e2, updW_same]
        exact fun h1 h2 => no i hi e1 k h1 h2
      · rw [updW_other f x e2]
        exact h.sep i j hi hj hne k
  · by_cases e : i = c
    · rw [e, updW_same]
      have := h.ltK
      have := h.ltG
      refine ⟨fun h1 => ?_, fun h1 => ?_⟩
      · rcases hS _ h1 with h2 | h2
        · exact hout.1 h2
        · omega
      · rcases hS _ h1 with h2 | h2
        · exact hout.2 h2
        · omega
    · rw [updW_other f x e]; exact h.out i hi
  · by_cases e1 : i = c
    · have e2 : j ≠ c := fun e => hne (e1.trans e.symm)
      rw [e1, updW_same] at ht
      rw [updW_other f x e2] at hu
      exact fun e => noid j hj e2 t ht u hu e.symm
    · rw [updW_other f x e1] at ht
      by_cases e2 : j = c
      · rw [e2, updW_same] at hu
        exact noid i hi e1 u hu t ht
      · rw [updW_other f x e2] at hu
        exact h.one i j hi hj hne t ht u hu
end
/-- Whose wheel holds a number. -/
def ownO (f : Nat → Wh) (n : Nat) (k : Int) : Option Nat := (List.range n).find? fun i => lookB (f i).L k
theorem lookB_iff {L : List Tm} {k : Int} : lookB L k = true ↔ ∃ t ∈ L, t.id = k := by
  unfold lookB
  rw [List.find?_isSome]
  simp
theorem ownO_none {f : Nat → Wh} {n : Nat} {k : Int} : ownO f n k = none ↔ ∀ i, i < n → ∀ t ∈ (f i).L, t.id ≠ k := by
  unfold ownO
  rw [List.find?_eq_none]
  constructor
  · intro h i hi t ht e
    exact h i (List.mem_range.2 hi) (lookB_iff.2 ⟨t, ht, e⟩)
  · intro h i hi hb
    obtain ⟨t, ht, e⟩ := lookB_iff.1 hb
    exact h i (List.mem_range.1 hi) t ht e
theorem ownO_some {f : Nat → Wh} {n : Nat} {k : Int} {c : Nat} (h : ownO f n k = some c) : c < n ∧ ∃ t ∈ (f c).L, t.id = k :=
  ⟨List.mem_range.1 (List.mem_of_find?_eq_some h), lookB_iff.1 (List.find?_some (p := fun i => lookB (f i).L k) h)⟩
theorem BK.own {w : World} {base K G cap n : Nat} {f : Nat → Wh} (h : BK w base K G cap n f) {c : Nat} (hc : c < n) {t : Tm} (ht : t ∈ (f c).L) : ownO f n t.id = some c := by
  cases e : ownO f n t.id with
  | none => exact absurd rfl (ownO_none.1 e c hc t ht)
  | some d =>
    obtain ⟨hd, u, hu, e2⟩ := ownO_some e
    by_cases h1 : d = c
    · rw [h1]
    · exact absurd e2 (h.one d c hd hc h1 u hu t ht)
/-- The CPUs that are such. -/
def selC (n : Nat) (q : Nat → Bool) : List Nat := (List.range n).filter q
theorem selC_zero (q : Nat → Bool) : selC 0 q = [] := rfl
theorem selC_yes {n : Nat} {q : Nat → Bool} (h : q n = true) : selC (n + 1) q = selC n q ++ [n] := by simp [selC, List.range_succ, h]
theorem selC_no {n : Nat} {q : Nat → Bool} (h : q n = false) : selC (n + 1) q = selC n q := by simp [selC, List.range_succ, h]
theorem selC_le (n : Nat) (q : Nat → Bool) : (selC n q).length ≤ n := by
  have := List.length_filter_le q (List.range n)
  simpa [selC] using this
theorem selC_prefix (q : Nat → Bool) {k n : Nat} (h : k ≤ n) : selC k q <+: selC n q := by
  obtain ⟨d, rfl⟩ : ∃ d, n = k + d := ⟨n - k, by omega⟩
  rw [selC, selC, List.range_add, List.filter_append]
  exact ⟨_, rfl⟩
theorem selC_all (n : Nat) : selC n (fun _ => true) = List.range n := List.filter_eq_self.2 (fun _ _ => rfl)
theorem mem_selC {n i : Nat} {q : Nat → Bool} : i ∈ selC n q ↔ i < n ∧ q i = true := by simp [selC]
theorem selC_find (n : Nat) (q : Nat → Bool) : (selC n q).head? = (List.range n).find? q := by simp [selC, List.head?_filter]
end Go.Proofs.YtnndofeomakpiaaGreatDoor
