/-
  CPUs from the last down to the first: the sum of the lengths, the late ones' bits, the least of those that are asked for.
-/
import Derived.Test.YtnndofeomakpiaaGreatDoorBkP
import Derived.Test.YtnndofeomakpiaaGreatDoorBqE
namespace Go.Proofs.YtnndofeomakpiaaGreatDoor
open Go.RowKit Go.Maps

/-- The first j CPUs from the last down. -/
def dwn (n j : Nat) : List Nat := (List.range j).map fun i => n - 1 - i
theorem dwn_succ (n j : Nat) : dwn n (j + 1) = dwn n j ++ [n - 1 - j] := by simp [dwn, List.range_succ]
theorem mem_dwn {n i : Nat} : i ∈ dwn n n ↔ i < n := by
  unfold dwn
  simp only [List.mem_map, List.mem_range]
  constructor
  · rintro ⟨k, hk, rfl⟩; omega
  · intro h; exact ⟨n - 1 - i, by omega, by omega⟩
def lateF (f : Nat → Wh) (d : Int) (n : Nat) : Nat → Nat
  | 0 => 0
  | j + 1 => lateF f d n j * 2 + (if lateB (f (n - 1 - j)).L d = true then 1 else 0)
theorem lateF_lt (f : Nat → Wh) (d : Int) (n : Nat) : ∀ j, lateF f d n j < 2 ^ j
  | 0 => by simp [lateF]
  | j + 1 => by
    have := lateF_lt f d n j
    simp only [lateF, Nat.pow_succ]
    split <;> omega
theorem lateF_bit (f : Nat → Wh) (d : Int) (n : Nat) : ∀ j, j ≤ n → ∀ i, (lateF f d n j).testBit i = (decide (i < j) && lateB (f (n - j + i)).L d)
  | 0, _, i => by simp [lateF]
  | j + 1, hj, i => by
    simp only [lateF]
    have ih := lateF_bit f d n j (by omega)
    cases i with
    | zero =>
      rw [Nat.testBit_zero, show n - (j + 1) + 0 = n - 1 - j by omega]
      cases h : lateB (f (n - 1 - j)).L d <;> simp <;> omega
    | succ i =>
      rw [Nat.testBit_succ, show (lateF f d n j * 2 + (if lateB (f (n - 1 - j)).L d = true then 1 else 0)) / 2 = lateF f d n j by split <;> omega, ih i, show n - (j + 1) + (i + 1) = n - j + i by omega]
      by_cases h : i < j
      · simp [h]
      · simp [h]
theorem lateF_all (f : Nat → Wh) (d : Int) {n : Nat} (hn : n ≤ 64) : lateF f d n n = lateN f n d := by
  apply Nat.eq_of_testBit_eq
  intro i
  rw [lateF_bit f d n n (Nat.le_refl n), Nat.sub_self, Nat.zero_add]
  by_cases hi : i < 64
  · rw [lateN_test f d hi]
  · rw [decide_eq_false (by omega), Bool.false_and]
    exact (Nat.testBit_lt_two_pow (Nat.lt_of_lt_of_le (lateN_lt f n d) (by
      have : (18446744073709551616 : Nat) = 2 ^ 64 := by decide
      rw [this]
      exact Nat.pow_le_pow_right (by decide) (by omega)))).symm
theorem sumC_first (c : Nat → Nat) : ∀ n, sumC c (n + 1) = c 0 + sumC (fun i => c (i + 1)) n
  | 0 => by simp [sumC]
  | n + 1 => by
    have h := sumC_first c n
    simp only [sumC] at h ⊢
    omega
theorem sumQ_congr {c d : Nat → Nat} : ∀ n, (∀ i, i < n → c i = d i) → sumC c n = sumC d n
  | 0, _ => rfl
  | n + 1, h => by simp only [sumC]; rw [sumQ_congr n (fun i hi => h i (by omega)), h n (by omega)]
theorem sumC_rev : ∀ (n : Nat) (c : Nat → Nat), sumC (fun i => c (n - 1 - i)) n = sumC c n
  | 0, _ => rfl
  | n + 1, c => by
    rw [sumC_first c n, ← sumC_rev n (fun i => c (i + 1))]
    simp only [sumC]
    rw [show n + 1 - 1 - n = 0 by omega, sumQ_congr n (d := fun i => c (n - 1 - i + 1)) (fun i hi => by rw [show n + 1 - 1 - i = n - 1 - i + 1 by omega])]
    omega
/-- The sum of the lengths of the first j from the last down. -/
def sumF (f : Nat → Wh) (n j : Nat) : Nat := sumC (fun i => (f (n - 1 - i)).L.length) j
theorem sumF_all (f : Nat → Wh) (n : Nat) : sumF f n n = lens f n := sumC_rev n fun i => (f i).L.length
theorem sumF_succ (f : Nat → Wh) (n j : Nat) : sumF f n (j + 1) = sumF f n j + (f (n - 1 - j)).L.length := rfl
theorem sumF_le {f : Nat → Wh} {n : Nat} (h : ∀ i, i < n → (f i).L.length ≤ 256) {j : Nat} (hj : j ≤ n) : sumF f n j ≤ j * 256 := sumC_le (n := n) (fun i hi => h _ (by omega)) j hj
/-- Is a CPU asked for? -/
def inA (zs : List Int) (c : Nat) : Bool := decide (zs.length = 0) || decide ((c : Int) ∈ zs)
theorem inA_iff {zs : List Int} {c : Nat} (hc : c < 64) : inA zs c = true ↔ Mk.hasb (namedM zs) (c : Int) = true := by
  rw [named_has zs c hc]
  unfold inA
  simp
theorem LeastL.asked {f : Nat → Wh} {n : Nat} {zs : List Int} {x y : Int} {b b' : Bool} (hn : n ≤ 64) (h : LeastL f ((dwn n n).filter (inA zs)) x b) (h' : LeastL f (selC n fun i => Mk.hasb (namedM zs) (i : Int)) y b') : x = y ∧ b = b' :=
  h.eq h' fun i => by
    rw [List.mem_filter, mem_dwn, mem_selC]
    constructor
    · rintro ⟨h1, h2⟩; exact ⟨h1, (inA_iff (by omega)).1 h2⟩
    · rintro ⟨h1, h2⟩; exact ⟨h1, (inA_iff (by omega)).2 h2⟩
theorem LeastL.every {f : Nat → Wh} {n : Nat} {x y : Int} {b b' : Bool} (hn : n ≤ 64) (h : LeastL f (dwn n n) x b) (h' : LeastL f (selC n fun i => Mk.hasb (namedM []) (i : Int)) y b') : x = y ∧ b = b' :=
  h.eq h' fun i => by
    rw [mem_dwn, mem_selC]
    constructor
    · intro h1; exact ⟨h1, (inA_iff (zs := []) (by omega)).1 rfl⟩
    · rintro ⟨h1, _⟩; exact h1
theorem least_nil (f : Nat → Wh) : LeastL f [] 0 false := .inl ⟨rfl, rfl, fun i hi => by simp at hi⟩
theorem take_mem {zs : List Int} {i : Nat} (hi : i < zs.length) (x : Int) : decide (x ∈ zs.take (i + 1)) = (decide (x ∈ zs.take i) || decide (zs[i]?.getD 0 = x)) := by
  have e : (x ∈ zs.take (i + 1)) = (x ∈ zs.take i ∨ zs[i] = x) := by
    rw [List.take_add_one, List.getElem?_eq_getElem hi, List.mem_append]
    exact propext (or_congr Iff.rfl (by simp [eq_comm]))
  rw [List.getElem?_eq_getElem hi]
  simp only [e, Bool.decide_or, Option.getD_some]
theorem BP.next {w0 w : World} {K n A na : Nat} {f g : Nat → Wh} {m : Value} {c : Nat → Value} (h : BP w0 w K n f m g A na c) (hT : Mk.Tab w0) {a : Option Addr} {cp : Nat} {zs : List Int} (hz : Mk.IntsAt w a zs) (hl : zs.length ≤ 9223372036854775807) :
    Calls Tryz.prog 20 #[.pointer (some ⟨K, 0, none⟩), .slice a zs.length cp] w fun e W' => ∃ x b,
      e = .returned (.tuple #[.int .u64 x, .bool b]) ∧ LeastL f (selC n fun i => Mk.hasb (namedM zs) (i : Int)) x b ∧ Ch [] w W' := by
  obtain ⟨G, cap, hb⟩ := h.bl.bk
  exact bnext_any hb.bo (h.bl.tab hT) hz hl
theorem BP.next0 {w0 w : World} {K n A na : Nat} {f g : Nat → Wh} {m : Value} {c : Nat → Value} (h : BP w0 w K n f m g A na c) (hT : Mk.Tab w0) :
    Calls Tryz.prog 20 #[.pointer (some ⟨K, 0, none⟩), .slice none 0 0] w fun e W' => ∃ x b,
      e = .returned (.tuple #[.int .u64 x, .bool b]) ∧ LeastL f (selC n fun i => Mk.hasb (namedM []) (i : Int)) x b ∧ Ch [] w W' := h.next hT (a := none) (cp := 0) (zs := []) (.inl rfl) (by decide)
theorem BP.late {w0 w : World} {K n A na : Nat} {f g : Nat → Wh} {m : Value} {c : Nat → Value} (h : BP w0 w K n f m g A na c) (hT : Mk.Tab w0) (d : Int) :
    Calls Tryz.prog 22 #[.pointer (some ⟨K, 0, none⟩), .int .u64 d] w fun e W' => e = .returned (.int .u64 ((lateN f n d : Nat) : Int)) ∧ Ch [] w W' := h.bl.late hT d
end Go.Proofs.YtnndofeomakpiaaGreatDoor
