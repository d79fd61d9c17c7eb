/-
  Plain: which blocks a call may turn; the places of a circle.
-/
import Derived.Below
import Derived.Deep.Draws
import Derived.Lib.Hide
import Derived.Test.YtkjkaihbpccdmaaChecked
namespace Go.Proofs.Ytkjkaihbpccdmaa
open Go.RowKit

/-- Of what there was, the blocks of S alone may have turned. -/
structure Ch (S : List Nat) (w w' : World) : Prop where
  os : w'.os = w.os
  tape : w'.tape = w.tape
  output : w'.output = w.output
  size : w.heap.size ≤ w'.heap.size
  block : ∀ k, k < w.heap.size → k ∉ S → w'.heap[k]? = w.heap[k]?

theorem Ch.refl (S : List Nat) (w : World) : Ch S w w := ⟨rfl, rfl, rfl, Nat.le_refl _, fun _ _ _ => rfl⟩
theorem Ch.trans {S : List Nat} {a b c : World} (h : Ch S a b) (k : Ch S b c) : Ch S a c :=
  ⟨k.os.trans h.os, k.tape.trans h.tape, k.output.trans h.output, Nat.le_trans h.size k.size, fun i hi hn => (k.block i (Nat.lt_of_lt_of_le hi h.size) hn).trans (h.block i hi hn)⟩
theorem Ch.mono {S T : List Nat} {w w' : World} (h : Ch S w w') (hs : ∀ k ∈ S, k ∈ T) : Ch T w w' := ⟨h.os, h.tape, h.output, h.size, fun k hk hn => h.block k hk (fun hm => hn (hs k hm))⟩
theorem Ch.drew {S : List Nat} {a w : World} (h : Ch S a w) : Ch S a w.drew := ⟨h.os, h.tape, h.output, h.size, h.block⟩
theorem Ch.drewN {S : List Nat} {a w : World} (h : Ch S a w) (n : Nat) : Ch S a (w.drewN n) := ⟨h.os, h.tape, h.output, h.size, h.block⟩
theorem Ch.setCell {S : List Nat} {a w : World} (h : Ch S a w) {p : Addr} (hp : p.block ∈ S) (u : Value) : Ch S a (w.setCell p u) :=
  h.trans ⟨rfl, rfl, rfl, by simp [World.setCell], fun k _ hn => Below.heap_setCell _ _ _ _ (fun e => hn (e ▸ hp))⟩
theorem Ch.alloc {S : List Nat} {a w : World} (h : Ch S a w) (o : Obj) : Ch S a (w.alloc o) :=
  h.trans ⟨rfl, rfl, rfl, by simp, fun k hk _ => Below.heap_alloc _ _ _ hk⟩
theorem Ch.of_below {S : List Nat} {w w' : World} (h : Below w.heap.size w w') : Ch S w w' := ⟨h.os, h.tape, h.output, h.size, fun k hk _ => h.block k hk⟩
theorem Ch.below {S : List Nat} {w w' : World} (h : Ch S w w') (B : Nat) (hS : ∀ k ∈ S, B ≤ k) (hB : B ≤ w.heap.size) : Below B w w' :=
  ⟨h.os, h.tape, h.output, h.size, fun k hk => h.block k (Nat.lt_of_lt_of_le hk hB) (fun hm => by have := hS k hm; omega)⟩
theorem Ch.cell {S : List Nat} {w w' : World} (h : Ch S w w') {p : Addr} (hp : p.block < w.heap.size) (hn : p.block ∉ S) : w'.cell? p = w.cell? p := World.cell?_of_block (w := w) (h.block p.block hp hn)
theorem Ch.frozen {S : List Nat} {w w' : World} (h : Ch S w w') {p : Addr} (hp : p.block < w.heap.size) (hn : p.block ∉ S) : w'.frozen? p = w.frozen? p := World.frozen?_of_block (w := w) (h.block p.block hp hn)

theorem below_drewN {B : Nat} {a w : World} (h : Below B a w) (n : Nat) : Below B a (w.drewN n) := ⟨h.os, h.tape, h.output, h.size, h.block⟩
theorem grownBy_drewN (w : World) (n : Nat) : w.grownBy (w.drewN n) none := ⟨rfl, rfl, rfl, Nat.le_refl _, fun _ _ _ => rfl⟩

theorem cell_lt {w : World} {p : Addr} {v : Value} (h : w.cell? p = some v) : p.block < w.heap.size := by
  apply Nat.lt_of_not_le
  intro hle
  simp [World.cell?, Array.getElem?_eq_none hle] at h

theorem setCell_same {w : World} {p : Addr} {v u : Value} (h : w.cell? p = some v) : (w.setCell p u).cell? p = some u :=
  World.cell?_setCell_same' _ _ _ (by rw [h]; rfl)
theorem setCell_other {w : World} {p q : Addr} {v u : Value} (h : w.cell? q = some v) (hne : p ≠ q) : (w.setCell p u).cell? q = some v := by
  rw [World.cell?_setCell_other _ _ _ _ hne]; exact h

/-- The place of the one that has j others ahead of it. -/
def at' (room first j : Nat) : Nat := (first + j) % room

theorem at_eq {room first j : Nat} (hf : first < room) (hj : j ≤ room) : at' room first j = if first + j < room then first + j else first + j - room := by
  unfold at'
  split
  · exact Nat.mod_eq_of_lt ‹_›
  · rw [Nat.mod_eq_sub_mod (by omega), Nat.mod_eq_of_lt (by omega)]
theorem at_lt {room first j : Nat} (h : 0 < room) : at' room first j < room := Nat.mod_lt _ h
theorem at_inj {room first a b : Nat} (hf : first < room) (ha : a < room) (hb : b < room) (h : at' room first a = at' room first b) : a = b := by
  rw [at_eq hf (by omega), at_eq hf (by omega)] at h
  split at h <;> split at h <;> omega
theorem at_next {room first j : Nat} (hf : first < room) (hj : j + 1 < room) : at' room (at' room first 1) j = at' room first (j + 1) := by
  rw [at_eq (first := first) (j := 1) hf (by omega), at_eq hf (by omega)]
  split
  · rw [at_eq (by omega) (by omega)]; split <;> split <;> omega
  · rw [at_eq (by omega) (by omega)]; split <;> split <;> omega
theorem at_last {room first : Nat} (hf : first < room) : at' room (at' room first 1) (room - 1) = at' room first 0 := by
  rw [at_eq (first := first) (j := 1) hf (by omega), at_eq hf (by omega)]
  split
  · rw [at_eq (by omega) (by omega)]; split <;> split <;> omega
  · rw [at_eq (by omega) (by omega)]; split <;> split <;> omega

theorem addr_ne_off {g a b : Nat} (h : a ≠ b) : (⟨g, a, none⟩ : Addr) ≠ ⟨g, b, none⟩ := by intro e; cases e; exact h rfl
theorem addr_ne_block {g k a b : Nat} (h : g ≠ k) : (⟨g, a, none⟩ : Addr) ≠ ⟨k, b, none⟩ := by intro e; cases e; exact h rfl
end Go.Proofs.Ytkjkaihbpccdmaa
