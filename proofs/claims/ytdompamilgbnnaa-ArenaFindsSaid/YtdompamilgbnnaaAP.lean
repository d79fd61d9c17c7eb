/-
  Plain: which blocks a call may turn; boxes of two cells.
-/
import Derived.Below
import Derived.Deep.Draws
import Derived.Lib.Hide
import Derived.WalkKit
import Derived.BigQuiet
import Derived.BigRegion
import Derived.RegionTactic
import Derived.Deep.QuietTactic
import Derived.Deep.DeepMust
import Derived.Deep.RegionWith
import Derived.Outline
import Derived.Test.YtdompamilgbnnaaChecked
namespace Go.Proofs.Ytdompamilgbnnaa
open Go.RowKit

/-- Of what there was, the blocks of S alone may have turned. -/
structure Ch (S : List Nat) (w w' : World) : Prop where
  os : w'.os = w.os
  tape : w'.tape = w.tape
  output : w'.output = w.output
  size : w.heap.size ≤ w'.heap.size
  block : ∀ k, k < w.heap.size → k ∉ S → w'.heap[k]? = w.heap[k]?

theorem Ch.refl (S : List Nat) (w : World) : Ch S w w := ⟨rfl, rfl, rfl, Nat.le_refl _, fun _ _ _ => rfl⟩
theorem Ch.trans {S : List Nat} {a b c : World} (h : Ch S a b) (k : Ch S b c) : Ch S a c :=
  ⟨k.os.trans h.os, k.tape.trans h.tape, k.output.trans h.output, Nat.le_trans h.size k.size, fun i hi hn => (k.block i (Nat.lt_of_lt_of_le hi h.size) hn).trans (h.block i hi hn)⟩
theorem Ch.mono {S T : List Nat} {w w' : World} (h : Ch S w w') (hs : ∀ k ∈ S, k ∈ T) : Ch T w w' := ⟨h.os, h.tape, h.output, h.size, fun k hk hn => h.block k hk (fun hm => hn (hs k hm))⟩
theorem Ch.drew {S : List Nat} {a w : World} (h : Ch S a w) : Ch S a w.drew := ⟨h.os, h.tape, h.output, h.size, h.block⟩
theorem Ch.drewN {S : List Nat} {a w : World} (h : Ch S a w) (n : Nat) : Ch S a (w.drewN n) := ⟨h.os, h.tape, h.output, h.size, h.block⟩
theorem Ch.setCell {S : List Nat} {a w : World} (h : Ch S a w) {p : Addr} (hp : p.block ∈ S) (u : Value) : Ch S a (w.setCell p u) :=
  h.trans ⟨rfl, rfl, rfl, by simp [World.setCell], fun k _ hn => Below.heap_setCell _ _ _ _ (fun e => hn (e ▸ hp))⟩
theorem Ch.alloc {S : List Nat} {a w : World} (h : Ch S a w) (o : Obj) : Ch S a (w.alloc o) :=
  h.trans ⟨rfl, rfl, rfl, by simp, fun k hk _ => Below.heap_alloc _ _ _ hk⟩
theorem Ch.of_below {S : List Nat} {w w' : World} (h : Below w.heap.size w w') : Ch S w w' := ⟨h.os, h.tape, h.output, h.size, fun k hk _ => h.block k hk⟩
theorem Ch.below {S : List Nat} {w w' : World} (h : Ch S w w') (B : Nat) (hS : ∀ k ∈ S, B ≤ k) (hB : B ≤ w.heap.size) : Below B w w' :=
  ⟨h.os, h.tape, h.output, h.size, fun k hk => h.block k (Nat.lt_of_lt_of_le hk hB) (fun hm => by have := hS k hm; omega)⟩
theorem Ch.cell {S : List Nat} {w w' : World} (h : Ch S w w') {p : Addr} (hp : p.block < w.heap.size) (hn : p.block ∉ S) : w'.cell? p = w.cell? p := World.cell?_of_block (w := w) (h.block p.block hp hn)
theorem Ch.frozen {S : List Nat} {w w' : World} (h : Ch S w w') {p : Addr} (hp : p.block < w.heap.size) (hn : p.block ∉ S) : w'.frozen? p = w.frozen? p := World.frozen?_of_block (w := w) (h.block p.block hp hn)

theorem below_drewN {B : Nat} {a w : World} (h : Below B a w) (n : Nat) : Below B a (w.drewN n) := ⟨h.os, h.tape, h.output, h.size, h.block⟩
theorem grownBy_drewN (w : World) (n : Nat) : w.grownBy (w.drewN n) none := ⟨rfl, rfl, rfl, Nat.le_refl _, fun _ _ _ => rfl⟩

theorem cell_lt {w : World} {p : Addr} {v : Value} (h : w.cell? p = some v) : p.block < w.heap.size := by
  apply Nat.lt_of_not_le
  intro hle
  simp [World.cell?, Array.getElem?_eq_none hle] at h

theorem setCell_same {w : World} {p : Addr} {v u : Value} (h : w.cell? p = some v) : (w.setCell p u).cell? p = some u :=
  World.cell?_setCell_same' _ _ _ (by rw [h]; rfl)
theorem setCell_other {w : World} {p q : Addr} {v u : Value} (h : w.cell? q = some v) (hne : p ≠ q) : (w.setCell p u).cell? q = some v := by
  rw [World.cell?_setCell_other _ _ _ _ hne]; exact h

theorem addr_ne_off {g a b : Nat} (h : a ≠ b) : (⟨g, a, none⟩ : Addr) ≠ ⟨g, b, none⟩ := by intro e; cases e; exact h rfl
theorem addr_ne_block {g k a b : Nat} (h : g ≠ k) : (⟨g, a, none⟩ : Addr) ≠ ⟨k, b, none⟩ := by intro e; cases e; exact h rfl
/-- A box of two cells: what it holds, and that it may be written. -/
structure Box2 (w : World) (b : Nat) (u v : Value) : Prop where
  c0 : w.cell? ⟨b, 0, none⟩ = some u
  c1 : w.cell? ⟨b, 1, none⟩ = some v
  f0 : w.frozen? ⟨b, 0, none⟩ = false
  f1 : w.frozen? ⟨b, 1, none⟩ = false
theorem Box2.new (w : World) (u v : Value) (t : TypeId) : Box2 (w.alloc (.cells #[u, v] t)) w.heap.size u v :=
  ⟨by rw [World.cell?_alloc_at _ _ _ _ rfl]; rfl, by rw [World.cell?_alloc_at _ _ _ _ rfl]; rfl, World.frozen?_alloc_new w _ _ _, World.frozen?_alloc_new w _ _ _⟩
theorem Box2.lt {w : World} {b : Nat} {u v : Value} (h : Box2 w b u v) : b < w.heap.size := cell_lt h.c0
theorem Box2.alloc {w : World} {b : Nat} {u v : Value} (h : Box2 w b u v) (o : Obj) : Box2 (w.alloc o) b u v :=
  ⟨(World.cell?_alloc_past _ _ _ h.lt).trans h.c0, (World.cell?_alloc_past _ _ _ h.lt).trans h.c1, (World.frozen?_alloc_old w _ ⟨b, 0, none⟩ (Nat.ne_of_lt h.lt)).trans h.f0, (World.frozen?_alloc_old w _ ⟨b, 1, none⟩ (Nat.ne_of_lt h.lt)).trans h.f1⟩
theorem Box2.ch {S : List Nat} {w w' : World} {b : Nat} {u v : Value} (h : Box2 w b u v) (hc : Ch S w w') (hb : b ∉ S) : Box2 w' b u v :=
  ⟨(hc.cell (p := ⟨b, 0, none⟩) h.lt hb).trans h.c0, (hc.cell (p := ⟨b, 1, none⟩) h.lt hb).trans h.c1, (hc.frozen (p := ⟨b, 0, none⟩) h.lt hb).trans h.f0, (hc.frozen (p := ⟨b, 1, none⟩) h.lt hb).trans h.f1⟩
theorem Box2.set {w : World} {b : Nat} {u v : Value} (h : Box2 w b u v) (u' v' : Value) : Box2 ((w.setCell ⟨b, 0, none⟩ u').setCell ⟨b, 1, none⟩ v') b u' v' :=
  ⟨setCell_other (setCell_same h.c0) (addr_ne_off (by decide)), setCell_same (setCell_other h.c1 (addr_ne_off (by decide))), by simpa using h.f0, by simpa using h.f1⟩
theorem Box2.drewN {w : World} {b : Nat} {u v : Value} (h : Box2 w b u v) (n : Nat) : Box2 (w.drewN n) b u v := ⟨h.c0, h.c1, h.f0, h.f1⟩
theorem chSetNew {S : List Nat} {a w : World} (h : Ch S a w) {p : Addr} (hp : a.heap.size ≤ p.block) (u : Value) : Ch S a (w.setCell p u) :=
  ⟨h.os, h.tape, h.output, by simpa [World.setCell] using h.size, fun k hk hn => (Below.heap_setCell _ _ _ _ (by omega)).trans (h.block k hk hn)⟩


/-- A store into a block that is in S, or that is new. -/
theorem Ch.setCell2 {S : List Nat} {a w : World} (h : Ch S a w) {p : Addr} (hp : p.block ∈ S ∨ a.heap.size ≤ p.block) (u : Value) : Ch S a (w.setCell p u) := by
  rcases hp with hp | hp
  · exact h.setCell hp u
  · exact chSetNew h hp u
theorem Ch.kept {S : List Nat} {a w w' : World} (h : Ch S a w) {row : Option Nat} (hg : w.grownBy w' row) (hr : ∀ r, row = some r → a.heap.size ≤ r) : Ch S a w' :=
  ⟨hg.os.trans h.os, hg.tape.trans h.tape, hg.output.trans h.output, Nat.le_trans h.size hg.size, fun k hk hn => (hg.block k (Nat.lt_of_lt_of_le hk h.size) (fun e => by have := hr k e.symm; omega)).trans (h.block k hk hn)⟩
theorem cell_new (W : World) (v : Value) (t : TypeId) : (W.alloc (.cells #[v] t)).cell? ⟨W.heap.size, 0, none⟩ = some v ∧ (W.alloc (.cells #[v] t)).frozen? ⟨W.heap.size, 0, none⟩ = false :=
  ⟨by rw [World.cell?_alloc_at _ _ _ _ rfl]; rfl, World.frozen?_alloc_new W _ _ _⟩
theorem addr_add (b off k : Nat) : (⟨b, off, none⟩ : Addr).add k = ⟨b, off + k, none⟩ := by unfold Addr.add; split <;> simp_all
end Go.Proofs.Ytdompamilgbnnaa
