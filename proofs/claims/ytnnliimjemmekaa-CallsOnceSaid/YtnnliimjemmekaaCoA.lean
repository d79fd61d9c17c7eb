/-
  CallsOnce: its three arrays in memory, beside the program's lists.
-/
import Derived.Test.YtnnliimjemmekaaCoP
namespace Go.Proofs.Ytnnliimjemmekaa
open Go.RowKit Go.Maps
open rC (Th)

/-- The cells of a new array. -/
def z61 : Array Value := Array.replicate 61 (.int .i64 0)
theorem z61_zero (w : World) : Sem.run Try.prog (zeroValue 55) w = .ok (.agg z61) w := by kernel_rfl
def z4 : Array Value := Array.replicate 4 (.int .i64 0)
theorem z4_zero (w : World) : Sem.run Try.prog (zeroValue 56) w = .ok (.agg z4) w := by kernel_rfl
/-- An array of numbers. -/
structure Arr (w : World) (X N : Nat) (z : Nat → Int) : Prop where
  c : ∀ i, i < N → w.cell? ⟨X, i, none⟩ = some (.int .i64 (z i))
  fr : ∀ k, w.frozen? ⟨X, k, none⟩ = false
theorem Arr.new61 (w : World) (t : TypeId) : Arr (w.alloc (.cells z61 t)) w.heap.size 61 (fun _ => 0) :=
  ⟨fun i hi => by rw [World.cell?_alloc_at _ _ _ _ rfl]; simp [z61, hi], fun k => World.frozen?_alloc_new w _ _ _⟩
theorem Arr.new4 (w : World) (t : TypeId) : Arr (w.alloc (.cells z4 t)) w.heap.size 4 (fun _ => 0) :=
  ⟨fun i hi => by rw [World.cell?_alloc_at _ _ _ _ rfl]; simp [z4, hi], fun k => World.frozen?_alloc_new w _ _ _⟩
theorem Arr.set {w : World} {X N : Nat} {z : Nat → Int} (h : Arr w X N z) (r : Nat) (v : Int) (hr : r < N) : Arr (w.setCell ⟨X, r, none⟩ (.int .i64 v)) X N (fun i => if i = r then v else z i) :=
  ⟨fun i hi => by
    by_cases e : i = r
    · subst e; rw [setCell_same (h.c i hi)]; simp
    · rw [setCell_other (h.c i hi) (addr_ne_off (by omega))]; simp [e], fun k => by simpa using h.fr k⟩
theorem Arr.same {w w' : World} {X N : Nat} {z : Nat → Int} (h : Arr w X N z) (hs : w'.heap[X]? = w.heap[X]?) : Arr w' X N z :=
  ⟨fun i hi => (World.cell?_of_block (a := ⟨X, i, none⟩) hs).trans (h.c i hi), fun k => (World.frozen?_of_block (a := ⟨X, k, none⟩) hs).trans (h.fr k)⟩
theorem Arr.lt {w : World} {X N : Nat} {z : Nat → Int} (h : Arr w X N z) (hN : 0 < N) : X < w.heap.size := cell_lt (h.c 0 hN)
theorem Arr.ch {S : List Nat} {w w' : World} {X N : Nat} {z : Nat → Int} (h : Arr w X N z) (hN : 0 < N) (hc : Ch S w w') (hS : X ∉ S) : Arr w' X N z := h.same (hc.block X (h.lt hN) hS)
theorem Arr.congr {w : World} {X N : Nat} {z y : Nat → Int} (h : Arr w X N z) (he : ∀ i, i < N → y i = z i) : Arr w X N y := ⟨fun i hi => by rw [he i hi]; exact h.c i hi, h.fr⟩
/-- Who is told, as the law's array has it. -/
def tb (t : Nat → Bool) : Nat → Int := fun k => if t k = true then 1 else 0
/-- The three arrays. -/
structure Ars (w : World) (X9 X10 X11 : Nat) (t : Nat → Bool) (g la : Nat → Int) : Prop where
  a9 : Arr w X9 61 (tb t)
  a10 : Arr w X10 61 g
  a11 : Arr w X11 4 la
  n9 : X9 ≠ X10
  n10 : X10 ≠ X11
  n11 : X9 ≠ X11
theorem Ars.quiet {w w' : World} {X9 X10 X11 : Nat} {t : Nat → Bool} {g la : Nat → Int} (h : Ars w X9 X10 X11 t g la) (hc : Ch [] w w') : Ars w' X9 X10 X11 t g la :=
  ⟨h.a9.ch (by decide) hc (by simp), h.a10.ch (by decide) hc (by simp), h.a11.ch (by decide) hc (by simp), h.n9, h.n10, h.n11⟩
theorem Ars.own {w w' : World} {X9 X10 X11 base top : Nat} {t : Nat → Bool} {g la : Nat → Int} (h : Ars w X9 X10 X11 t g la) (h9 : top ≤ X9) (h10 : top ≤ X10) (h11 : top ≤ X11) (hc : ChP (Own base top) w w') : Ars w' X9 X10 X11 t g la :=
  ⟨h.a9.same (hc.block X9 (h.a9.lt (by decide)) (fun k => by have := k.2; omega)), h.a10.same (hc.block X10 (h.a10.lt (by decide)) (fun k => by have := k.2; omega)), h.a11.same (hc.block X11 (h.a11.lt (by decide)) (fun k => by have := k.2; omega)), h.n9, h.n10, h.n11⟩
/-- The program's lists, and the law's arrays. -/
structure OS (w wr : World) (base top A X9 X10 X11 n : Nat) (gen : Int) (C : Nat → Nat) (g : Nat → Int) (t : Nat → Bool) (la : Nat → Int) : Prop where
  lc : LC wr base top A 4 gen (fT C g t n)
  ar : Ars wr X9 X10 X11 t g la
  on : ON n gen C g t la
  bel : Below w.heap.size w wr
  lo : w.heap.size ≤ base
  t9 : top ≤ X9
  t10 : top ≤ X10
  t11 : top ≤ X11
section
variable {w wr w' : World} {base top A X9 X10 X11 n : Nat} {gen gen' : Int} {C C' : Nat → Nat} {g g' : Nat → Int} {t t' : Nat → Bool} {la la' : Nat → Int}
theorem OS.quiet (h : OS w wr base top A X9 X10 X11 n gen C g t la) (hc : Ch [] wr w') : OS w w' base top A X9 X10 X11 n gen C g t la :=
  ⟨h.lc.quiet hc, h.ar.quiet hc, h.on, h.bel.trans (hc.below _ (fun k hk => by simp at hk) h.bel.size), h.lo, h.t9, h.t10, h.t11⟩
/-- Behind a call of the program's lists. -/
theorem OS.call {n' : Nat} (h : OS w wr base top A X9 X10 X11 n gen C g t la) (hc : ChP (Own base top) wr w') (hl : LC w' base top A 4 gen' (fT C' g' t' n')) (ho : ON n' gen' C' g' t' la') (ha : Ars w' X9 X10 X11 t' g' la') : OS w w' base top A X9 X10 X11 n' gen' C' g' t' la' :=
  ⟨hl, ha, ho, chP_bel hc h.bel h.lo, h.lo, h.t9, h.t10, h.t11⟩
/-- What turned were the arrays. -/
theorem OS.arrs {S : List Nat} (h : OS w wr base top A X9 X10 X11 n gen C g t la) (hc : Ch S wr w') (hS : ∀ k ∈ S, top ≤ k) {f : Nat → List Th} (hl : LC wr base top A 4 gen' f) : LC w' base top A 4 gen' f ∧ Below w.heap.size w w' := by
  have hA := hl.inA
  have hlo := h.lo
  exact ⟨hl.chP (.of hc (S := fun k => k ∈ S) (fun k hk => hk)) (fun k hk e => by have := hS k hk; have := e.2; omega), h.bel.trans (hc.below _ (fun k hk => by have := hS k hk; have := hA.1; have := hA.2; omega) h.bel.size)⟩
end
theorem giveG_step (n : Nat) (gen : Int) (g : Nat → Int) : giveG (n + 1) gen g = fun i => if i = n + 1 then (if g (n + 1) = 0 then gen else g (n + 1)) else giveG n gen g i := by
  funext i
  unfold giveG
  by_cases e : i = n + 1
  · subst e
    rw [if_pos rfl]
    by_cases e0 : g (n + 1) = 0
    · rw [if_pos e0, if_pos ⟨by omega, by omega, e0⟩]
    · rw [if_neg e0, if_neg (fun q => e0 q.2.2)]
  · rw [if_neg e]
    by_cases h : 1 ≤ i ∧ i ≤ n ∧ g i = 0
    · rw [if_pos h, if_pos ⟨h.1, by omega, h.2.2⟩]
    · rw [if_neg h, if_neg (fun q => h ⟨q.1, by omega, q.2.2⟩)]
theorem giveG_at (n : Nat) (gen : Int) (g : Nat → Int) : giveG n gen g (n + 1) = g (n + 1) := by unfold giveG; rw [if_neg (by omega)]
theorem giveG_zero (gen : Int) (g : Nat → Int) : giveG 0 gen g = g := by funext i; unfold giveG; rw [if_neg (by omega)]
end Go.Proofs.Ytnnliimjemmekaa
