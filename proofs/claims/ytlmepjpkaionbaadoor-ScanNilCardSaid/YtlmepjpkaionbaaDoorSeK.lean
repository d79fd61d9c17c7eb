/-
  Sections: new ones; nil ones; the chapter's example holds.
-/
import Derived.Test.YtlmepjpkaionbaaDoorSeE
namespace Go.Proofs.YtlmepjpkaionbaaDoor
open Go.RowKit

/-- The cells of new sections. -/
def secZ : Array Value := Array.replicate 129 (.int .i64 0)
theorem secZ_zero (w : World) : Sem.run Tryd.prog (zeroValue 26) w = .ok (.agg secZ) w := by kernel_rfl
theorem Sec.new (w : World) (t : TypeId) : Sec (w.alloc (.cells secZ t)) w.heap.size SS.zero := by
  have hc : ∀ i, i < 129 → (w.alloc (.cells secZ t)).cell? ⟨w.heap.size, i, none⟩ = some (.int .i64 0) := fun i hi => by
    rw [World.cell?_alloc_at _ _ _ _ rfl]
    simp [secZ, hi]
  exact ⟨hc 0 (by decide), fun i hi => hc _ (by omega), fun i hi => hc _ (by omega), fun k => World.frozen?_alloc_new w _ _ _⟩

/-- Sections of a law's own. -/
structure SL (w0 w : World) (b : Nat) (x : SS) : Prop where
  s : Sec w b x
  g : GS x
  ch : Ch [] w0 w
  lo : w0.heap.size ≤ b
section
variable {w0 w w' : World} {b : Nat} {x : SS}
theorem SL.new (w0 : World) {w : World} (h : Ch [] w0 w) (t : TypeId) : SL w0 (w.alloc (.cells secZ t)) w.heap.size SS.zero := ⟨Sec.new w t, GS.zero, h.alloc _, h.size⟩
theorem SL.quiet (h : SL w0 w b x) (hc : Ch [] w w') : SL w0 w' b x := ⟨h.s.ch hc (by simp), h.g, h.ch.trans hc, h.lo⟩
theorem SL.alloc (h : SL w0 w b x) (o : Obj) : SL w0 (w.alloc o) b x := h.quiet ((Ch.refl [] w).alloc o)
theorem SL.enterL (h : SL w0 w b x) {a : Option Addr} {cap n : Nat} {zs : List Int} (hl : zs.length = n) (hn : x.n + n ≤ 1000000) (hz : Mk.IntsAt w a zs) (hb : zs = [] ∨ ∀ y, a = some y → y.block ≠ b) {e : Int} {x' : SS} (he : Proofs.YtlmepjpkaionbaaDoor.enterL x zs = (e, x')) :
    Calls Tryd.prog 26 #[.pointer (some ⟨b, 0, none⟩), .slice a n cap] w fun e' w' => e' = .returned (.int .i64 e) ∧ SL w0 w' b x' ∧ Ch [b] w w' := by
  subst hl
  refine (enter_any (cap := cap) h.s h.g hn hz hb).mono ?_
  rintro e' w' ⟨rfl, hs, hc⟩
  rw [he] at hs
  rw [he]
  exact ⟨rfl, ⟨hs, by have := (h.g.enters zs).1; rwa [he] at this, h.ch.fresh hc (by simpa using h.lo), h.lo⟩, hc⟩
theorem SL.enter (h : SL w0 w b x) (r : Int) (hn : x.n ≤ 100000) {e : Int} (he : enterE x r = e) (t : TypeId) :
    Calls Tryd.prog 26 #[.pointer (some ⟨b, 0, none⟩), .slice (some ⟨w.heap.size, 0, none⟩) 1 1] (w.alloc (.cells #[.int .i64 r] t)) fun e' w' => e' = .returned (.int .i64 e) ∧ SL w0 w' b (enterS x r) ∧ Ch [b] w w' := by
  refine ((h.alloc (.cells #[.int .i64 r] t)).enterL (a := some ⟨w.heap.size, 0, none⟩) (cap := 1) (n := 1) (zs := [r]) (e := e) (x' := enterS x r) rfl (by omega) (intsAt_one (cell_new w _ _).1) (.inr fun y e => by cases e; have := h.s.lt; simp only; omega) (by rw [enterL_one, he])).mono ?_
  rintro e' w' ⟨rfl, hs, hc⟩
  exact ⟨rfl, hs, ((Ch.refl [b] w).alloc _).trans hc⟩
theorem SL.exit (h : SL w0 w b x) (r : Int) {u : Bool} {e : Int} (hu : exitB x r = u) (he : exitE x r = e) :
    Calls Tryd.prog 25 #[.pointer (some ⟨b, 0, none⟩), .int .i64 r] w fun e' w' => e' = .returned (.tuple #[.bool u, .int .i64 e]) ∧ SL w0 w' b (exitS x r) ∧ Ch [b] w w' := by
  refine (exit_any h.s h.g r).mono ?_
  rintro e' w' ⟨rfl, hs, hc⟩
  rw [hu, he]
  exact ⟨rfl, ⟨hs, h.g.exit r, h.ch.fresh hc (by simpa using h.lo), h.lo⟩, hc⟩
theorem SL.depth (h : SL w0 w b x) (r : Int) {v : Int} (hv : dOf x r = v) :
    Calls Tryd.prog 24 #[.pointer (some ⟨b, 0, none⟩), .int .i64 r] w fun e w' => e = .returned (.int .i64 v) ∧ w = w' := by rw [← hv]; exact depth_any h.s r
theorem SL.since (h : SL w0 w b x) (r : Int) {v : Int} (hv : sOf x r = v) :
    Calls Tryd.prog 44 #[.pointer (some ⟨b, 0, none⟩), .int .i64 r] w fun e w' => e = .returned (.int .i64 v) ∧ w = w' := by rw [← hv]; exact since_any h.s r
theorem SL.open (h : SL w0 w b x) (t : Int) {m : Nat} (hm : mskN (openP x t) = m) :
    Calls Tryd.prog 22 #[.pointer (some ⟨b, 0, none⟩), .int .i64 t] w fun e w' => e = .returned (.int .u64 (m : Int)) ∧ SL w0 w' b x ∧ Ch [] w w' := by
  refine (open_any h.s t).mono ?_
  rintro e w' ⟨rfl, hc⟩
  rw [hm]
  exact ⟨rfl, h.quiet hc, hc⟩
theorem SL.in (h : SL w0 w b x) {m : Nat} (hm : mskN (inP x) = m) :
    Calls Tryd.prog 29 #[.pointer (some ⟨b, 0, none⟩)] w fun e w' => e = .returned (.int .u64 (m : Int)) ∧ SL w0 w' b x ∧ Ch [] w w' := by
  refine (in_any h.s).mono ?_
  rintro e w' ⟨rfl, hc⟩
  rw [hm]
  exact ⟨rfl, h.quiet hc, hc⟩
end
theorem of_one (i : Int) (w : World) (t : TypeId) {m : Nat} (hm : Mk.withN 0 [i] = m) :
    Calls Tryd.prog 45 #[.slice (some ⟨w.heap.size, 0, none⟩) 1 1] (w.alloc (.cells #[.int .i64 i] t)) fun e w' => e = .returned (.int .u64 (m : Int)) ∧ w.alloc (.cells #[.int .i64 i] t) = w' := by
  rw [← hm]
  exact Mk.of_any (some ⟨w.heap.size, 0, none⟩) 1 [i] _ (by simp) (intsAt_one (cell_new w _ _).1)

theorem intsAt_two (w : World) (y z : Int) (t : TypeId) : Mk.IntsAt (w.alloc (.cells #[.int .i64 y, .int .i64 z] t)) (some ⟨w.heap.size, 0, none⟩) [y, z] :=
  Or.inr ⟨w.heap.size, 0, rfl, fun i hi => by
    have h2 := Two.new w (.int .i64 y) (.int .i64 z) t
    match i, hi with
    | 0, _ => exact h2.c0
    | 1, _ => exact h2.c1⟩

def kx1 : SS := (enterL SS.zero [4, 4]).2
def kx2 : SS := enterS kx1 9
def kx3 : SS := exitS kx2 4
def kx4 : SS := exitS kx3 4
def kx5 : SS := enterS kx4 4

end Go.Proofs.YtlmepjpkaionbaaDoor
