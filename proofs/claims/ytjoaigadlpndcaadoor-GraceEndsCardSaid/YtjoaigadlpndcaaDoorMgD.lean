/-
  Sections: new ones; nil ones; the chapter's example holds.
  SectNests: a reader is outside behind leaving as often as it entered.
-/
import Derived.Test.YtjoaigadlpndcaaDoorMgC
namespace Go.Proofs.YtjoaigadlpndcaaDoor
open Go.RowKit

/-- The cells of new sections. -/
def secZ : Array Value := Array.replicate 129 (.int .i64 0)
theorem secZ_zero (w : World) : Sem.run Tryd.prog (zeroValue 57) w = .ok (.agg secZ) w := by kernel_rfl
theorem Sec.new (w : World) (t : TypeId) : Sec (w.alloc (.cells secZ t)) w.heap.size SS.zero := by
  have hc : ∀ i, i < 129 → (w.alloc (.cells secZ t)).cell? ⟨w.heap.size, i, none⟩ = some (.int .i64 0) := fun i hi => by
    rw [World.cell?_alloc_at _ _ _ _ rfl]
    simp [secZ, hi]
  exact ⟨hc 0 (by decide), fun i hi => hc _ (by omega), fun i hi => hc _ (by omega), fun k => World.frozen?_alloc_new w _ _ _⟩

/-- Sections of a law's own. -/
structure SL (w0 w : World) (b : Nat) (x : SS) : Prop where
  s : Sec w b x
  g : GS x
  ch : Ch [] w0 w
  lo : w0.heap.size ≤ b
section
variable {w0 w w' : World} {b : Nat} {x : SS}
theorem SL.new (w0 : World) {w : World} (h : Ch [] w0 w) (t : TypeId) : SL w0 (w.alloc (.cells secZ t)) w.heap.size SS.zero := ⟨Sec.new w t, GS.zero, h.alloc _, h.size⟩
theorem SL.quiet (h : SL w0 w b x) (hc : Ch [] w w') : SL w0 w' b x := ⟨h.s.ch hc (by simp), h.g, h.ch.trans hc, h.lo⟩
theorem SL.alloc (h : SL w0 w b x) (o : Obj) : SL w0 (w.alloc o) b x := h.quiet ((Ch.refl [] w).alloc o)
theorem SL.enterL (h : SL w0 w b x) {a : Option Addr} {cap n : Nat} {zs : List Int} (hl : zs.length = n) (hn : x.n + n ≤ 1000000) (hz : Mk.IntsAt w a zs) (hb : zs = [] ∨ ∀ y, a = some y → y.block ≠ b) {e : Int} {x' : SS} (he : Proofs.YtjoaigadlpndcaaDoor.enterL x zs = (e, x')) :
    Calls Tryd.prog 36 #[.pointer (some ⟨b, 0, none⟩), .slice a n cap] w fun e' w' => e' = .returned (.int .i64 e) ∧ SL w0 w' b x' ∧ Ch [b] w w' := by
  subst hl
  refine (enter_any (cap := cap) h.s h.g hn hz hb).mono ?_
  rintro e' w' ⟨rfl, hs, hc⟩
  rw [he] at hs
  rw [he]
  exact ⟨rfl, ⟨hs, by have := (h.g.enters zs).1; rwa [he] at this, h.ch.fresh hc (by simpa using h.lo), h.lo⟩, hc⟩
theorem SL.enter (h : SL w0 w b x) (r : Int) (hn : x.n ≤ 100000) {e : Int} (he : enterE x r = e) (t : TypeId) :
    Calls Tryd.prog 36 #[.pointer (some ⟨b, 0, none⟩), .slice (some ⟨w.heap.size, 0, none⟩) 1 1] (w.alloc (.cells #[.int .i64 r] t)) fun e' w' => e' = .returned (.int .i64 e) ∧ SL w0 w' b (enterS x r) ∧ Ch [b] w w' := by
  refine ((h.alloc (.cells #[.int .i64 r] t)).enterL (a := some ⟨w.heap.size, 0, none⟩) (cap := 1) (n := 1) (zs := [r]) (e := e) (x' := enterS x r) rfl (by omega) (intsAt_one (cell_new w _ _).1) (.inr fun y e => by cases e; have := h.s.lt; simp only; omega) (by rw [enterL_one, he])).mono ?_
  rintro e' w' ⟨rfl, hs, hc⟩
  exact ⟨rfl, hs, ((Ch.refl [b] w).alloc _).trans hc⟩
theorem SL.exit (h : SL w0 w b x) (r : Int) {u : Bool} {e : Int} (hu : exitB x r = u) (he : exitE x r = e) :
    Calls Tryd.prog 31 #[.pointer (some ⟨b, 0, none⟩), .int .i64 r] w fun e' w' => e' = .returned (.tuple #[.bool u, .int .i64 e]) ∧ SL w0 w' b (exitS x r) ∧ Ch [b] w w' := by
  refine (exit_any h.s h.g r).mono ?_
  rintro e' w' ⟨rfl, hs, hc⟩
  rw [hu, he]
  exact ⟨rfl, ⟨hs, h.g.exit r, h.ch.fresh hc (by simpa using h.lo), h.lo⟩, hc⟩
theorem SL.depth (h : SL w0 w b x) (r : Int) {v : Int} (hv : dOf x r = v) :
    Calls Tryd.prog 37 #[.pointer (some ⟨b, 0, none⟩), .int .i64 r] w fun e w' => e = .returned (.int .i64 v) ∧ w = w' := by rw [← hv]; exact depth_any h.s r
theorem SL.since (h : SL w0 w b x) (r : Int) {v : Int} (hv : sOf x r = v) :
    Calls Tryd.prog 72 #[.pointer (some ⟨b, 0, none⟩), .int .i64 r] w fun e w' => e = .returned (.int .i64 v) ∧ w = w' := by rw [← hv]; exact since_any h.s r
theorem SL.in (h : SL w0 w b x) {m : Nat} (hm : mskN (inP x) = m) :
    Calls Tryd.prog 32 #[.pointer (some ⟨b, 0, none⟩)] w fun e w' => e = .returned (.int .u64 (m : Int)) ∧ SL w0 w' b x ∧ Ch [] w w' := by
  refine (in_any h.s).mono ?_
  rintro e w' ⟨rfl, hc⟩
  rw [hm]
  exact ⟨rfl, h.quiet hc, hc⟩
end
theorem of_one (i : Int) (w : World) (t : TypeId) {m : Nat} (hm : Mk.withN 0 [i] = m) :
    Calls Tryd.prog 73 #[.slice (some ⟨w.heap.size, 0, none⟩) 1 1] (w.alloc (.cells #[.int .i64 i] t)) fun e w' => e = .returned (.int .u64 (m : Int)) ∧ w.alloc (.cells #[.int .i64 i] t) = w' := by
  rw [← hm]
  exact Mk.of_any (some ⟨w.heap.size, 0, none⟩) 1 [i] _ (by simp) (intsAt_one (cell_new w _ _).1)

theorem intsAt_two (w : World) (y z : Int) (t : TypeId) : Mk.IntsAt (w.alloc (.cells #[.int .i64 y, .int .i64 z] t)) (some ⟨w.heap.size, 0, none⟩) [y, z] :=
  Or.inr ⟨w.heap.size, 0, rfl, fun i hi => by
    have h2 := Two.new w (.int .i64 y) (.int .i64 z) t
    match i, hi with
    | 0, _ => exact h2.c0
    | 1, _ => exact h2.c1⟩

def kx1 : SS := (enterL SS.zero [4, 4]).2
def kx2 : SS := enterS kx1 9
def kx3 : SS := exitS kx2 4
def kx4 : SS := exitS kx3 4
def kx5 : SS := enterS kx4 4

end Go.Proofs.YtjoaigadlpndcaaDoor
namespace Go.Proofs.YtjoaigadlpndcaaDoor
open Go.RowKit

theorem enter_facts {x : SS} {r k : Nat} (hr : r < 64) (hd : x.d r = (k : Int)) (hk : k < 8) :
    enterE x (r : Int) = 0 ∧ (enterS x (r : Int)).d r = ((k + 1 : Nat) : Int) ∧ (k = 0 → (enterS x (r : Int)).n = x.n + 1 ∧ (enterS x (r : Int)).s r = x.n + 1) ∧ (k ≠ 0 → (enterS x (r : Int)).n = x.n ∧ (enterS x (r : Int)).s r = x.s r) := by
  have he : enterE x (r : Int) = 0 := enterE_zero.2 ⟨by omega, by rw [Int.toNat_natCast, hd]; omega⟩
  have hs : enterS x (r : Int) = inS x r := by unfold enterS; rw [if_pos he]; rfl
  rw [hs]
  refine ⟨he, by rw [inS_d, if_pos rfl, hd]; omega, fun h0 => ⟨?_, ?_⟩, fun h0 => ⟨?_, ?_⟩⟩
  · unfold inS; exact if_pos (by rw [hd, h0]; rfl)
  · rw [inS_s, if_pos ⟨rfl, by rw [hd, h0]; rfl⟩]
  · unfold inS; exact if_neg (by rw [hd]; omega)
  · rw [inS_s, if_neg (fun h => by have := h.2; rw [hd] at this; omega)]
theorem exit_facts {x : SS} {r m : Nat} (hr : r < 64) (hd : x.d r = (m : Int)) (hm : 1 ≤ m) :
    exitE x (r : Int) = 0 ∧ (exitS x (r : Int)).d r = ((m - 1 : Nat) : Int) ∧ (exitS x (r : Int)).n = x.n ∧ exitB x (r : Int) = decide (m = 1) := by
  have he : exitE x (r : Int) = 0 := exitE_zero.2 ⟨by omega, by rw [Int.toNat_natCast, hd]; omega⟩
  refine ⟨he, ?_, exit_n x r, ?_⟩
  · unfold exitS; rw [if_pos he, Int.toNat_natCast, outS_d, if_pos rfl, hd]; omega
  · unfold exitB
    rw [he, Int.toNat_natCast, hd, Bool.eq_iff_iff]
    simp
    omega
theorem SL.stamp {w0 w : World} {b : Nat} {x : SS} (h : SL w0 w b x) {v : Int} (hv : x.n = v) :
    Calls Tryd.prog 65 #[.pointer (some ⟨b, 0, none⟩)] w fun e w' => e = .returned (.int .i64 v) ∧ w = w' := by rw [← hv]; exact stamp_any h.s

end Go.Proofs.YtjoaigadlpndcaaDoor
