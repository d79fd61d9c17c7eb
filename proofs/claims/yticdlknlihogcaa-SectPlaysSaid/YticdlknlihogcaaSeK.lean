/-
  Sections: new ones; nil ones; the chapter's example holds.
-/
import Derived.Test.YticdlknlihogcaaSeE
namespace Go.Proofs.Yticdlknlihogcaa
open Go.RowKit

/-- The cells of new sections. -/
def secZ : Array Value := Array.replicate 129 (.int .i64 0)
theorem secZ_zero (w : World) : Sem.run Try.prog (zeroValue 25) w = .ok (.agg secZ) w := by kernel_rfl
theorem Sec.new (w : World) (t : TypeId) : Sec (w.alloc (.cells secZ t)) w.heap.size SS.zero := by
  have hc : ∀ i, i < 129 → (w.alloc (.cells secZ t)).cell? ⟨w.heap.size, i, none⟩ = some (.int .i64 0) := fun i hi => by
    rw [World.cell?_alloc_at _ _ _ _ rfl]
    simp [secZ, hi]
  exact ⟨hc 0 (by decide), fun i hi => hc _ (by omega), fun i hi => hc _ (by omega), fun k => World.frozen?_alloc_new w _ _ _⟩

/-- Sections of a law's own. -/
structure SL (w0 w : World) (b : Nat) (x : SS) : Prop where
  s : Sec w b x
  g : GS x
  ch : Ch [] w0 w
  lo : w0.heap.size ≤ b
section
variable {w0 w w' : World} {b : Nat} {x : SS}
theorem SL.new (w0 : World) {w : World} (h : Ch [] w0 w) (t : TypeId) : SL w0 (w.alloc (.cells secZ t)) w.heap.size SS.zero := ⟨Sec.new w t, GS.zero, h.alloc _, h.size⟩
theorem SL.quiet (h : SL w0 w b x) (hc : Ch [] w w') : SL w0 w' b x := ⟨h.s.ch hc (by simp), h.g, h.ch.trans hc, h.lo⟩
theorem SL.alloc (h : SL w0 w b x) (o : Obj) : SL w0 (w.alloc o) b x := h.quiet ((Ch.refl [] w).alloc o)
theorem SL.enterL (h : SL w0 w b x) {a : Option Addr} {cap n : Nat} {zs : List Int} (hl : zs.length = n) (hn : x.n + n ≤ 1000000) (hz : Mk.IntsAt w a zs) (hb : zs = [] ∨ ∀ y, a = some y → y.block ≠ b) {e : Int} {x' : SS} (he : Proofs.Yticdlknlihogcaa.enterL x zs = (e, x')) :
    Calls Try.prog 11 #[.pointer (some ⟨b, 0, none⟩), .slice a n cap] w fun e' w' => e' = .returned (.int .i64 e) ∧ SL w0 w' b x' ∧ Ch [b] w w' := by
  subst hl
  refine (enter_any (cap := cap) h.s h.g hn hz hb).mono ?_
  rintro e' w' ⟨rfl, hs, hc⟩
  rw [he] at hs
  rw [he]
  exact ⟨rfl, ⟨hs, by have := (h.g.enters zs).1; rwa [he] at this, h.ch.fresh hc (by simpa using h.lo), h.lo⟩, hc⟩
theorem SL.enter (h : SL w0 w b x) (r : Int) (hn : x.n ≤ 100000) {e : Int} (he : enterE x r = e) (t : TypeId) :
    Calls Try.prog 11 #[.pointer (some ⟨b, 0, none⟩), .slice (some ⟨w.heap.size, 0, none⟩) 1 1] (w.alloc (.cells #[.int .i64 r] t)) fun e' w' => e' = .returned (.int .i64 e) ∧ SL w0 w' b (enterS x r) ∧ Ch [b] w w' := by
  refine ((h.alloc (.cells #[.int .i64 r] t)).enterL (a := some ⟨w.heap.size, 0, none⟩) (cap := 1) (n := 1) (zs := [r]) (e := e) (x' := enterS x r) rfl (by omega) (intsAt_one (cell_new w _ _).1) (.inr fun y e => by cases e; have := h.s.lt; simp only; omega) (by rw [enterL_one, he])).mono ?_
  rintro e' w' ⟨rfl, hs, hc⟩
  exact ⟨rfl, hs, ((Ch.refl [b] w).alloc _).trans hc⟩
theorem SL.exit (h : SL w0 w b x) (r : Int) {u : Bool} {e : Int} (hu : exitB x r = u) (he : exitE x r = e) :
    Calls Try.prog 9 #[.pointer (some ⟨b, 0, none⟩), .int .i64 r] w fun e' w' => e' = .returned (.tuple #[.bool u, .int .i64 e]) ∧ SL w0 w' b (exitS x r) ∧ Ch [b] w w' := by
  refine (exit_any h.s h.g r).mono ?_
  rintro e' w' ⟨rfl, hs, hc⟩
  rw [hu, he]
  exact ⟨rfl, ⟨hs, h.g.exit r, h.ch.fresh hc (by simpa using h.lo), h.lo⟩, hc⟩
theorem SL.depth (h : SL w0 w b x) (r : Int) {v : Int} (hv : dOf x r = v) :
    Calls Try.prog 14 #[.pointer (some ⟨b, 0, none⟩), .int .i64 r] w fun e w' => e = .returned (.int .i64 v) ∧ w = w' := by rw [← hv]; exact depth_any h.s r
theorem SL.since (h : SL w0 w b x) (r : Int) {v : Int} (hv : sOf x r = v) :
    Calls Try.prog 16 #[.pointer (some ⟨b, 0, none⟩), .int .i64 r] w fun e w' => e = .returned (.int .i64 v) ∧ w = w' := by rw [← hv]; exact since_any h.s r
theorem SL.open (h : SL w0 w b x) (t : Int) {m : Nat} (hm : mskN (openP x t) = m) :
    Calls Try.prog 17 #[.pointer (some ⟨b, 0, none⟩), .int .i64 t] w fun e w' => e = .returned (.int .u64 (m : Int)) ∧ SL w0 w' b x ∧ Ch [] w w' := by
  refine (open_any h.s t).mono ?_
  rintro e w' ⟨rfl, hc⟩
  rw [hm]
  exact ⟨rfl, h.quiet hc, hc⟩
theorem SL.in (h : SL w0 w b x) {m : Nat} (hm : mskN (inP x) = m) :
    Calls Try.prog 20 #[.pointer (some ⟨b, 0, none⟩)] w fun e w' => e = .returned (.int .u64 (m : Int)) ∧ SL w0 w' b x ∧ Ch [] w w' := by
  refine (in_any h.s).mono ?_
  rintro e w' ⟨rfl, hc⟩
  rw [hm]
  exact ⟨rfl, h.quiet hc, hc⟩
end
theorem of_one (i : Int) (w : World) (t : TypeId) {m : Nat} (hm : Mk.withN 0 [i] = m) :
    Calls Try.prog 27 #[.slice (some ⟨w.heap.size, 0, none⟩) 1 1] (w.alloc (.cells #[.int .i64 i] t)) fun e w' => e = .returned (.int .u64 (m : Int)) ∧ w.alloc (.cells #[.int .i64 i] t) = w' := by
  rw [← hm]
  exact Mk.of_any (some ⟨w.heap.size, 0, none⟩) 1 [i] _ (by simp) (intsAt_one (cell_new w _ _).1)

theorem intsAt_two (w : World) (y z : Int) (t : TypeId) : Mk.IntsAt (w.alloc (.cells #[.int .i64 y, .int .i64 z] t)) (some ⟨w.heap.size, 0, none⟩) [y, z] :=
  Or.inr ⟨w.heap.size, 0, rfl, fun i hi => by
    have h2 := Two.new w (.int .i64 y) (.int .i64 z) t
    match i, hi with
    | 0, _ => exact h2.c0
    | 1, _ => exact h2.c1⟩

def kx1 : SS := (enterL SS.zero [4, 4]).2
def kx2 : SS := enterS kx1 9
def kx3 : SS := exitS kx2 4
def kx4 : SS := exitS kx3 4
def kx5 : SS := enterS kx4 4

set_option maxHeartbeats 1000000 in
theorem known_any (w : World) :
    Calls Try.prog 19 #[] w fun e w' => e = .returned (.bool true) ∧ Ch [] w w' := by
  have hz := secZ_zero w
  have H0 := Lib.hid (SL.new w (Ch.refl [] w) 25)
  go_enter Try.func19, Try.ntmps19
  go_wp2_with fail
  obtain ⟨b, hb⟩ : ∃ b, b = w.heap.size := ⟨_, rfl⟩
  obtain ⟨w1, hw1⟩ : ∃ W, W = w.alloc (.cells secZ 25) := ⟨_, rfl⟩
  have hs : w.heap.size + 1 = w1.heap.size := by rw [hw1]; simp
  rw [hs, ← hw1, ← hb]
  rw [← hw1, ← hb] at H0
  have hbl : b < w1.heap.size := by omega
  clear hz hw1 hs hb
  have E1 : enterL SS.zero [4, 4] = (0, kx1) := Prod.ext (by decide +kernel) rfl
  have C1 := Lib.hid ((H0.out.alloc (.cells #[.int .i64 4, .int .i64 4] 3)).enterL (a := some ⟨w1.heap.size, 0, none⟩) (cap := 2) (zs := [4, 4]) (n := 2) rfl (by decide) (intsAt_two w1 4 4 _) (.inr fun y e => by cases e; simp only; omega) E1)
  clear E1 H0 hbl
  with_reducible refine C1.out.mono ?_
  rintro e w2 ⟨rfl, h1, -⟩
  have C2 := Lib.hid (h1.enter 9 (by decide +kernel) (e := 0) (by decide +kernel) 3)
  clear h1 C1
  go_wp2_with fail
  with_reducible refine C2.out.mono ?_
  rintro e w3 ⟨rfl, h2, -⟩
  rw [show enterS kx1 9 = kx2 from rfl] at h2
  have C3 := Lib.hid (h2.depth 4 (v := 2) (by decide +kernel))
  have C4 := Lib.hid (h2.since 9 (v := 2) (by decide +kernel))
  have C5 := Lib.hid (h2.open 1 (m := 16) (by decide +kernel))
  clear h2 C2
  go_wp2_with fail
  with_reducible refine C3.out.mono ?_
  rintro e w3' ⟨rfl, rfl⟩
  go_wp2_with fail
  with_reducible refine C4.out.mono ?_
  rintro e w3' ⟨rfl, rfl⟩
  go_wp2_with fail
  with_reducible refine C5.out.mono ?_
  rintro e w4 ⟨rfl, h3, -⟩
  have C6 := Lib.hid (of_one 4 w4 3 (m := 16) (by decide +kernel))
  have h3 := Lib.hid (h3.alloc (.cells #[.int .i64 4] 3))
  clear C3 C4 C5
  go_wp2_with fail
  with_reducible refine C6.out.mono ?_
  rintro e w5 ⟨rfl, rfl⟩
  obtain ⟨w5, hw5⟩ : ∃ W, W = w4.alloc (.cells #[.int .i64 4] 3) := ⟨_, rfl⟩
  rw [← hw5] at h3 ⊢
  have C7 := Lib.hid (h3.out.exit 4 (u := false) (e := 0) (by decide +kernel) (by decide +kernel))
  clear C6 hw5 h3
  go_wp2_with fail
  with_reducible refine C7.out.mono ?_
  rintro e w6 ⟨rfl, h4, -⟩
  rw [show exitS kx2 4 = kx3 from rfl] at h4
  have C8 := Lib.hid (h4.exit 4 (u := true) (e := 0) (by decide +kernel) (by decide +kernel))
  clear h4 C7
  go_wp2_with fail
  with_reducible refine C8.out.mono ?_
  rintro e w7 ⟨rfl, h5, -⟩
  rw [show exitS kx3 4 = kx4 from rfl] at h5
  have C9 := Lib.hid (h5.enter 4 (by decide +kernel) (e := 0) (by decide +kernel) 3)
  clear h5 C8
  go_wp2_with fail
  with_reducible refine C9.out.mono ?_
  rintro e w8 ⟨rfl, h6, -⟩
  rw [show enterS kx4 4 = kx5 from rfl] at h6
  have D1 := Lib.hid (h6.since 4 (v := 3) (by decide +kernel))
  have D2 := Lib.hid (h6.open 2 (m := 512) (by decide +kernel))
  clear h6 C9
  go_wp2_with fail
  with_reducible refine D1.out.mono ?_
  rintro e w8' ⟨rfl, rfl⟩
  go_wp2_with fail
  with_reducible refine D2.out.mono ?_
  rintro e w9 ⟨rfl, h7, -⟩
  have D3 := Lib.hid (of_one 9 w9 3 (m := 512) (by decide +kernel))
  have h8 := Lib.hid (h7.ch.alloc (.cells #[.int .i64 9] 3))
  clear D1 D2 h7
  go_wp2_with fail
  with_reducible refine D3.out.mono ?_
  rintro e wa ⟨rfl, rfl⟩
  go_wp2_with fail
  go_ret
  exact ⟨rfl, h8.out⟩
end Go.Proofs.Yticdlknlihogcaa
