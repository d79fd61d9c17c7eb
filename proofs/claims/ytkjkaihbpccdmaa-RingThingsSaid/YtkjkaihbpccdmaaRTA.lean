/-
  Contracts of a ring of things of two parts: Len, Room, place.
-/
import Derived.Test.YtkjkaihbpccdmaaRingP
import Derived.WalkKit
import Derived.BigQuiet
import Derived.Deep.QuietTactic
import Derived.Deep.DeepMust
import Derived.Outline
namespace Go.Proofs.Ytkjkaihbpccdmaa.rT
open Go.RowKit

attribute [local go_sem] Oper.semAt_some

/-- A box of two cells: what it holds, and that it may be written. -/
structure Box2 (w : World) (b : Nat) (u v : Value) : Prop where
  c0 : w.cell? ⟨b, 0, none⟩ = some u
  c1 : w.cell? ⟨b, 1, none⟩ = some v
  f0 : w.frozen? ⟨b, 0, none⟩ = false
  f1 : w.frozen? ⟨b, 1, none⟩ = false
theorem Box2.new (w : World) (u v : Value) (t : TypeId) : Box2 (w.alloc (.cells #[u, v] t)) w.heap.size u v :=
  ⟨by rw [World.cell?_alloc_at _ _ _ _ rfl]; rfl, by rw [World.cell?_alloc_at _ _ _ _ rfl]; rfl, World.frozen?_alloc_new w _ _ _, World.frozen?_alloc_new w _ _ _⟩
theorem Box2.lt {w : World} {b : Nat} {u v : Value} (h : Box2 w b u v) : b < w.heap.size := cell_lt h.c0
theorem Box2.alloc {w : World} {b : Nat} {u v : Value} (h : Box2 w b u v) (o : Obj) : Box2 (w.alloc o) b u v :=
  ⟨(World.cell?_alloc_past _ _ _ h.lt).trans h.c0, (World.cell?_alloc_past _ _ _ h.lt).trans h.c1, (World.frozen?_alloc_old w _ ⟨b, 0, none⟩ (Nat.ne_of_lt h.lt)).trans h.f0, (World.frozen?_alloc_old w _ ⟨b, 1, none⟩ (Nat.ne_of_lt h.lt)).trans h.f1⟩
theorem Box2.ch {S : List Nat} {w w' : World} {b : Nat} {u v : Value} (h : Box2 w b u v) (hc : Ch S w w') (hb : b ∉ S) : Box2 w' b u v :=
  ⟨(hc.cell (p := ⟨b, 0, none⟩) h.lt hb).trans h.c0, (hc.cell (p := ⟨b, 1, none⟩) h.lt hb).trans h.c1, (hc.frozen (p := ⟨b, 0, none⟩) h.lt hb).trans h.f0, (hc.frozen (p := ⟨b, 1, none⟩) h.lt hb).trans h.f1⟩
theorem Box2.set {w : World} {b : Nat} {u v : Value} (h : Box2 w b u v) (u' v' : Value) : Box2 ((w.setCell ⟨b, 0, none⟩ u').setCell ⟨b, 1, none⟩ v') b u' v' :=
  ⟨setCell_other (setCell_same h.c0) (addr_ne_off (by decide)), setCell_same (setCell_other h.c1 (addr_ne_off (by decide))), by simpa using h.f0, by simpa using h.f1⟩
theorem Box2.drewN {w : World} {b : Nat} {u v : Value} (h : Box2 w b u v) (n : Nat) : Box2 (w.drewN n) b u v := ⟨h.c0, h.c1, h.f0, h.f1⟩
theorem chSetNew {S : List Nat} {a w : World} (h : Ch S a w) {p : Addr} (hp : a.heap.size ≤ p.block) (u : Value) : Ch S a (w.setCell p u) :=
  ⟨h.os, h.tape, h.output, by simpa [World.setCell] using h.size, fun k hk hn => (Below.heap_setCell _ _ _ _ (by omega)).trans (h.block k hk hn)⟩

/-- A thing: a number and a text. -/
abbrev Th := Int × ByteArray

/-- A ring that lies in the blocks R (its parts) and G (its places): what stands at the place with j ahead of it is L j. -/
structure RC (w : World) (R G room first held : Nat) (L : Nat → Th) : Prop where
  ne : R ≠ G
  r1 : 1 ≤ room
  r2 : room ≤ 256
  fr : first < room
  hr : held ≤ room
  c0 : w.cell? ⟨R, 0, none⟩ = some (.slice (some ⟨G, 0, none⟩) room room)
  c1 : w.cell? ⟨R, 1, none⟩ = some (.int .i64 (first : Int))
  c2 : w.cell? ⟨R, 2, none⟩ = some (.int .i64 (held : Int))
  f1 : w.frozen? ⟨R, 1, none⟩ = false
  f2 : w.frozen? ⟨R, 2, none⟩ = false
  cs : ∀ j, j < room → w.cell? ⟨G, at' room first j * 2, none⟩ = some (.int .i64 (L j).1)
  ct : ∀ j, j < room → w.cell? ⟨G, at' room first j * 2 + 1, none⟩ = some (.string (L j).2)
  fs : ∀ j, j < room → w.frozen? ⟨G, at' room first j * 2, none⟩ = false
  ft : ∀ j, j < room → w.frozen? ⟨G, at' room first j * 2 + 1, none⟩ = false

theorem RC.drewN {w : World} {R G room first held : Nat} {L : Nat → Th} (h : RC w R G room first held L) (n : Nat) : RC (w.drewN n) R G room first held L :=
  ⟨h.ne, h.r1, h.r2, h.fr, h.hr, h.c0, h.c1, h.c2, h.f1, h.f2, h.cs, h.ct, h.fs, h.ft⟩

theorem RC.ch {w w' : World} {S : List Nat} {R G room first held : Nat} {L : Nat → Th} (h : RC w R G room first held L) (hc : Ch S w w') (hR : R ∉ S) (hG : G ∉ S) : RC w' R G room first held L :=
  ⟨h.ne, h.r1, h.r2, h.fr, h.hr, (hc.cell (p := ⟨R, 0, none⟩) (cell_lt h.c0) hR).trans h.c0, (hc.cell (p := ⟨R, 1, none⟩) (cell_lt h.c1) hR).trans h.c1, (hc.cell (p := ⟨R, 2, none⟩) (cell_lt h.c2) hR).trans h.c2,
    (hc.frozen (p := ⟨R, 1, none⟩) (cell_lt h.c1) hR).trans h.f1, (hc.frozen (p := ⟨R, 2, none⟩) (cell_lt h.c2) hR).trans h.f2,
    fun j hj => (hc.cell (p := ⟨G, at' room first j * 2, none⟩) (cell_lt (h.cs j hj)) hG).trans (h.cs j hj), fun j hj => (hc.cell (p := ⟨G, at' room first j * 2 + 1, none⟩) (cell_lt (h.ct j hj)) hG).trans (h.ct j hj),
    fun j hj => (hc.frozen (p := ⟨G, at' room first j * 2, none⟩) (cell_lt (h.cs j hj)) hG).trans (h.fs j hj), fun j hj => (hc.frozen (p := ⟨G, at' room first j * 2 + 1, none⟩) (cell_lt (h.ct j hj)) hG).trans (h.ft j hj)⟩

theorem len_nil (w : World) : Calls Try.prog 22 #[.pointer none] w fun e w' => e = .returned (.int .i64 0) ∧ w = w' := by
  go_enter Try.func22, Try.ntmps22
  go_wp2
  go_ret
  exact ⟨rfl, rfl⟩
theorem room_nil (w : World) : Calls Try.prog 29 #[.pointer none] w fun e w' => e = .returned (.int .i64 0) ∧ w = w' := by
  go_enter Try.func29, Try.ntmps29
  go_wp2
  go_ret
  exact ⟨rfl, rfl⟩

theorem len_any {w : World} {R G room first held : Nat} {L : Nat → Th} (h : RC w R G room first held L) :
    Calls Try.prog 22 #[.pointer (some ⟨R, 0, none⟩)] w fun e w' => e = .returned (.int .i64 (held : Int)) ∧ w = w' := by
  have c2 := h.c2
  clear h
  go_enter Try.func22, Try.ntmps22
  go_wp2
  go_ret
  exact ⟨rfl, rfl⟩
theorem room_any {w : World} {R G room first held : Nat} {L : Nat → Th} (h : RC w R G room first held L) :
    Calls Try.prog 29 #[.pointer (some ⟨R, 0, none⟩)] w fun e w' => e = .returned (.int .i64 (room : Int)) ∧ w = w' := by
  have c0 := h.c0
  clear h
  go_enter Try.func29, Try.ntmps29
  go_wp2
  go_ret
  exact ⟨rfl, rfl⟩

theorem place_any {w : World} {R G room first held : Nat} {L : Nat → Th} (h : RC w R G room first held L) (i : Nat) (hi : i < room) :
    Calls Try.prog 30 #[.pointer (some ⟨R, 0, none⟩), .int .i64 (i : Int)] w fun e w' => e = .returned (.pointer (some ⟨G, at' room first i * 2, none⟩)) ∧ ∃ n, w' = w.drewN n := by
  have c0 := h.c0
  have c1 := h.c1
  have hf := h.fr
  have r1 := h.r1
  have r2 := h.r2
  have ha : at' room first i < room := at_lt (by omega)
  have hm : (((first : Int) + (i : Int)).tmod (room : Int)) = ((at' room first i : Nat) : Int) := by
    rw [Int.tmod_eq_emod_of_nonneg (by omega)]; unfold at'; rw [Int.natCast_emod, Int.natCast_add]
  obtain ⟨a, e⟩ : ∃ a, a = at' room first i := ⟨_, rfl⟩
  rw [← e] at ha hm ⊢
  clear e h
  have hs : IntKind.i64.wrap ((first : Int) + (i : Int)) = (first : Int) + (i : Int) := IntWalk.i64_in _ (by omega)
  have hn : ((room : Int) == 0) = false := by simp; omega
  have hn2 : (room : Int) ≠ 0 := by omega
  have hw : IntKind.i64.wrap (a : Int) = (a : Int) := IntWalk.i64_in _ (by omega)
  have hb0 : (0 : Int) ≤ (a : Int) := by omega
  have hb1 : (a : Int) < (room : Int) := by omega
  have ht : ((a : Int)).toNat = a := rfl
  go_enter Try.func30, Try.ntmps30
  go_wp2
  go_quiet (fail)
  go_wp2
  go_ret
  exact ⟨rfl, _, rfl⟩
end Go.Proofs.Ytkjkaihbpccdmaa.rT
