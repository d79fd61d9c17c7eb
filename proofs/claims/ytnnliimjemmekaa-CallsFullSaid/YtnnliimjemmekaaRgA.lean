/-
  Contracts of a ring of things of two parts: Len, Room, place.
-/
import Derived.Test.YtnnliimjemmekaaRgP
import Derived.WalkKit
import Derived.BigQuiet
import Derived.Deep.QuietTactic
import Derived.Deep.DeepMust
import Derived.Outline
namespace Go.Proofs.Ytnnliimjemmekaa.rC
open Go.RowKit

attribute [local go_sem] Oper.semAt_some

/-- A thing: two numbers. -/
abbrev Th := Int × Int

/-- A ring that lies in the blocks R (its parts) and G (its places): what stands at the place with j ahead of it is L j. -/
structure RC (w : World) (R G room first held : Nat) (L : Nat → Th) : Prop where
  ne : R ≠ G
  r1 : 1 ≤ room
  r2 : room ≤ 256
  fr : first < room
  hr : held ≤ room
  c0 : w.cell? ⟨R, 0, none⟩ = some (.slice (some ⟨G, 0, none⟩) room room)
  c1 : w.cell? ⟨R, 1, none⟩ = some (.int .i64 (first : Int))
  c2 : w.cell? ⟨R, 2, none⟩ = some (.int .i64 (held : Int))
  f1 : w.frozen? ⟨R, 1, none⟩ = false
  f2 : w.frozen? ⟨R, 2, none⟩ = false
  cs : ∀ j, j < room → w.cell? ⟨G, at' room first j * 2, none⟩ = some (.int .i64 (L j).1)
  ct : ∀ j, j < room → w.cell? ⟨G, at' room first j * 2 + 1, none⟩ = some (.int .i64 (L j).2)
  fs : ∀ j, j < room → w.frozen? ⟨G, at' room first j * 2, none⟩ = false
  ft : ∀ j, j < room → w.frozen? ⟨G, at' room first j * 2 + 1, none⟩ = false

theorem RC.drewN {w : World} {R G room first held : Nat} {L : Nat → Th} (h : RC w R G room first held L) (n : Nat) : RC (w.drewN n) R G room first held L :=
  ⟨h.ne, h.r1, h.r2, h.fr, h.hr, h.c0, h.c1, h.c2, h.f1, h.f2, h.cs, h.ct, h.fs, h.ft⟩

theorem RC.ch {w w' : World} {S : List Nat} {R G room first held : Nat} {L : Nat → Th} (h : RC w R G room first held L) (hc : Ch S w w') (hR : R ∉ S) (hG : G ∉ S) : RC w' R G room first held L :=
  ⟨h.ne, h.r1, h.r2, h.fr, h.hr, (hc.cell (p := ⟨R, 0, none⟩) (cell_lt h.c0) hR).trans h.c0, (hc.cell (p := ⟨R, 1, none⟩) (cell_lt h.c1) hR).trans h.c1, (hc.cell (p := ⟨R, 2, none⟩) (cell_lt h.c2) hR).trans h.c2,
    (hc.frozen (p := ⟨R, 1, none⟩) (cell_lt h.c1) hR).trans h.f1, (hc.frozen (p := ⟨R, 2, none⟩) (cell_lt h.c2) hR).trans h.f2,
    fun j hj => (hc.cell (p := ⟨G, at' room first j * 2, none⟩) (cell_lt (h.cs j hj)) hG).trans (h.cs j hj), fun j hj => (hc.cell (p := ⟨G, at' room first j * 2 + 1, none⟩) (cell_lt (h.ct j hj)) hG).trans (h.ct j hj),
    fun j hj => (hc.frozen (p := ⟨G, at' room first j * 2, none⟩) (cell_lt (h.cs j hj)) hG).trans (h.fs j hj), fun j hj => (hc.frozen (p := ⟨G, at' room first j * 2 + 1, none⟩) (cell_lt (h.ct j hj)) hG).trans (h.ft j hj)⟩

theorem len_nil (w : World) : Calls Try.prog 31 #[.pointer none] w fun e w' => e = .returned (.int .i64 0) ∧ w = w' := by
  go_enter Try.func31, Try.ntmps31
  go_wp2
  go_ret
  exact ⟨rfl, rfl⟩
theorem room_nil (w : World) : Calls Try.prog 30 #[.pointer none] w fun e w' => e = .returned (.int .i64 0) ∧ w = w' := by
  go_enter Try.func30, Try.ntmps30
  go_wp2
  go_ret
  exact ⟨rfl, rfl⟩

theorem len_any {w : World} {R G room first held : Nat} {L : Nat → Th} (h : RC w R G room first held L) :
    Calls Try.prog 31 #[.pointer (some ⟨R, 0, none⟩)] w fun e w' => e = .returned (.int .i64 (held : Int)) ∧ w = w' := by
  have c2 := h.c2
  clear h
  go_enter Try.func31, Try.ntmps31
  go_wp2
  go_ret
  exact ⟨rfl, rfl⟩
theorem room_any {w : World} {R G room first held : Nat} {L : Nat → Th} (h : RC w R G room first held L) :
    Calls Try.prog 30 #[.pointer (some ⟨R, 0, none⟩)] w fun e w' => e = .returned (.int .i64 (room : Int)) ∧ w = w' := by
  have c0 := h.c0
  clear h
  go_enter Try.func30, Try.ntmps30
  go_wp2
  go_ret
  exact ⟨rfl, rfl⟩

theorem place_any {w : World} {R G room first held : Nat} {L : Nat → Th} (h : RC w R G room first held L) (i : Nat) (hi : i < room) :
    Calls Try.prog 32 #[.pointer (some ⟨R, 0, none⟩), .int .i64 (i : Int)] w fun e w' => e = .returned (.pointer (some ⟨G, at' room first i * 2, none⟩)) ∧ ∃ n, w' = w.drewN n := by
  have c0 := h.c0
  have c1 := h.c1
  have hf := h.fr
  have r1 := h.r1
  have r2 := h.r2
  have ha : at' room first i < room := at_lt (by omega)
  have hm : (((first : Int) + (i : Int)).tmod (room : Int)) = ((at' room first i : Nat) : Int) := by
    rw [Int.tmod_eq_emod_of_nonneg (by omega)]; unfold at'; rw [Int.natCast_emod, Int.natCast_add]
  obtain ⟨a, e⟩ : ∃ a, a = at' room first i := ⟨_, rfl⟩
  rw [← e] at ha hm ⊢
  clear e h
  have hs : IntKind.i64.wrap ((first : Int) + (i : Int)) = (first : Int) + (i : Int) := IntWalk.i64_in _ (by omega)
  have hn : ((room : Int) == 0) = false := by simp; omega
  have hn2 : (room : Int) ≠ 0 := by omega
  have hw : IntKind.i64.wrap (a : Int) = (a : Int) := IntWalk.i64_in _ (by omega)
  have hb0 : (0 : Int) ≤ (a : Int) := by omega
  have hb1 : (a : Int) < (room : Int) := by omega
  have ht : ((a : Int)).toNat = a := rfl
  go_enter Try.func32, Try.ntmps32
  go_wp2
  go_quiet (fail)
  go_wp2
  go_ret
  exact ⟨rfl, _, rfl⟩
end Go.Proofs.Ytnnliimjemmekaa.rC
