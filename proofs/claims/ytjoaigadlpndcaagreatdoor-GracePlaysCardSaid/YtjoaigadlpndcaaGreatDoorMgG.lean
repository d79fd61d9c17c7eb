/-
  Plain: the places of a circle.
  Contracts of a ring of things of two parts: Len, Room, place.
  Contracts of a ring of things of two parts: At.
  Contracts of a ring of things of two parts: Take of the first, Pop.
  Contracts of a ring of things of two parts: Push of one, New.
  A loop over a function whose contract tells the body what was yielded so far, and that this one comes next; the loop's variable lies in a block of its own, new in each round. What keeps some blocks of cells.
  Contracts of a ring of things of two parts: the iterator over its things.
  Contract: List (a ring's things in new memory).
-/
import Derived.Test.YtjoaigadlpndcaaGreatDoorMgA
import Derived.WalkKit
import Derived.BigQuiet
import Derived.Deep.QuietTactic
import Derived.Deep.DeepMust
import Derived.Outline
import Derived.RegionTactic
import Derived.BigRegion
import Derived.Deep.RegionWith
import Derived.Laws.MakeOwn
import Derived.OwnWalk
import Derived.RangeFuncNested
import Derived.RangeFuncBound
import Derived.RangeFuncBox
import Derived.RangeFuncCalls
import Derived.RangeFuncLeaves
import Derived.Shelf.Abstract
import Derived.Shelf.RegionOpen
import Derived.OwnWalkIn
import Derived.TacticsInMore
import Derived.LoopNIn
import Derived.LoopIn
import Derived.Maps.AppendAt
namespace Go.Proofs.YtjoaigadlpndcaaGreatDoor
open Go.RowKit

/-- The place of the one that has j others ahead of it. -/
def at' (room first j : Nat) : Nat := (first + j) % room

theorem at_eq {room first j : Nat} (hf : first < room) (hj : j ≤ room) : at' room first j = if first + j < room then first + j else first + j - room := by
  unfold at'
  split
  · exact Nat.mod_eq_of_lt ‹_›
  · rw [Nat.mod_eq_sub_mod (by omega), Nat.mod_eq_of_lt (by omega)]
theorem at_lt {room first j : Nat} (h : 0 < room) : at' room first j < room := Nat.mod_lt _ h
theorem at_inj {room first a b : Nat} (hf : first < room) (ha : a < room) (hb : b < room) (h : at' room first a = at' room first b) : a = b := by
  rw [at_eq hf (by omega), at_eq hf (by omega)] at h
  split at h <;> split at h <;> omega
theorem at_next {room first j : Nat} (hf : first < room) (hj : j + 1 < room) : at' room (at' room first 1) j = at' room first (j + 1) := by
  rw [at_eq (first := first) (j := 1) hf (by omega), at_eq hf (by omega)]
  split
  · rw [at_eq (by omega) (by omega)]; split <;> split <;> omega
  · rw [at_eq (by omega) (by omega)]; split <;> split <;> omega
theorem at_last {room first : Nat} (hf : first < room) : at' room (at' room first 1) (room - 1) = at' room first 0 := by
  rw [at_eq (first := first) (j := 1) hf (by omega), at_eq hf (by omega)]
  split
  · rw [at_eq (by omega) (by omega)]; split <;> split <;> omega
  · rw [at_eq (by omega) (by omega)]; split <;> split <;> omega
end Go.Proofs.YtjoaigadlpndcaaGreatDoor
namespace Go.Proofs.YtjoaigadlpndcaaGreatDoor.rC
open Go.RowKit

attribute [local go_sem] Oper.semAt_some

/-- A thing: two numbers. -/
abbrev Th := Int × Int

/-- A ring that lies in the blocks R (its parts) and G (its places): what stands at the place with j ahead of it is L j. -/
structure RC (w : World) (R G room first held : Nat) (L : Nat → Th) : Prop where
  ne : R ≠ G
  r1 : 1 ≤ room
  r2 : room ≤ 256
  fr : first < room
  hr : held ≤ room
  c0 : w.cell? ⟨R, 0, none⟩ = some (.slice (some ⟨G, 0, none⟩) room room)
  c1 : w.cell? ⟨R, 1, none⟩ = some (.int .i64 (first : Int))
  c2 : w.cell? ⟨R, 2, none⟩ = some (.int .i64 (held : Int))
  f1 : w.frozen? ⟨R, 1, none⟩ = false
  f2 : w.frozen? ⟨R, 2, none⟩ = false
  cs : ∀ j, j < room → w.cell? ⟨G, at' room first j * 2, none⟩ = some (.int .i64 (L j).1)
  ct : ∀ j, j < room → w.cell? ⟨G, at' room first j * 2 + 1, none⟩ = some (.int .i64 (L j).2)
  fs : ∀ j, j < room → w.frozen? ⟨G, at' room first j * 2, none⟩ = false
  ft : ∀ j, j < room → w.frozen? ⟨G, at' room first j * 2 + 1, none⟩ = false

theorem RC.drewN {w : World} {R G room first held : Nat} {L : Nat → Th} (h : RC w R G room first held L) (n : Nat) : RC (w.drewN n) R G room first held L :=
  ⟨h.ne, h.r1, h.r2, h.fr, h.hr, h.c0, h.c1, h.c2, h.f1, h.f2, h.cs, h.ct, h.fs, h.ft⟩

theorem RC.ch {w w' : World} {S : List Nat} {R G room first held : Nat} {L : Nat → Th} (h : RC w R G room first held L) (hc : Ch S w w') (hR : R ∉ S) (hG : G ∉ S) : RC w' R G room first held L :=
  ⟨h.ne, h.r1, h.r2, h.fr, h.hr, (hc.cell (p := ⟨R, 0, none⟩) (cell_lt h.c0) hR).trans h.c0, (hc.cell (p := ⟨R, 1, none⟩) (cell_lt h.c1) hR).trans h.c1, (hc.cell (p := ⟨R, 2, none⟩) (cell_lt h.c2) hR).trans h.c2,
    (hc.frozen (p := ⟨R, 1, none⟩) (cell_lt h.c1) hR).trans h.f1, (hc.frozen (p := ⟨R, 2, none⟩) (cell_lt h.c2) hR).trans h.f2,
    fun j hj => (hc.cell (p := ⟨G, at' room first j * 2, none⟩) (cell_lt (h.cs j hj)) hG).trans (h.cs j hj), fun j hj => (hc.cell (p := ⟨G, at' room first j * 2 + 1, none⟩) (cell_lt (h.ct j hj)) hG).trans (h.ct j hj),
    fun j hj => (hc.frozen (p := ⟨G, at' room first j * 2, none⟩) (cell_lt (h.cs j hj)) hG).trans (h.fs j hj), fun j hj => (hc.frozen (p := ⟨G, at' room first j * 2 + 1, none⟩) (cell_lt (h.ct j hj)) hG).trans (h.ft j hj)⟩

theorem len_nil (w : World) : Calls Tryz.prog 67 #[.pointer none] w fun e w' => e = .returned (.int .i64 0) ∧ w = w' := by
  go_enter Tryz.func67, Tryz.ntmps67
  go_wp2
  go_ret
  exact ⟨rfl, rfl⟩
theorem room_nil (w : World) : Calls Tryz.prog 66 #[.pointer none] w fun e w' => e = .returned (.int .i64 0) ∧ w = w' := by
  go_enter Tryz.func66, Tryz.ntmps66
  go_wp2
  go_ret
  exact ⟨rfl, rfl⟩

theorem len_any {w : World} {R G room first held : Nat} {L : Nat → Th} (h : RC w R G room first held L) :
    Calls Tryz.prog 67 #[.pointer (some ⟨R, 0, none⟩)] w fun e w' => e = .returned (.int .i64 (held : Int)) ∧ w = w' := by
  have c2 := h.c2
  clear h
  go_enter Tryz.func67, Tryz.ntmps67
  go_wp2
  go_ret
  exact ⟨rfl, rfl⟩
theorem room_any {w : World} {R G room first held : Nat} {L : Nat → Th} (h : RC w R G room first held L) :
    Calls Tryz.prog 66 #[.pointer (some ⟨R, 0, none⟩)] w fun e w' => e = .returned (.int .i64 (room : Int)) ∧ w = w' := by
  have c0 := h.c0
  clear h
  go_enter Tryz.func66, Tryz.ntmps66
  go_wp2
  go_ret
  exact ⟨rfl, rfl⟩

theorem place_any {w : World} {R G room first held : Nat} {L : Nat → Th} (h : RC w R G room first held L) (i : Nat) (hi : i < room) :
    Calls Tryz.prog 68 #[.pointer (some ⟨R, 0, none⟩), .int .i64 (i : Int)] w fun e w' => e = .returned (.pointer (some ⟨G, at' room first i * 2, none⟩)) ∧ ∃ n, w' = w.drewN n := by
  have c0 := h.c0
  have c1 := h.c1
  have hf := h.fr
  have r1 := h.r1
  have r2 := h.r2
  have ha : at' room first i < room := at_lt (by omega)
  have hm : (((first : Int) + (i : Int)).tmod (room : Int)) = ((at' room first i : Nat) : Int) := by
    rw [Int.tmod_eq_emod_of_nonneg (by omega)]; unfold at'; rw [Int.natCast_emod, Int.natCast_add]
  obtain ⟨a, e⟩ : ∃ a, a = at' room first i := ⟨_, rfl⟩
  rw [← e] at ha hm ⊢
  clear e h
  have hs : IntKind.i64.wrap ((first : Int) + (i : Int)) = (first : Int) + (i : Int) := IntWalk.i64_in _ (by omega)
  have hn : ((room : Int) == 0) = false := by simp; omega
  have hn2 : (room : Int) ≠ 0 := by omega
  have hw : IntKind.i64.wrap (a : Int) = (a : Int) := IntWalk.i64_in _ (by omega)
  have hb0 : (0 : Int) ≤ (a : Int) := by omega
  have hb1 : (a : Int) < (room : Int) := by omega
  have ht : ((a : Int)).toNat = a := rfl
  go_enter Tryz.func68, Tryz.ntmps68
  go_wp2
  go_quiet (fail)
  go_wp2
  go_ret
  exact ⟨rfl, _, rfl⟩
end Go.Proofs.YtjoaigadlpndcaaGreatDoor.rC
namespace Go.Proofs.YtjoaigadlpndcaaGreatDoor.rC
open Go.RowKit

attribute [local go_sem] Oper.semAt_some

theorem at_some {w : World} {R G room first held : Nat} {L : Nat → Th} (h : RC w R G room first held L) (i : Nat) (hi : i < held) :
    Calls Tryz.prog 94 #[.pointer (some ⟨R, 0, none⟩), .int .i64 (i : Int)] w fun e w' => e = .returned (.tuple #[.agg #[.int .i64 (L i).1, .int .i64 (L i).2], .bool true]) ∧ Ch [] w w' := by
  have hr := h.hr
  have hd1 : decide ((i : Int) < 0) = false := by simp
  have hd2 : decide ((held : Int) ≤ (i : Int)) = false := by simp; omega
  have HR := Lib.hid h
  have hc := h.cs i (by omega)
  have ht := h.ct i (by omega)
  have hbG : G < w.heap.size := cell_lt hc
  go_enter Tryz.func94, Tryz.ntmps94
  go_wp2_with fail
  have hB1 := (Box2.new w (.int .i64 0) (.int .i64 0) 102).alloc (.cells #[.int .i64 0, .int .i64 0] 102)
  have hC1 := ((Ch.refl [] w).alloc (.cells #[.int .i64 0, .int .i64 0] 102)).alloc (.cells #[.int .i64 0, .int .i64 0] 102)
  generalize (w.alloc (.cells #[.int .i64 0, .int .i64 0] 102)).alloc (.cells #[.int .i64 0, .int .i64 0] 102) = w1 at *
  have hR1 := HR.out.ch hC1 (by simp) (by simp)
  have HR1 := Lib.hid hR1
  have HC1 := Lib.hid hC1
  have hc1 := hR1.cs i (by omega)
  have ht1 := hR1.ct i (by omega)
  have HB := Lib.hid hB1
  obtain ⟨k0, k1, k2, k3⟩ := hB1
  obtain ⟨S, hS⟩ : ∃ S, S = w.heap.size := ⟨_, rfl⟩
  rw [← hS] at HB k0 k1 k2 k3 hbG ⊢
  have HSS := Lib.hid hS
  obtain ⟨x, hx⟩ : ∃ x, x = L i := ⟨_, rfl⟩
  rw [← hx] at hc1 ht1
  have HX := Lib.hid hx
  have hne : G ≠ S := by omega
  clear h hc ht hR1 hC1 hS hx
  refine (len_any HR1.out).mono ?_
  rintro e w' ⟨rfl, rfl⟩
  go_wp2_with fail
  refine (place_any HR1.out i (by omega)).mono ?_
  rintro e w' ⟨rfl, nq, rfl⟩
  go_wp2
  have hbx := (HB.out.drewN nq).set (.int .i64 x.1) (.int .i64 x.2)
  have h5 := hbx.c0
  have h6 := hbx.c1
  refine bodyPost_ret (v := .tuple #[.agg #[.int .i64 x.1, .int .i64 x.2], .bool true]) ?_ rfl ?_
  · simp [results, Tryz.f94, go_sem, h5, h6]
  · exact ⟨by rw [HX.out], chSetNew (chSetNew (HC1.out.drewN nq) (p := ⟨S, 0, none⟩) (by rw [HSS.out]; exact Nat.le_refl _) _) (p := ⟨S, 1, none⟩) (by rw [HSS.out]; exact Nat.le_refl _) _⟩

theorem at_none {w : World} {R G room first : Nat} {L : Nat → Th} (h : RC w R G room first 0 L) :
    Calls Tryz.prog 94 #[.pointer (some ⟨R, 0, none⟩), .int .i64 0] w fun e w' => e = .returned (.tuple #[.agg #[.int .i64 0, .int .i64 0], .bool false]) ∧ Ch [] w w' := by
  have hC1 := ((Ch.refl [] w).alloc (.cells #[.int .i64 0, .int .i64 0] 102)).alloc (.cells #[.int .i64 0, .int .i64 0] 102)
  have hR1 := h.ch hC1 (by simp) (by simp)
  have HR1 := Lib.hid hR1
  have HC1 := Lib.hid hC1
  clear h hR1 hC1
  go_enter Tryz.func94, Tryz.ntmps94
  go_wp2_with fail
  refine (len_any HR1.out).mono ?_
  rintro e w' ⟨rfl, rfl⟩
  go_wp2
  have hbx := ((Box2.new w (.int .i64 0) (.int .i64 0) 102).alloc (.cells #[.int .i64 0, .int .i64 0] 102))
  have h5 := hbx.c0
  have h6 := hbx.c1
  exact bodyPost_ret (v := .tuple #[.agg #[.int .i64 0, .int .i64 0], .bool false]) (by simp [results, Tryz.f94, go_sem, h5, h6]) rfl
    ⟨rfl, HC1.out⟩
end Go.Proofs.YtjoaigadlpndcaaGreatDoor.rC
namespace Go.Proofs.YtjoaigadlpndcaaGreatDoor.rC
open Go.RowKit

attribute [local go_sem] Oper.semAt_some

def upd (L : Nat → Th) (j : Nat) (v : Th) : Nat → Th := fun x => if x = j then v else L x
/-- One place on. -/
def rot (room : Nat) (L : Nat → Th) : Nat → Th := fun j => if j + 1 < room then L (j + 1) else L 0

theorem off_ne {a b : Nat} : a * 2 ≠ b * 2 + 1 := by omega
theorem RC.set {w : World} {R G room first held : Nat} {L : Nat → Th} (h : RC w R G room first held L) (j : Nat) (hj : j < room) (v : Th) :
    RC ((w.setCell ⟨G, at' room first j * 2, none⟩ (.int .i64 v.1)).setCell ⟨G, at' room first j * 2 + 1, none⟩ (.int .i64 v.2)) R G room first held (upd L j v) := by
  have hn : ∀ a b : Nat, (⟨G, a, none⟩ : Addr) ≠ ⟨R, b, none⟩ := fun a b => addr_ne_block (Ne.symm h.ne)
  have hi : ∀ k, k < room → k ≠ j → at' room first j ≠ at' room first k := fun k hk e h2 => e (at_inj h.fr hk hj h2.symm)
  refine ⟨h.ne, h.r1, h.r2, h.fr, h.hr, setCell_other (setCell_other h.c0 (hn _ _)) (hn _ _), setCell_other (setCell_other h.c1 (hn _ _)) (hn _ _), setCell_other (setCell_other h.c2 (hn _ _)) (hn _ _), by simpa using h.f1, by simpa using h.f2, fun k hk => ?_, fun k hk => ?_, fun k hk => by simpa using h.fs k hk, fun k hk => by simpa using h.ft k hk⟩
  · unfold upd
    by_cases e : k = j
    · subst e; rw [if_pos rfl]; exact setCell_other (setCell_same (h.cs k hk)) (addr_ne_off (Ne.symm off_ne))
    · have := hi k hk e
      rw [if_neg e]; exact setCell_other (setCell_other (h.cs k hk) (addr_ne_off (by omega))) (addr_ne_off (Ne.symm off_ne))
  · unfold upd
    by_cases e : k = j
    · subst e; rw [if_pos rfl]; exact setCell_same (setCell_other (h.ct k hk) (addr_ne_off off_ne))
    · have := hi k hk e
      rw [if_neg e]; exact setCell_other (setCell_other (h.ct k hk) (addr_ne_off off_ne)) (addr_ne_off (by omega))

theorem RC.turn {w : World} {R G room first held : Nat} {L : Nat → Th} (h : RC w R G room first (held + 1) L) :
    RC ((w.setCell ⟨R, 1, none⟩ (.int .i64 ((at' room first 1 : Nat) : Int))).setCell ⟨R, 2, none⟩ (.int .i64 (held : Int))) R G room (at' room first 1) held (rot room L) := by
  have hn : ∀ a b : Nat, (⟨R, a, none⟩ : Addr) ≠ ⟨G, b, none⟩ := fun a b => addr_ne_block h.ne
  have hr := h.hr
  have key : ∀ j, j < room → ∃ k, k < room ∧ at' room (at' room first 1) j = at' room first k ∧ rot room L j = L k := fun j hj => by
    by_cases e : j + 1 < room
    · exact ⟨j + 1, e, at_next h.fr e, by unfold rot; rw [if_pos e]⟩
    · obtain rfl : j = room - 1 := by omega
      exact ⟨0, by omega, at_last h.fr, by unfold rot; rw [if_neg e]⟩
  refine ⟨h.ne, h.r1, h.r2, at_lt h.r1, by omega, ?_, ?_, ?_, by simpa using h.f1, by simpa using h.f2, fun j hj => ?_, fun j hj => ?_, fun j hj => ?_, fun j hj => ?_⟩
  · exact setCell_other (setCell_other h.c0 (addr_ne_off (by decide))) (addr_ne_off (by decide))
  · exact setCell_other (setCell_same h.c1) (addr_ne_off (by decide))
  · exact setCell_same (setCell_other h.c2 (addr_ne_off (by decide)))
  · obtain ⟨k, hk, e, e2⟩ := key j hj
    rw [e, e2]
    exact setCell_other (setCell_other (h.cs k hk) (hn _ _)) (hn _ _)
  · obtain ⟨k, hk, e, e2⟩ := key j hj
    rw [e, e2]
    exact setCell_other (setCell_other (h.ct k hk) (hn _ _)) (hn _ _)
  · obtain ⟨k, hk, e, _⟩ := key j hj
    rw [e]
    simpa using h.fs k hk
  · obtain ⟨k, hk, e, _⟩ := key j hj
    rw [e]
    simpa using h.ft k hk

set_option maxHeartbeats 1000000 in
theorem take_some {w : World} {R G room first held : Nat} {L : Nat → Th} (h : RC w R G room first (held + 1) L) :
    Calls Tryz.prog 99 #[.pointer (some ⟨R, 0, none⟩), .int .i64 0] w fun e w' =>
      e = .returned (.tuple #[.agg #[.int .i64 (L 0).1, .int .i64 (L 0).2], .bool true]) ∧ RC w' R G room (at' room first 1) held (rot room (upd L 0 (0, 0))) ∧ Ch [R, G] w w' := by
  have hbG : G < w.heap.size := cell_lt (h.cs 0 (by have := h.r1; omega))
  have hbR : R < w.heap.size := cell_lt h.c0
  have hB1 := (Box2.new w (.int .i64 0) (.int .i64 0) 102).alloc (.cells #[.int .i64 0, .int .i64 0] 102)
  have hB2 := Box2.new (w.alloc (.cells #[.int .i64 0, .int .i64 0] 102)) (.int .i64 0) (.int .i64 0) 102
  have hC1 := ((Ch.refl [] w).alloc (.cells #[.int .i64 0, .int .i64 0] 102)).alloc (.cells #[.int .i64 0, .int .i64 0] 102)
  rw [World.size_alloc] at hB2
  have HR1 := Lib.hid (h.ch hC1 (by simp) (by simp))
  have HR := Lib.hid h
  have HB1 := Lib.hid hB1
  have HB2 := Lib.hid hB2
  have HC1 := Lib.hid hC1
  clear h hB1 hB2 hC1
  go_enter Tryz.func99, Tryz.ntmps99
  go_wp2_with fail
  generalize (w.alloc (.cells #[.int .i64 0, .int .i64 0] 102)).alloc (.cells #[.int .i64 0, .int .i64 0] 102) = w1 at *
  refine (at_some HR1.out 0 (by omega)).mono ?_
  rintro e w2 ⟨rfl, hc2⟩
  have HR2 := Lib.hid (HR1.out.ch hc2 (by simp) (by simp))
  have HC2 := Lib.hid (HC1.out.trans hc2)
  have HB1 := Lib.hid (HB1.out.ch hc2 (by simp))
  have HB2 := Lib.hid (HB2.out.ch hc2 (by simp))
  clear hc2 HR1 HC1
  go_wp2_with fail
  refine wp_loop_rounds 1 ?_
  rw [rounds_succ]
  go_wp2
  obtain ⟨x, hx⟩ : ∃ x, x = L 0 := ⟨_, rfl⟩
  rw [← hx]
  have HX := Lib.hid hx
  clear hx
  have HR3 := Lib.hid (HR2.out.ch ((Ch.refl [] w2).alloc (.cells #[.int .i64 x.1, .int .i64 x.2] 102)) (by simp) (by simp))
  have HC3 := Lib.hid (HC2.out.alloc (.cells #[.int .i64 x.1, .int .i64 x.2] 102))
  have HB3 := Lib.hid (Box2.new w2 (.int .i64 x.1) (.int .i64 x.2) 102)
  have HA1 := Lib.hid (HB1.out.alloc (.cells #[.int .i64 x.1, .int .i64 x.2] 102))
  have HA2 := Lib.hid (HB2.out.alloc (.cells #[.int .i64 x.1, .int .i64 x.2] 102))
  obtain ⟨T, hT⟩ : ∃ T, T = w2.heap.size := ⟨_, rfl⟩
  have HTl := Lib.hid (show w.heap.size < T by rw [hT]; exact HB1.out.lt)
  have HTr := Lib.hid (show w.heap.size + 1 < T by rw [hT]; exact HB2.out.lt)
  rw [← hT] at HB3 ⊢
  clear hT HB1 HB2 HC2 HR2
  generalize w2.alloc (.cells #[.int .i64 x.1, .int .i64 x.2] 102) = w3 at *
  have k0 := HA2.out.c0
  have k1 := HA2.out.c1
  have g0 := HR3.out.cs 0 (by have := HR3.out.r1; omega)
  have g1 := HR3.out.ct 0 (by have := HR3.out.r1; omega)
  have q0 := HR3.out.fs 0 (by have := HR3.out.r1; omega)
  have q1 := HR3.out.ft 0 (by have := HR3.out.r1; omega)
  have hr1 := HR3.out.r1
  have HP : ∀ W : World, RC W R G room first (held + 1) L → Calls Tryz.prog 68 #[.pointer (some ⟨R, 0, none⟩), .int .i64 0] W fun e w' => e = .returned (.pointer (some ⟨G, at' room first 0 * 2, none⟩)) ∧ ∃ n, w' = W.drewN n := fun W hW => place_any hW 0 hr1
  have HP := Lib.hid HP
  go_region_with (go_at_call 68; refine (HP.out w3.drew (HR3.out.drewN 1)).mono ?_; rintro e w' ⟨rfl, nq, rfl⟩)
  all_goals
    have H4 := (HR3.out.drewN (1 + nq)).set 0 hr1 (0, 0)
    have hC4 := ((HC3.out.mono (T := [R, G]) (by simp)).drewN (1 + nq)).setCell (p := ⟨G, at' room first 0 * 2, none⟩) (by simp) (.int .i64 0) |>.setCell (p := ⟨G, at' room first 0 * 2 + 1, none⟩) (by simp) (.int .i64 0)
    have hcS := ((Ch.refl [G] w3).drewN (1 + nq)).setCell (p := ⟨G, at' room first 0 * 2, none⟩) (by simp) (.int .i64 0) |>.setCell (p := ⟨G, at' room first 0 * 2 + 1, none⟩) (by simp) (.int .i64 0)
    have hA4 := HA1.out.ch hcS (by simp; omega)
    have hT4 := HB3.out.ch hcS (by have := HTl.out; simp; omega)
    simp only at H4
    generalize ((w3.drewN (1 + nq)).setCell ⟨G, at' room first 0 * 2, none⟩ (.int .i64 0)).setCell ⟨G, at' room first 0 * 2 + 1, none⟩ (.int .i64 0) = w4 at *
    have HT := Lib.hid H4.turn
    have HC4 := Lib.hid hC4
    have HA4 := Lib.hid hA4
    have HT4 := Lib.hid hT4
    have c0 := H4.c0
    have c1 := H4.c1
    have c2 := H4.c2
    have f1 := H4.f1
    have f2 := H4.f2
    have hfr := H4.fr
    have hrm := H4.r2
    have hhr := H4.hr
    clear H4 hC4 hcS hA4 hT4 k0 k1 g0 g1 q0 q1 HA1 HA2 HB3 HR3 HC3
    have ha0 := HA4.out.c0
    have ha1 := HA4.out.c1
    have hb0 := HA4.out.f0
    have hb1 := HA4.out.f1
    have t0 := HT4.out.c0
    have t1 := HT4.out.c1
    have hm : (((first : Int) + 1).tmod (room : Int)) = ((at' room first 1 : Nat) : Int) := by
      rw [Int.tmod_eq_emod_of_nonneg (by omega)]; unfold at'; rw [Int.natCast_emod, Int.natCast_add]; rfl
    have ha : at' room first 1 < room := at_lt (by omega)
    obtain ⟨a, e⟩ : ∃ a, a = at' room first 1 := ⟨_, rfl⟩
    rw [← e] at hm ha
    have HE := Lib.hid e
    clear e
    have hs : IntKind.i64.wrap ((first : Int) + 1) = (first : Int) + 1 := IntWalk.i64_in _ (by omega)
    have hn : ((room : Int) == 0) = false := by simp; omega
    have hn2 : (room : Int) ≠ 0 := by omega
    have hw : IntKind.i64.wrap (a : Int) = (a : Int) := IntWalk.i64_in _ (by omega)
    have hSR : w.heap.size ≠ R := by omega
    have hTR : T ≠ R := by have := HTl.out; omega
    have hTS : T ≠ w.heap.size := by have := HTl.out; omega
    go_wp2_with fail
    go_region
    have hsub : (0 : Int) ≤ (held : Int) := by omega
    go_wp2
    have hc5 := ((Ch.refl [R] w4).setCell (p := ⟨R, 1, none⟩) (by simp) (.int .i64 (a : Int))).setCell (p := ⟨R, 2, none⟩) (by simp) (.int .i64 (held : Int))
    have hbx := (HA4.out.ch hc5 (by simp; exact hSR)).set (.int .i64 x.1) (.int .i64 x.2)
    have h5 := hbx.c0
    have h6 := hbx.c1
    have hTR := HT.out
    rw [← HE.out] at hTR
    have hc6 := (((Ch.refl [w.heap.size] ((w4.setCell ⟨R, 1, none⟩ (.int .i64 (a : Int))).setCell ⟨R, 2, none⟩ (.int .i64 (held : Int)))).setCell (p := ⟨w.heap.size, 0, none⟩) (by simp) (.int .i64 x.1)).setCell (p := ⟨w.heap.size, 1, none⟩) (by simp) (.int .i64 x.2)).drew
    have hR5 := hTR.ch hc6 (by simp; omega) (by simp; omega)
    have hc7 := (chSetNew (chSetNew ((HC4.out.setCell (p := ⟨R, 1, none⟩) (by simp) (.int .i64 (a : Int))).setCell (p := ⟨R, 2, none⟩) (by simp) (.int .i64 (held : Int))) (p := ⟨w.heap.size, 0, none⟩) (Nat.le_refl _) (.int .i64 x.1)) (p := ⟨w.heap.size, 1, none⟩) (Nat.le_refl _) (.int .i64 x.2)).drew
    refine bodyPost_ret (v := .tuple #[.agg #[.int .i64 x.1, .int .i64 x.2], .bool true]) ?_ rfl ?_
    · simp [results, Tryz.f99, go_sem, h5, h6]
    · exact ⟨by rw [HX.out], by rw [← HE.out]; exact hR5, hc7⟩

theorem take_none {w : World} {R G room first : Nat} {L : Nat → Th} (h : RC w R G room first 0 L) :
    Calls Tryz.prog 99 #[.pointer (some ⟨R, 0, none⟩), .int .i64 0] w fun e w' => e = .returned (.tuple #[.agg #[.int .i64 0, .int .i64 0], .bool false]) ∧ Ch [] w w' := by
  have hB1 := (Box2.new w (.int .i64 0) (.int .i64 0) 102).alloc (.cells #[.int .i64 0, .int .i64 0] 102)
  have hB2 := Box2.new (w.alloc (.cells #[.int .i64 0, .int .i64 0] 102)) (.int .i64 0) (.int .i64 0) 102
  have hC1 := ((Ch.refl [] w).alloc (.cells #[.int .i64 0, .int .i64 0] 102)).alloc (.cells #[.int .i64 0, .int .i64 0] 102)
  rw [World.size_alloc] at hB2
  have HA := Lib.hid (at_none (h.ch hC1 (by simp) (by simp)))
  have HB1 := Lib.hid hB1
  have HB2 := Lib.hid hB2
  have HC1 := Lib.hid hC1
  clear h hB1 hB2 hC1
  go_enter Tryz.func99, Tryz.ntmps99
  go_wp2_with fail
  refine HA.out.mono ?_
  rintro e w2 ⟨rfl, hc2⟩
  have HC2 := Lib.hid ((HC1.out.trans hc2).alloc (.cells #[.int .i64 0, .int .i64 0] 102))
  have hA2 := (HB1.out.ch hc2 (by simp)).alloc (.cells #[.int .i64 0, .int .i64 0] 102)
  have hA3 := (HB2.out.ch hc2 (by simp)).alloc (.cells #[.int .i64 0, .int .i64 0] 102)
  have HB := Lib.hid hA2
  obtain ⟨k0, k1, k2, k3⟩ := hA2
  obtain ⟨m0, m1, _, _⟩ := hA3
  clear hc2
  go_wp2
  have hbx := HB.out.set (.int .i64 0) (.int .i64 0)
  have h5 := hbx.c0
  have h6 := hbx.c1
  refine bodyPost_ret (v := .tuple #[.agg #[.int .i64 0, .int .i64 0], .bool false]) ?_ rfl ?_
  · simp [results, Tryz.f99, go_sem, h5, h6]
  · exact ⟨rfl, chSetNew (chSetNew HC2.out (p := ⟨w.heap.size, 0, none⟩) (Nat.le_refl _) _) (p := ⟨w.heap.size, 1, none⟩) (Nat.le_refl _) _⟩

theorem pop_some {w : World} {R G room first held : Nat} {L : Nat → Th} (h : RC w R G room first (held + 1) L) :
    Calls Tryz.prog 95 #[.pointer (some ⟨R, 0, none⟩)] w fun e w' =>
      e = .returned (.tuple #[.agg #[.int .i64 (L 0).1, .int .i64 (L 0).2], .bool true]) ∧ RC w' R G room (at' room first 1) held (rot room (upd L 0 (0, 0))) ∧ Ch [R, G] w w' := by
  have hbG : G < w.heap.size := cell_lt (h.cs 0 (by have := h.r1; omega))
  have hbR : R < w.heap.size := cell_lt h.c0
  have hC1 := (Ch.refl [] w).alloc (.cells #[.int .i64 0, .int .i64 0] 102)
  have HB1 := Lib.hid (Box2.new w (.int .i64 0) (.int .i64 0) 102)
  have HT := Lib.hid (take_some (h.ch hC1 (by simp) (by simp)))
  have HC1 := Lib.hid hC1
  obtain ⟨x, hx⟩ : ∃ x, x = L 0 := ⟨_, rfl⟩
  rw [← hx] at HT ⊢
  clear h hC1 hx
  go_enter Tryz.func95, Tryz.ntmps95
  go_wp2_with fail
  refine HT.out.mono ?_
  rintro e w2 ⟨rfl, hr2, hc2⟩
  have hA2 := HB1.out.ch hc2 (by simp; omega)
  have HB := Lib.hid hA2
  have HR2 := Lib.hid hr2
  have HC2 := Lib.hid ((HC1.out.mono (T := [R, G]) (by simp)).trans hc2)
  obtain ⟨k0, k1, k2, k3⟩ := hA2
  clear hr2 hc2
  go_wp2
  have hbx := HB.out.set (.int .i64 x.1) (.int .i64 x.2)
  have h5 := hbx.c0
  have h6 := hbx.c1
  have hc6 := ((Ch.refl [w.heap.size] w2).setCell (p := ⟨w.heap.size, 0, none⟩) (by simp) (.int .i64 x.1)).setCell (p := ⟨w.heap.size, 1, none⟩) (by simp) (.int .i64 x.2)
  refine bodyPost_ret (v := .tuple #[.agg #[.int .i64 x.1, .int .i64 x.2], .bool true]) ?_ rfl ?_
  · simp [results, Tryz.f95, go_sem, h5, h6]
  · exact ⟨rfl, HR2.out.ch hc6 (by simp; omega) (by simp; omega), chSetNew (chSetNew HC2.out (p := ⟨w.heap.size, 0, none⟩) (Nat.le_refl _) _) (p := ⟨w.heap.size, 1, none⟩) (Nat.le_refl _) _⟩

theorem pop_none {w : World} {R G room first : Nat} {L : Nat → Th} (h : RC w R G room first 0 L) :
    Calls Tryz.prog 95 #[.pointer (some ⟨R, 0, none⟩)] w fun e w' => e = .returned (.tuple #[.agg #[.int .i64 0, .int .i64 0], .bool false]) ∧ Ch [] w w' := by
  have hC1 := (Ch.refl [] w).alloc (.cells #[.int .i64 0, .int .i64 0] 102)
  have HB1 := Lib.hid (Box2.new w (.int .i64 0) (.int .i64 0) 102)
  have HT := Lib.hid (take_none (h.ch hC1 (by simp) (by simp)))
  have HC1 := Lib.hid hC1
  clear h hC1
  go_enter Tryz.func95, Tryz.ntmps95
  go_wp2_with fail
  refine HT.out.mono ?_
  rintro e w2 ⟨rfl, hc2⟩
  have hA2 := HB1.out.ch hc2 (by simp)
  have HB := Lib.hid hA2
  have HC2 := Lib.hid (HC1.out.trans hc2)
  obtain ⟨k0, k1, k2, k3⟩ := hA2
  clear hc2
  go_wp2
  have hbx := HB.out.set (.int .i64 0) (.int .i64 0)
  have h5 := hbx.c0
  have h6 := hbx.c1
  refine bodyPost_ret (v := .tuple #[.agg #[.int .i64 0, .int .i64 0], .bool false]) ?_ rfl ?_
  · simp [results, Tryz.f95, go_sem, h5, h6]
  · exact ⟨rfl, chSetNew (chSetNew HC2.out (p := ⟨w.heap.size, 0, none⟩) (Nat.le_refl _) _) (p := ⟨w.heap.size, 1, none⟩) (Nat.le_refl _) _⟩
end Go.Proofs.YtjoaigadlpndcaaGreatDoor.rC
namespace Go.Proofs.YtjoaigadlpndcaaGreatDoor.rC
open Go.RowKit

attribute [local go_sem] Oper.semAt_some

theorem RC.grow {w : World} {R G room first held : Nat} {L : Nat → Th} (h : RC w R G room first held L) (hr : held < room) :
    RC (w.setCell ⟨R, 2, none⟩ (.int .i64 ((held : Int) + 1))) R G room first (held + 1) L := by
  have hn : ∀ a b : Nat, (⟨R, a, none⟩ : Addr) ≠ ⟨G, b, none⟩ := fun a b => addr_ne_block h.ne
  exact ⟨h.ne, h.r1, h.r2, h.fr, by omega, setCell_other h.c0 (addr_ne_off (by decide)), setCell_other h.c1 (addr_ne_off (by decide)), setCell_same h.c2, by simpa using h.f1, by simpa using h.f2,
    fun j hj => setCell_other (h.cs j hj) (hn _ _), fun j hj => setCell_other (h.ct j hj) (hn _ _), fun j hj => by simpa using h.fs j hj, fun j hj => by simpa using h.ft j hj⟩

theorem push_full {w : World} {R G room first : Nat} {L : Nat → Th} (h : RC w R G room first room L) (B : Nat) :
    Calls Tryz.prog 59 #[.pointer (some ⟨R, 0, none⟩), .slice (some ⟨B, 0, none⟩) 1 1] w fun e w' => e = .returned (.int .i64 0) ∧ w = w' := by
  have HL := Lib.hid (len_any h)
  have HRo := Lib.hid (room_any h)
  have r1 := h.r1
  have r2 := h.r2
  clear h
  go_enter Tryz.func59, Tryz.ntmps59
  go_wp2_with (first | (go_at_call 67; refine HL.out.mono ?_; rintro e w' ⟨rfl, rfl⟩) | (go_at_call 66; refine HRo.out.mono ?_; rintro e w' ⟨rfl, rfl⟩))
  refine wp_loop_rounds 1 ?_
  rw [rounds_succ]
  go_wp2
  go_ret
  exact ⟨rfl, rfl⟩

set_option maxHeartbeats 1000000 in
theorem push_one {w : World} {R G room first held : Nat} {L : Nat → Th} (h : RC w R G room first held L) (hlt : held < room) (B : Nat) (x : Th) (_ : B ≠ R) (_ : B ≠ G) (hb : Box2 w B (.int .i64 x.1) (.int .i64 x.2)) :
    Calls Tryz.prog 59 #[.pointer (some ⟨R, 0, none⟩), .slice (some ⟨B, 0, none⟩) 1 1] w fun e w' =>
      e = .returned (.int .i64 1) ∧ RC w' R G room first (held + 1) (upd L held x) ∧ Ch [R, G] w w' := by
  have HL := Lib.hid (len_any h)
  have HRo := Lib.hid (room_any h)
  have r2 := h.r2
  have b0 := hb.c0
  have b1 := hb.c1
  have c2 := h.c2
  have HR := Lib.hid h
  clear h hb
  have hsub : (1 : Int) ≤ (room : Int) - (held : Int) := by omega
  go_enter Tryz.func59, Tryz.ntmps59
  go_wp2_with (first | (go_at_call 67; refine HL.out.mono ?_; rintro e w' ⟨rfl, rfl⟩) | (go_at_call 66; refine HRo.out.mono ?_; rintro e w' ⟨rfl, rfl⟩))
  refine wp_loop_rounds 2 ?_
  rw [rounds_succ]
  go_wp2
  have HR1 := Lib.hid (HR.out.ch ((Ch.refl [] w).alloc (.cells #[.int .i64 x.1, .int .i64 x.2] 102)) (by simp) (by simp))
  have HX1 := Lib.hid (Box2.new w (.int .i64 x.1) (.int .i64 x.2) 102)
  have HC1 := Lib.hid ((Ch.refl [R, G] w).alloc (.cells #[.int .i64 x.1, .int .i64 x.2] 102))
  clear b0 b1 c2 HL HRo
  generalize w.alloc (.cells #[.int .i64 x.1, .int .i64 x.2] 102) = w1 at *
  have k0 := HX1.out.c0
  have k1 := HX1.out.c1
  have g0 := HR1.out.cs held (by omega)
  have g1 := HR1.out.ct held (by omega)
  have q0 := HR1.out.fs held (by omega)
  have q1 := HR1.out.ft held (by omega)
  have c2 := HR1.out.c2
  have HP : ∀ W : World, RC W R G room first held L → Calls Tryz.prog 68 #[.pointer (some ⟨R, 0, none⟩), .int .i64 (held : Int)] W fun e w' => e = .returned (.pointer (some ⟨G, at' room first held * 2, none⟩)) ∧ ∃ n, w' = W.drewN n := fun W hW => place_any hW held hlt
  have HP := Lib.hid HP
  go_region_with (go_at_call 68; refine (HP.out w1.drew (HR1.out.drewN 1)).mono ?_; rintro e w' ⟨rfl, nq, rfl⟩)
  all_goals
    have H4 := (HR1.out.drewN (1 + nq)).set held hlt x
    have hC4 := ((HC1.out.drewN (1 + nq)).setCell (p := ⟨G, at' room first held * 2, none⟩) (by simp) (.int .i64 x.1)).setCell (p := ⟨G, at' room first held * 2 + 1, none⟩) (by simp) (.int .i64 x.2)
    generalize ((w1.drewN (1 + nq)).setCell ⟨G, at' room first held * 2, none⟩ (.int .i64 x.1)).setCell ⟨G, at' room first held * 2 + 1, none⟩ (.int .i64 x.2) = w4 at *
    have HG := Lib.hid (H4.grow hlt)
    have HC4 := Lib.hid hC4
    have d2 := H4.c2
    have e2 := H4.f2
    clear H4 hC4 k0 k1 g0 g1 q0 q1 c2 HR1 HX1 HC1 HR
    go_wp2
    rw [rounds_succ]
    go_wp2
    go_ret
    exact ⟨rfl, HG.out, HC4.out.setCell (p := ⟨R, 2, none⟩) (by simp) _⟩

theorem infoE : (Tryz.prog.info? 102).map (fun i => (i.zero, i.size, i.bytes)) = some (some (.agg #[.int .i64 0, .int .i64 0]), 2, 16) := by kernel_rfl

def zT : Value := .agg #[.int .i64 0, .int .i64 0]
theorem made_at (n j : Nat) (h : j < n) : (madeCells zT.cells (n * 2)).toList[j * 2]? = some (.int .i64 0) ∧ (madeCells zT.cells (n * 2)).toList[j * 2 + 1]? = some (.int .i64 0) := by
  have h1 : j * 2 < n * 2 := by omega
  have h2 : j * 2 + 1 < n * 2 := by omega
  have h3 : j * 2 % 2 = 0 := by omega
  have h4 : (j * 2 + 1) % 2 = 1 := by omega
  constructor
  · simp [madeCells, Value.cells, zT, h1, h3]
  · simp [madeCells, Value.cells, zT, h2, h4]

set_option maxHeartbeats 400000 in
theorem new_any (room : Nat) (w : World) (h1 : 1 ≤ room) (h2 : room ≤ 256) :
    Calls Tryz.prog 54 #[.int .i64 (room : Int)] w fun e w' => ∃ R, e = .returned (.tuple #[.pointer (some ⟨R, 0, none⟩), .int .i64 0]) ∧
      RC w' R w.heap.size room 0 0 (fun _ => (0, 0)) ∧ Below w.heap.size w w' ∧ w.heap.size < R ∧ R < w'.heap.size := by
  obtain ⟨i0, hi, hz0, hz1, hz2⟩ := info_parts infoE
  have hd1 : decide ((room : Int) < 1) = false := by simp; omega
  have hd2 : decide ((256 : Int) < (room : Int)) = false := by simp; omega
  have hp0 : (0 : Int) ≤ (room : Int) := by omega
  go_enter Tryz.func54, Tryz.ntmps54
  go_wp2_with (at_make; go_must (refine wpList_make_full _ rfl _ _ 115 rfl w.heap.size 102 i0 zT 2 Tryz.underlying115 hi hz0 hz1 _ _ _ _ room rfl rfl rfl rfl (by rw [hz2]; omega) (by unfold maxLen; omega) (Nat.le_refl _) ?_); intro w1 hown hgrow)
  go_ret2
  have hB : Below w.heap.size w w1 := (Below.refl _ _).grown hgrow (Nat.le_refl _) (fun k e => by cases e)
  have hlt : w.heap.size < w1.heap.size := (World.ownsRow.lt hown w.heap.size rfl).2
  have hn : ∀ a b : Nat, (⟨w1.heap.size, a, none⟩ : Addr) ≠ ⟨w.heap.size, b, none⟩ := fun a b => addr_ne_block (by omega)
  have hat : ∀ j, j < room → at' room 0 j = j := fun j hj => by unfold at'; rw [Nat.zero_add]; exact Nat.mod_eq_of_lt hj
  refine ⟨w1.heap.size, rfl, ⟨by omega, h1, h2, h1, Nat.zero_le _, ?_, ?_, ?_, ?_, ?_, fun j hj => ?_, fun j hj => ?_, fun j hj => ?_, fun j hj => ?_⟩, hB.alloc hB.size _, hlt, by simp⟩
  · rw [World.cell?_alloc_at _ _ _ _ rfl]; rfl
  · rw [World.cell?_alloc_at _ _ _ _ rfl]; rfl
  · rw [World.cell?_alloc_at _ _ _ _ rfl]; rfl
  · exact World.frozen?_alloc_new w1 _ _ _
  · exact World.frozen?_alloc_new w1 _ _ _
  · rw [hat j hj, World.cell?_alloc_past _ _ _ (by exact hlt), World.ownsRow.cellAt hown (j * 2) (by omega)]
    exact (made_at room j hj).1
  · rw [hat j hj, World.cell?_alloc_past _ _ _ (by exact hlt), World.ownsRow.cellAt hown (j * 2 + 1) (by omega)]
    exact (made_at room j hj).2
  · rw [hat j hj]
    exact (World.frozen?_alloc_old w1 _ ⟨w.heap.size, j * 2, none⟩ (Nat.ne_of_lt hlt)).trans (World.ownsRow.frozenAt hown (j * 2))
  · rw [hat j hj]
    exact (World.frozen?_alloc_old w1 _ ⟨w.heap.size, j * 2 + 1, none⟩ (Nat.ne_of_lt hlt)).trans (World.ownsRow.frozenAt hown (j * 2 + 1))

/-- The ring in the blocks R and G holds these, in order. -/
def RL (w : World) (R G room : Nat) (xs : List Th) : Prop := ∃ first L, RC w R G room first xs.length L ∧ ∀ j, j < xs.length → L j = xs[j]?.getD (0, 0)
theorem RL.ch {w w' : World} {S : List Nat} {R G room : Nat} {xs : List Th} (h : RL w R G room xs) (hc : Ch S w w') (hR : R ∉ S) (hG : G ∉ S) : RL w' R G room xs := by
  obtain ⟨first, L, h, hL⟩ := h
  exact ⟨first, L, h.ch hc hR hG, hL⟩
theorem RL.le {w : World} {R G room : Nat} {xs : List Th} (h : RL w R G room xs) : xs.length ≤ room ∧ room ≤ 256 ∧ R ≠ G := by
  obtain ⟨first, L, h, hL⟩ := h
  exact ⟨h.hr, h.r2, h.ne⟩
theorem RL.lt {w : World} {R G room : Nat} {xs : List Th} (h : RL w R G room xs) : R < w.heap.size ∧ G < w.heap.size := by
  obtain ⟨first, L, h, hL⟩ := h
  exact ⟨cell_lt h.c0, cell_lt (h.cs 0 (by have := h.r1; omega))⟩
theorem new_l (room : Nat) (w : World) (h1 : 1 ≤ room) (h2 : room ≤ 256) :
    Calls Tryz.prog 54 #[.int .i64 (room : Int)] w fun e w' => ∃ R, e = .returned (.tuple #[.pointer (some ⟨R, 0, none⟩), .int .i64 0]) ∧
      RL w' R w.heap.size room [] ∧ Below w.heap.size w w' ∧ w.heap.size < R ∧ R < w'.heap.size :=
  (new_any room w h1 h2).mono fun e w' ⟨R, he, hr, hb, h3, h4⟩ => ⟨R, he, ⟨0, _, hr, fun j hj => by simp at hj⟩, hb, h3, h4⟩
theorem len_l {w : World} {R G room : Nat} {xs : List Th} (h : RL w R G room xs) :
    Calls Tryz.prog 67 #[.pointer (some ⟨R, 0, none⟩)] w fun e w' => e = .returned (.int .i64 (xs.length : Int)) ∧ w = w' := by
  obtain ⟨first, L, h, hL⟩ := h
  exact len_any h
theorem push_l1 {w : World} {R G room : Nat} {xs : List Th} (h : RL w R G room xs) (hlt : xs.length < room) (B : Nat) (x : Th) (hBR : B ≠ R) (hBG : B ≠ G) (hb : Box2 w B (.int .i64 x.1) (.int .i64 x.2)) :
    Calls Tryz.prog 59 #[.pointer (some ⟨R, 0, none⟩), .slice (some ⟨B, 0, none⟩) 1 1] w fun e w' =>
      e = .returned (.int .i64 1) ∧ RL w' R G room (xs ++ [x]) ∧ Ch [R, G] w w' := by
  obtain ⟨first, L, h, hL⟩ := h
  refine (push_one h hlt B x hBR hBG hb).mono ?_
  rintro e w' ⟨rfl, hr, hc⟩
  refine ⟨rfl, ⟨first, _, by simpa using hr, fun j hj => ?_⟩, hc⟩
  unfold upd
  simp at hj
  by_cases e : j = xs.length
  · subst e; simp
  · rw [if_neg e, hL j (by omega), List.getElem?_append_left (by omega)]
theorem push_l0 {w : World} {R G room : Nat} {xs : List Th} (h : RL w R G room xs) (hlt : xs.length = room) (B : Nat) :
    Calls Tryz.prog 59 #[.pointer (some ⟨R, 0, none⟩), .slice (some ⟨B, 0, none⟩) 1 1] w fun e w' => e = .returned (.int .i64 0) ∧ w = w' := by
  obtain ⟨first, L, h, hL⟩ := h
  rw [hlt] at h
  exact push_full h B
theorem pop_l {w : World} {R G room : Nat} {x : Th} {xs : List Th} (h : RL w R G room (x :: xs)) :
    Calls Tryz.prog 95 #[.pointer (some ⟨R, 0, none⟩)] w fun e w' =>
      e = .returned (.tuple #[.agg #[.int .i64 x.1, .int .i64 x.2], .bool true]) ∧ RL w' R G room xs ∧ Ch [R, G] w w' := by
  obtain ⟨first, L, h, hL⟩ := h
  have h0 : L 0 = x := hL 0 (by simp)
  have hr0 := h.hr
  refine (pop_some h).mono ?_
  rintro e w' ⟨rfl, hr, hch⟩
  refine ⟨by rw [h0], ⟨_, _, hr, fun j hj => ?_⟩, hch⟩
  simp at hr0
  unfold rot
  rw [if_pos (by omega)]
  unfold upd
  rw [if_neg (by omega), hL (j + 1) (by simp; omega)]
  simp
theorem pop_out {w : World} {R G room : Nat} (h : RL w R G room []) :
    Calls Tryz.prog 95 #[.pointer (some ⟨R, 0, none⟩)] w fun e w' => e = .returned (.tuple #[.agg #[.int .i64 0, .int .i64 0], .bool false]) ∧ Ch [] w w' := by
  obtain ⟨first, L, h, hL⟩ := h
  exact pop_none h
end Go.Proofs.YtjoaigadlpndcaaGreatDoor.rC
namespace Go.Proofs.YtjoaigadlpndcaaGreatDoor
open Go.RowKit

/-- The contract of such a function. -/
def SeqP {α : Type} (F : Fence) (n : Nat) (P : Program) (g : Nat) (lb : Array Value) (encs : α → Array Value) (St Kp : World → World → Prop) (S : List α → World → Prop) (Sp : List α → Prop) (w : World) : Prop :=
  ∀ (l : Nat) (J Jx : List α → World → Prop) (W : World), Below w.heap.size w W → (∀ s A B, J s A → St A B → J s B) →
    (∀ pre x W1, J pre W1 → Sp (pre ++ [x]) → YieldAt F (n - 1) P l (encs x) W1 fun e W' => (e = .returned (.bool true) ∧ J (pre ++ [x]) W' ∧ Kp W1 W') ∨ (e = .returned (.bool false) ∧ Jx (pre ++ [x]) W')) →
    J [] W → CallsIn F n P g (#[.func (.yield l) #[] #[]] ++ lb) W fun e W' => (∃ v, e = .returned v) ∧ ((∃ xs, S xs W' ∧ J xs W') ∨ (∃ pre, Sp pre ∧ Jx pre W'))

theorem wpIn_range_x {F : Fence} {n : Nat} {P : Program} {w : World} {α : Type} {g : Operand} {ps : Array Tmp} {assign body : Code} {Q : Exit → Act → World → Prop} {a : Act}
    (hro : F.round = none) (h1 : 1 ≤ n) {gf : Nat} {lb : Array Value} (hg : a.eval g = .func (.func gf) #[] lb) (hFg : F.fn gf) (eg : ∀ args w, (callFunc gf args).run P w = .ok (.enter gf args) w)
    {encs : α → Array Value} {St Kp : World → World → Prop} {S : List α → World → Prop} {Sp : List α → Prop} (hSo : OwnFrom w.heap.size S) (hseq : SeqP F (n - 1) P gf lb encs St Kp S Sp w)
    (hSt : ∀ A B, St A B → ∀ (k : Nat) (o : Obj), A.heap[k]? = some o → o.isCells = false → o.isWalk = false → B.heap[k]? = some o)
    (hKt : ∀ {A B C : World}, Kp A B → Kp B C → Kp A C) (hKb : ∀ (W : World) (l : Nat) (o o' : Obj), w.heap.size ≤ l → W.heap[l]? = some o → o.isCells = false → o.isWalk = false → o'.isCells = false → Kp W (W.putObj l o')) (hps : ∀ x, (encs x).size = ps.size)
    (I : List α → World → Prop) (Ix : Code → List α → World → Prop) (hI : OwnFrom w.heap.size I) (hIs : ∀ s A B, I s A → St A B → I s B) (hIx : ∀ c, OwnFrom w.heap.size (Ix c)) (h0 : I [] w) (obj : α → Obj) (hKa : ∀ W x, Kp W (W.alloc (obj x))) (_ : ∀ x, (obj x).isCells = true) (a₁ : α → Nat → Act)
    (hassign : ∀ (l : Nat) (x : α) (W : World) (K : Act → World → Prop), K (a₁ x W.heap.size) (W.alloc (obj x)) → assign.wpIn (F.inRound l) (n - 1 - 1) P (Exit.then K (fun _ _ _ => False)) { tmps := (ps.zip (encs x)).foldl (fun t (p, v) => t.setIfInBounds p v) a.tmps, defers := [] } W)
    (hbody : ∀ (l : Nat) (pre : List α) (x : α) (b : Nat) (W : World), I pre W → Sp (pre ++ [x]) → w.heap.size ≤ b → W.heap[b]? = some (obj x) → body.wpIn (F.inRound l) (n - 1 - 1) P (ownPostG w.heap.size Kp I Ix (pre ++ [x]) W) (a₁ x b) W)
    (hdone : ∀ (D : Nat) (xs : List α) (W : World), w.heap.size ≤ D → S xs W → I xs W → W.heap[D]? = some (.deferred (some [])) → Q .normal { a with defers := { target := .collected D, args := #[] } :: a.defers } W)
    (hstop : ∀ (D : Nat) (c : Code) (pre : List α) (W : World), w.heap.size ≤ D → Sp pre → Ix c pre W → W.heap[D]? = some (.deferred (some [])) → c.wpIn F n P Q { a with defers := { target := .collected D, args := #[] } :: a.defers } W) :
    (Code.rangeFunc g ps assign body).wpIn F n P Q a w := by
  refine wpIn_rangeFunc fun fn hfn => ?_
  rw [hro]
  obtain ⟨rec, hrec⟩ : ∃ rec : LoopState → Option Code → Loop, rec = fun st pe => { state := st, pending := pe, fn, tmps := a.tmps, params := ps, assign, body, defers := w.heap.size } := ⟨_, rfl⟩
  obtain ⟨d, hd⟩ : ∃ d, d = w.heap.size := ⟨_, rfl⟩
  obtain ⟨W1, hW1⟩ : ∃ W1, W1 = (w.alloc (.deferred (some []))).alloc (.loop (rec .ready none)) := ⟨_, rfl⟩
  have hL1 : W1.heap[d + 1]? = some (.loop (rec .ready none)) := by
    have := World.alloc_heap_new (w.alloc (.deferred (some []))) (.loop (rec .ready none))
    rwa [World.size_alloc, ← hd, ← hW1] at this
  have hK1 : W1.heap[d]? = some (.deferred (some [])) := by
    rw [hW1, hd]
    exact (Below.heap_alloc _ _ _ (by simp)).trans (World.alloc_heap_new w _)
  have hI1 : I [] W1 := by rw [hW1]; exact hI.alloc _ (hI.alloc _ h0)
  have hb1 : Below w.heap.size w W1 := by rw [hW1]; exact ((Below.refl _ w).alloc (Nat.le_refl _) _).alloc (by simp) _
  refine ⟨d + 1, [{ target := .collected d, args := #[] }], W1, { target := .fn (.func gf) lb, args := #[.func (.yield (d + 1)) #[] #[]] }, W1, gf, #[.func (.yield (d + 1)) #[] #[]] ++ lb, W1, ?_, ?_, ?_, ?_, fun _ => h1, ?_⟩
  · rw [hW1, hrec, hd]
    exact run_enterLoop_outer _ _ _ _ _
  · simp only [resolve, hg]
    simp [go_sem]
  · intro f' hf'
    simp [Target.leads] at hf'
    subst hf'
    exact hFg
  · simp [invoke, go_sem, eg]
  · refine (hseq (d + 1) (fun pre W => I pre W ∧ W.heap[d + 1]? = some (.loop (rec .ready none)) ∧ W.heap[d]? = some (.deferred (some []))) (fun pre W => ∃ c, Ix c pre W ∧ W.heap[d + 1]? = some (.loop (rec .done (some c))) ∧ W.heap[d]? = some (.deferred (some []))) W1 hb1
      (fun s A B hs hAB => ⟨hIs s A B hs.1 hAB, hSt A B hAB _ _ hs.2.1 rfl rfl, hSt A B hAB _ _ hs.2.2 rfl rfl⟩) ?_ ⟨hI1, hL1, hK1⟩).mono ?_
    · rintro pre x W0 ⟨hi0, hl0, hk0⟩ hlen
      have hlt0 : d + 1 < W0.heap.size := (Array.getElem?_eq_some_iff.1 hl0).1
      have hy := run_yield (P := P) (args := encs x) hl0 (by rw [hrec]; exact hps x)
      rw [hrec] at hy
      refine ⟨fn, _, assign, body, hy, roundIn_of_wpIn hfn (hassign _ x W0 _ ?_)⟩
      have hbx : (W0.alloc (obj x)).heap[W0.heap.size]? = some (obj x) := World.alloc_heap_new W0 _
      have hka := hKa W0 x
      have hi : I pre (W0.alloc (obj x)) := hI.alloc _ hi0
      have hl : (W0.alloc (obj x)).heap[d + 1]? = some (.loop (rec .ready none)) := (Below.heap_alloc _ _ _ hlt0).trans hl0
      have hk : (W0.alloc (obj x)).heap[d]? = some (.deferred (some [])) := (Below.heap_alloc _ _ _ (by omega)).trans hk0
      have hbd : d + 1 ≠ W0.heap.size := by omega
      obtain ⟨W, hW⟩ : ∃ W, W = W0.alloc (obj x) := ⟨_, rfl⟩
      rw [← hW] at hbx hka hi hl hk ⊢
      have hlt : d + 1 < W.heap.size := (Array.getElem?_eq_some_iff.1 hl).1
      refine ⟨_, run_beginRound hl (by rw [hrec]), ?_⟩
      obtain ⟨Wb, hWb⟩ : ∃ Wb, Wb = W.putObj (d + 1) (.loop { rec .ready none with state := .busy }) := ⟨_, rfl⟩
      have hl2 : Wb.heap[d + 1]? = some (.loop { rec .ready none with state := .busy }) := by rw [hWb]; exact World.putObj_heap_same hlt
      have hk2 : Wb.heap[d]? = some (.deferred (some [])) := by rw [hWb]; exact (World.putObj_heap_other (by omega)).trans hk
      have hi2 : I pre Wb := by rw [hWb]; exact hI.putObj _ hi (by omega) hl rfl
      have hbx2 : Wb.heap[W0.heap.size]? = some (obj x) := by rw [hWb]; exact (World.putObj_heap_other (Ne.symm hbd)).trans hbx
      have hw2 : Kp W0 Wb := by rw [hWb]; exact hKt hka (hKb _ _ _ _ (by omega) hl rfl rfl rfl)
      rw [← hWb]
      refine wpIn_mono (hbody _ pre x _ Wb hi2 hlen (by omega) hbx2) ?_
      have fin : ∀ (jump : Option Code) (W3 : World), KeepsFrom w.heap.size Wb W3 → ∃ W4, W4 = W3.putObj (d + 1) (.loop (rec (if jump.isNone then .ready else .done) jump)) ∧
          (Instr.endRound (d + 1) jump).run P W3 = .ok (.bool jump.isNone) W4 ∧ W3.heap[d + 1]? = some (.loop { rec .ready none with state := .busy }) ∧
          W4.heap[d + 1]? = some (.loop (rec (if jump.isNone then .ready else .done) jump)) ∧ W4.heap[d]? = some (.deferred (some [])) := fun jump W3 hk3 => by
        have hl3 := hk3.same _ _ (by omega) hl2 rfl
        refine ⟨_, rfl, ?_, hl3, World.putObj_heap_same (Array.getElem?_eq_some_iff.1 hl3).1, (World.putObj_heap_other (by omega)).trans (hk3.same _ _ (by omega) hk2 rfl)⟩
        have := run_endRound (P := P) jump hl3
        rw [hrec] at this ⊢
        exact this
      rintro e a3 W3 hp
      cases e with
      | normal =>
        obtain ⟨hk3, hkp3, hi3⟩ := hp
        obtain ⟨W4, e4, hr, hl3, hl4, hk4⟩ := fin none W3 hk3
        refine ⟨_, _, hr, .inl ⟨rfl, ⟨?_, hl4, hk4⟩, hKt hw2 (hKt hkp3 ?_)⟩⟩
        · rw [e4]; exact hI.putObj _ hi3 (by omega) hl3 rfl
        · rw [e4]; exact hKb _ _ _ _ (by omega) hl3 rfl rfl rfl
      | ret =>
        obtain ⟨hk3, hi3⟩ := hp
        obtain ⟨W4, e4, hr, hl3, hl4, hk4⟩ := fin (some .ret) W3 hk3
        exact ⟨_, _, hr, .inr ⟨rfl, .ret, by rw [e4]; exact (hIx _).putObj _ hi3 (by omega) hl3 rfl, hl4, hk4⟩⟩
      | exit id =>
        obtain ⟨hk3, hi3⟩ := hp
        obtain ⟨W4, e4, hr, hl3, hl4, hk4⟩ := fin (some (.exit id)) W3 hk3
        exact ⟨_, _, hr, .inr ⟨rfl, .exit id, by rw [e4]; exact (hIx _).putObj _ hi3 (by omega) hl3 rfl, hl4, hk4⟩⟩
      | goto t =>
        obtain ⟨hk3, hi3⟩ := hp
        obtain ⟨W4, e4, hr, hl3, hl4, hk4⟩ := fin (some (.goto t)) W3 hk3
        exact ⟨_, _, hr, .inr ⟨rfl, .goto t, by rw [e4]; exact (hIx _).putObj _ hi3 (by omega) hl3 rfl, hl4, hk4⟩⟩
      | panic ch => exact hp.elim
      | outgrown => exact hp.elim
    · rintro e W2 ⟨⟨v, rfl⟩, (⟨xs, hS, hi, hl, hk⟩ | ⟨pre, hSp, c, hi, hl, hk⟩)⟩
      · refine ⟨none, _, by have := run_endLoop (P := P) hl (by rw [hrec]; simp); rw [hrec] at this; exact this, ?_⟩
        have := hdone d xs (W2.putObj (d + 1) (.loop { rec .ready none with state := .exhausted })) (by omega) (hSo.putObj _ hS (by omega) hl rfl) (hI.putObj _ hi (by omega) hl rfl) ((World.putObj_heap_other (by omega)).trans hk)
        rw [hrec] at this
        exact this
      · refine ⟨some c, _, by have := run_endLoop (P := P) hl (by rw [hrec]; simp); rw [hrec] at this; exact this, ?_⟩
        have := hstop d c pre (W2.putObj (d + 1) (.loop { rec .done (some c) with state := .exhausted })) (by omega) hSp ((hIx c).putObj _ hi (by omega) hl rfl) ((World.putObj_heap_other (by omega)).trans hk)
        rw [hrec] at this
        exact this

/-- The same, where the loop's variable lies in no block. -/
theorem wpIn_range_n {F : Fence} {n : Nat} {P : Program} {w : World} {α : Type} {g : Operand} {ps : Array Tmp} {assign body : Code} {Q : Exit → Act → World → Prop} {a : Act}
    (hro : F.round = none) (h1 : 1 ≤ n) {gf : Nat} {lb : Array Value} (hg : a.eval g = .func (.func gf) #[] lb) (hFg : F.fn gf) (eg : ∀ args w, (callFunc gf args).run P w = .ok (.enter gf args) w)
    {encs : α → Array Value} {St Kp : World → World → Prop} {S : List α → World → Prop} {Sp : List α → Prop} (hSo : OwnFrom w.heap.size S) (hseq : SeqP F (n - 1) P gf lb encs St Kp S Sp w)
    (hSt : ∀ A B, St A B → ∀ (k : Nat) (o : Obj), A.heap[k]? = some o → o.isCells = false → o.isWalk = false → B.heap[k]? = some o)
    (hKt : ∀ {A B C : World}, Kp A B → Kp B C → Kp A C) (hKb : ∀ (W : World) (l : Nat) (o o' : Obj), w.heap.size ≤ l → W.heap[l]? = some o → o.isCells = false → o.isWalk = false → o'.isCells = false → Kp W (W.putObj l o')) (hps : ∀ x, (encs x).size = ps.size)
    (I : List α → World → Prop) (Ix : Code → List α → World → Prop) (hI : OwnFrom w.heap.size I) (hIs : ∀ s A B, I s A → St A B → I s B) (hIx : ∀ c, OwnFrom w.heap.size (Ix c)) (h0 : I [] w) (a₁ : α → Act)
    (hassign : ∀ (l : Nat) (x : α) (W : World) (K : Act → World → Prop), K (a₁ x) W → assign.wpIn (F.inRound l) (n - 1 - 1) P (Exit.then K (fun _ _ _ => False)) { tmps := (ps.zip (encs x)).foldl (fun t (p, v) => t.setIfInBounds p v) a.tmps, defers := [] } W)
    (hbody : ∀ (l : Nat) (pre : List α) (x : α) (W : World), I pre W → Sp (pre ++ [x]) → body.wpIn (F.inRound l) (n - 1 - 1) P (ownPostG w.heap.size Kp I Ix (pre ++ [x]) W) (a₁ x) W)
    (hdone : ∀ (D : Nat) (xs : List α) (W : World), w.heap.size ≤ D → S xs W → I xs W → W.heap[D]? = some (.deferred (some [])) → Q .normal { a with defers := { target := .collected D, args := #[] } :: a.defers } W)
    (hstop : ∀ (D : Nat) (c : Code) (pre : List α) (W : World), w.heap.size ≤ D → Sp pre → Ix c pre W → W.heap[D]? = some (.deferred (some [])) → c.wpIn F n P Q { a with defers := { target := .collected D, args := #[] } :: a.defers } W) :
    (Code.rangeFunc g ps assign body).wpIn F n P Q a w := by
  refine wpIn_rangeFunc fun fn hfn => ?_
  rw [hro]
  obtain ⟨rec, hrec⟩ : ∃ rec : LoopState → Option Code → Loop, rec = fun st pe => { state := st, pending := pe, fn, tmps := a.tmps, params := ps, assign, body, defers := w.heap.size } := ⟨_, rfl⟩
  obtain ⟨d, hd⟩ : ∃ d, d = w.heap.size := ⟨_, rfl⟩
  obtain ⟨W1, hW1⟩ : ∃ W1, W1 = (w.alloc (.deferred (some []))).alloc (.loop (rec .ready none)) := ⟨_, rfl⟩
  have hL1 : W1.heap[d + 1]? = some (.loop (rec .ready none)) := by
    have := World.alloc_heap_new (w.alloc (.deferred (some []))) (.loop (rec .ready none))
    rwa [World.size_alloc, ← hd, ← hW1] at this
  have hK1 : W1.heap[d]? = some (.deferred (some [])) := by
    rw [hW1, hd]
    exact (Below.heap_alloc _ _ _ (by simp)).trans (World.alloc_heap_new w _)
  have hI1 : I [] W1 := by rw [hW1]; exact hI.alloc _ (hI.alloc _ h0)
  have hb1 : Below w.heap.size w W1 := by rw [hW1]; exact ((Below.refl _ w).alloc (Nat.le_refl _) _).alloc (by simp) _
  refine ⟨d + 1, [{ target := .collected d, args := #[] }], W1, { target := .fn (.func gf) lb, args := #[.func (.yield (d + 1)) #[] #[]] }, W1, gf, #[.func (.yield (d + 1)) #[] #[]] ++ lb, W1, ?_, ?_, ?_, ?_, fun _ => h1, ?_⟩
  · rw [hW1, hrec, hd]
    exact run_enterLoop_outer _ _ _ _ _
  · simp only [resolve, hg]
    simp [go_sem]
  · intro f' hf'
    simp [Target.leads] at hf'
    subst hf'
    exact hFg
  · simp [invoke, go_sem, eg]
  · refine (hseq (d + 1) (fun pre W => I pre W ∧ W.heap[d + 1]? = some (.loop (rec .ready none)) ∧ W.heap[d]? = some (.deferred (some []))) (fun pre W => ∃ c, Ix c pre W ∧ W.heap[d + 1]? = some (.loop (rec .done (some c))) ∧ W.heap[d]? = some (.deferred (some []))) W1 hb1
      (fun s A B hs hAB => ⟨hIs s A B hs.1 hAB, hSt A B hAB _ _ hs.2.1 rfl rfl, hSt A B hAB _ _ hs.2.2 rfl rfl⟩) ?_ ⟨hI1, hL1, hK1⟩).mono ?_
    · rintro pre x W ⟨hi, hl, hk⟩ hlen
      have hlt : d + 1 < W.heap.size := (Array.getElem?_eq_some_iff.1 hl).1
      have hy := run_yield (P := P) (args := encs x) hl (by rw [hrec]; exact hps x)
      rw [hrec] at hy
      refine ⟨fn, _, assign, body, hy, roundIn_of_wpIn hfn (hassign _ x W _ ?_)⟩
      refine ⟨_, run_beginRound hl (by rw [hrec]), ?_⟩
      obtain ⟨Wb, hWb⟩ : ∃ Wb, Wb = W.putObj (d + 1) (.loop { rec .ready none with state := .busy }) := ⟨_, rfl⟩
      have hl2 : Wb.heap[d + 1]? = some (.loop { rec .ready none with state := .busy }) := by rw [hWb]; exact World.putObj_heap_same hlt
      have hk2 : Wb.heap[d]? = some (.deferred (some [])) := by rw [hWb]; exact (World.putObj_heap_other (by omega)).trans hk
      have hi2 : I pre Wb := by rw [hWb]; exact hI.putObj _ hi (by omega) hl rfl
      have hw2 : Kp W Wb := by rw [hWb]; exact hKb _ _ _ _ (by omega) hl rfl rfl rfl
      rw [← hWb]
      refine wpIn_mono (hbody _ pre x Wb hi2 hlen) ?_
      have fin : ∀ (jump : Option Code) (W3 : World), KeepsFrom w.heap.size Wb W3 → ∃ W4, W4 = W3.putObj (d + 1) (.loop (rec (if jump.isNone then .ready else .done) jump)) ∧
          (Instr.endRound (d + 1) jump).run P W3 = .ok (.bool jump.isNone) W4 ∧ W3.heap[d + 1]? = some (.loop { rec .ready none with state := .busy }) ∧
          W4.heap[d + 1]? = some (.loop (rec (if jump.isNone then .ready else .done) jump)) ∧ W4.heap[d]? = some (.deferred (some [])) := fun jump W3 hk3 => by
        have hl3 := hk3.same _ _ (by omega) hl2 rfl
        refine ⟨_, rfl, ?_, hl3, World.putObj_heap_same (Array.getElem?_eq_some_iff.1 hl3).1, (World.putObj_heap_other (by omega)).trans (hk3.same _ _ (by omega) hk2 rfl)⟩
        have := run_endRound (P := P) jump hl3
        rw [hrec] at this ⊢
        exact this
      rintro e a3 W3 hp
      cases e with
      | normal =>
        obtain ⟨hk3, hkp3, hi3⟩ := hp
        obtain ⟨W4, e4, hr, hl3, hl4, hk4⟩ := fin none W3 hk3
        refine ⟨_, _, hr, .inl ⟨rfl, ⟨?_, hl4, hk4⟩, hKt hw2 (hKt hkp3 ?_)⟩⟩
        · rw [e4]; exact hI.putObj _ hi3 (by omega) hl3 rfl
        · rw [e4]; exact hKb _ _ _ _ (by omega) hl3 rfl rfl rfl
      | ret =>
        obtain ⟨hk3, hi3⟩ := hp
        obtain ⟨W4, e4, hr, hl3, hl4, hk4⟩ := fin (some .ret) W3 hk3
        exact ⟨_, _, hr, .inr ⟨rfl, .ret, by rw [e4]; exact (hIx _).putObj _ hi3 (by omega) hl3 rfl, hl4, hk4⟩⟩
      | exit id =>
        obtain ⟨hk3, hi3⟩ := hp
        obtain ⟨W4, e4, hr, hl3, hl4, hk4⟩ := fin (some (.exit id)) W3 hk3
        exact ⟨_, _, hr, .inr ⟨rfl, .exit id, by rw [e4]; exact (hIx _).putObj _ hi3 (by omega) hl3 rfl, hl4, hk4⟩⟩
      | goto t =>
        obtain ⟨hk3, hi3⟩ := hp
        obtain ⟨W4, e4, hr, hl3, hl4, hk4⟩ := fin (some (.goto t)) W3 hk3
        exact ⟨_, _, hr, .inr ⟨rfl, .goto t, by rw [e4]; exact (hIx _).putObj _ hi3 (by omega) hl3 rfl, hl4, hk4⟩⟩
      | panic ch => exact hp.elim
      | outgrown => exact hp.elim
    · rintro e W2 ⟨⟨v, rfl⟩, (⟨xs, hS, hi, hl, hk⟩ | ⟨pre, hSp, c, hi, hl, hk⟩)⟩
      · refine ⟨none, _, by have := run_endLoop (P := P) hl (by rw [hrec]; simp); rw [hrec] at this; exact this, ?_⟩
        have := hdone d xs (W2.putObj (d + 1) (.loop { rec .ready none with state := .exhausted })) (by omega) (hSo.putObj _ hS (by omega) hl rfl) (hI.putObj _ hi (by omega) hl rfl) ((World.putObj_heap_other (by omega)).trans hk)
        rw [hrec] at this
        exact this
      · refine ⟨some c, _, by have := run_endLoop (P := P) hl (by rw [hrec]; simp); rw [hrec] at this; exact this, ?_⟩
        have := hstop d c pre (W2.putObj (d + 1) (.loop { rec .done (some c) with state := .exhausted })) (by omega) hSp ((hIx c).putObj _ hi (by omega) hl rfl) ((World.putObj_heap_other (by omega)).trans hk)
        rw [hrec] at this
        exact this
theorem cell_obj {W : World} {b o : Nat} {v : Value} (h : W.cell? ⟨b, o, none⟩ = some v) : ∃ x : Obj, W.heap[b]? = some x ∧ x.isCells = true := by
  unfold World.cell? at h
  simp only [Option.isSome_none, Bool.false_eq_true, if_false] at h
  split at h
  · rename_i e
    exact ⟨_, e, rfl⟩
  · cases h
/-- Those of these blocks that hold cells are as they were. -/
def Keep (S : Nat → Prop) (A B : World) : Prop := ∀ (k : Nat) (o : Obj), S k → A.heap[k]? = some o → o.isCells = true → B.heap[k]? = some o
theorem Keep.refl (S : Nat → Prop) (A : World) : Keep S A A := fun _ _ _ h _ => h
theorem Keep.trans {S : Nat → Prop} {A B C : World} (h : Keep S A B) (k : Keep S B C) : Keep S A C := fun i o hs ho hc => k i o hs (h i o hs ho hc) hc
theorem Keep.alloc {S : Nat → Prop} (A : World) (o : Obj) : Keep S A (A.alloc o) := fun _ _ _ h _ => (Below.heap_alloc _ _ _ (Array.getElem?_eq_some_iff.1 h).1).trans h
theorem Keep.put {S : Nat → Prop} (W : World) (l : Nat) (o o' : Obj) (h : W.heap[l]? = some o) (hc : o.isCells = false) : Keep S W (W.putObj l o') := fun k x _ hx hxc =>
  (World.putObj_heap_other (fun e => by subst e; rw [h] at hx; cases hx; rw [hc] at hxc; cases hxc)).trans hx
theorem Keep.same {S : Nat → Prop} {A B : World} (h : Keep S A B) {b o : Nat} {v : Value} (hb : S b) (hc : A.cell? ⟨b, o, none⟩ = some v) : B.heap[b]? = A.heap[b]? := by
  obtain ⟨x, h1, h2⟩ := cell_obj hc
  rw [h1]
  exact h b x hb h1 h2
theorem Keep.cell {S : Nat → Prop} {A B : World} (h : Keep S A B) {b o : Nat} {v : Value} (hb : S b) (hc : A.cell? ⟨b, o, none⟩ = some v) : B.cell? ⟨b, o, none⟩ = some v :=
  (World.cell?_of_block (w := A) (w' := B) (a := ⟨b, o, none⟩) (h.same hb hc)).trans hc
theorem Keep.ch {S : Nat → Prop} {A B : World} {T : List Nat} (h : Ch T A B) (hT : ∀ k ∈ T, ¬ S k) : Keep S A B := fun k _ hs ho _ => (h.block k (Array.getElem?_eq_some_iff.1 ho).1 (fun hm => hT k hm hs)).trans ho
/-- Of what there was, the blocks that S names alone may have turned. -/
structure ChP (S : Nat → Prop) (w w' : World) : Prop where
  os : w'.os = w.os
  tape : w'.tape = w.tape
  output : w'.output = w.output
  size : w.heap.size ≤ w'.heap.size
  block : ∀ k, k < w.heap.size → ¬ S k → w'.heap[k]? = w.heap[k]?
theorem ChP.refl (S : Nat → Prop) (w : World) : ChP S w w := ⟨rfl, rfl, rfl, Nat.le_refl _, fun _ _ _ => rfl⟩
theorem ChP.trans {S : Nat → Prop} {a b c : World} (h : ChP S a b) (k : ChP S b c) : ChP S a c :=
  ⟨k.os.trans h.os, k.tape.trans h.tape, k.output.trans h.output, Nat.le_trans h.size k.size, fun i hi hn => (k.block i (Nat.lt_of_lt_of_le hi h.size) hn).trans (h.block i hi hn)⟩
theorem ChP.mono {S T : Nat → Prop} {w w' : World} (h : ChP S w w') (hs : ∀ k, S k → T k) : ChP T w w' := ⟨h.os, h.tape, h.output, h.size, fun k hk hn => h.block k hk (fun hm => hn (hs k hm))⟩
theorem ChP.fresh {S T : Nat → Prop} {a w w' : World} (h : ChP S a w) (k : ChP T w w') (hT : ∀ k, T k → S k ∨ a.heap.size ≤ k) : ChP S a w' :=
  ⟨k.os.trans h.os, k.tape.trans h.tape, k.output.trans h.output, Nat.le_trans h.size k.size, fun i hi hn => (k.block i (Nat.lt_of_lt_of_le hi h.size) (fun ht => by rcases hT i ht with h1 | h1 <;> first | exact hn h1 | omega)).trans (h.block i hi hn)⟩
theorem ChP.of {S : Nat → Prop} {l : List Nat} {w w' : World} (h : Ch l w w') (hs : ∀ k ∈ l, S k) : ChP S w w' := ⟨h.os, h.tape, h.output, h.size, fun k hk hn => h.block k hk (fun hm => hn (hs k hm))⟩
theorem ChP.quiet {S : Nat → Prop} {w w' : World} (h : Ch [] w w') : ChP S w w' := .of h (by simp)
theorem ChP.grown {S : Nat → Prop} {w w' : World} {row : Option Nat} (hg : w.grownBy w' row) (hr : ∀ r, row = some r → S r) : ChP S w w' :=
  ⟨hg.os, hg.tape, hg.output, hg.size, fun k hk hn => hg.block k hk (fun e => hn (hr k e.symm))⟩
theorem ChP.drew {S : Nat → Prop} {a w : World} (h : ChP S a w) : ChP S a w.drew := ⟨h.os, h.tape, h.output, h.size, h.block⟩
theorem ChP.alloc {S : Nat → Prop} {a w : World} (h : ChP S a w) (o : Obj) : ChP S a (w.alloc o) := h.trans (.quiet ((Ch.refl [] w).alloc o))
theorem ChP.setCell {S : Nat → Prop} {a w : World} (h : ChP S a w) {p : Addr} (hp : S p.block ∨ a.heap.size ≤ p.block) (u : Value) : ChP S a (w.setCell p u) :=
  h.fresh (T := fun k => k = p.block) ⟨rfl, rfl, rfl, by simp [World.setCell], fun k _ hn => Below.heap_setCell _ _ _ _ hn⟩ (fun k e => e ▸ hp)
theorem ChP.cell {S : Nat → Prop} {w w' : World} (h : ChP S w w') {p : Addr} (hp : p.block < w.heap.size) (hn : ¬ S p.block) : w'.cell? p = w.cell? p := World.cell?_of_block (w := w) (h.block p.block hp hn)
theorem ChP.frozen {S : Nat → Prop} {w w' : World} (h : ChP S w w') {p : Addr} (hp : p.block < w.heap.size) (hn : ¬ S p.block) : w'.frozen? p = w.frozen? p := World.frozen?_of_block (w := w) (h.block p.block hp hn)
theorem ChP.below {S : Nat → Prop} {w w' : World} (h : ChP S w w') (B : Nat) (hS : ∀ k, S k → B ≤ k) (hB : B ≤ w.heap.size) : Below B w w' :=
  ⟨h.os, h.tape, h.output, h.size, fun k hk => h.block k (Nat.lt_of_lt_of_le hk hB) (fun hm => by have := hS k hm; omega)⟩
theorem Ch.grown0 {w w' : World} (h : Ch [] w w') : w.grownBy w' none := ⟨h.os, h.tape, h.output, h.size, fun k hk _ => h.block k hk (by simp)⟩
theorem own_chP {w w' : World} {S : Nat → Prop} {b e s : Nat} {v : Value} {n : Nat} {xs : List Value} (h : w.ownsRow b e s v n xs) (hc : ChP S w w') (hS : ∀ g, v.ownBlock = some g → ¬ S g) : w'.ownsRow b e s v n xs := by
  obtain ⟨h1, h2⟩ := h
  refine ⟨h1, ?_⟩
  rcases h2 with h2 | ⟨g, cap, cur, rfl, hb, hg, r⟩
  · exact .inl h2
  · exact .inr ⟨g, cap, cur, rfl, hb, (hc.block g (Array.getElem?_eq_some_iff.1 hg).1 (hS g rfl)).trans hg, r⟩
end Go.Proofs.YtjoaigadlpndcaaGreatDoor
namespace Go.Proofs.YtjoaigadlpndcaaGreatDoor.rC
open Go.RowKit Go.Shelf

attribute [local go_sem] Oper.semAt_some

/-- A thing as one value. -/
def tv (x : Th) : Value := .agg #[.int .i64 x.1, .int .i64 x.2]

theorem RC.same {W W' : World} {R G room first held : Nat} {L : Nat → Th} (h : RC W R G room first held L) (hR : W'.heap[R]? = W.heap[R]?) (hG : W'.heap[G]? = W.heap[G]?) : RC W' R G room first held L :=
  have r : ∀ o, W'.cell? ⟨R, o, none⟩ = W.cell? ⟨R, o, none⟩ := fun o => World.cell?_of_block (a := ⟨R, o, none⟩) hR
  have g : ∀ o, W'.cell? ⟨G, o, none⟩ = W.cell? ⟨G, o, none⟩ := fun o => World.cell?_of_block (a := ⟨G, o, none⟩) hG
  have rf : ∀ o, W'.frozen? ⟨R, o, none⟩ = W.frozen? ⟨R, o, none⟩ := fun o => World.frozen?_of_block (a := ⟨R, o, none⟩) hR
  have gf : ∀ o, W'.frozen? ⟨G, o, none⟩ = W.frozen? ⟨G, o, none⟩ := fun o => World.frozen?_of_block (a := ⟨G, o, none⟩) hG
  ⟨h.ne, h.r1, h.r2, h.fr, h.hr, (r _).trans h.c0, (r _).trans h.c1, (r _).trans h.c2, (rf _).trans h.f1, (rf _).trans h.f2,
    fun j hj => (g _).trans (h.cs j hj), fun j hj => (g _).trans (h.ct j hj), fun j hj => (gf _).trans (h.fs j hj), fun j hj => (gf _).trans (h.ft j hj)⟩
theorem RC.keep {S : Nat → Prop} {W W' : World} {R G room first held : Nat} {L : Nat → Th} (h : RC W R G room first held L) (hk : Keep S W W') (hR : S R) (hG : S G) : RC W' R G room first held L :=
  h.same (hk.same hR h.c0) (hk.same hG (h.cs 0 (by have := h.r1; omega)))

/-- What a ring holds, in order. -/
def cont (held : Nat) (L : Nat → Th) : List Th := (List.range held).map L
theorem cont_len (held : Nat) (L : Nat → Th) : (cont held L).length = held := by simp [cont]
theorem cont_take (held k : Nat) (L : Nat → Th) (h : k < held) : (cont held L).take (k + 1) = (cont held L).take k ++ [L k] := by
  rw [List.take_succ_eq_append_getElem (by rw [cont_len]; exact h)]
  simp [cont]
theorem cont_full (held : Nat) (L : Nat → Th) : (cont held L).take held = cont held L := List.take_of_length_le (by rw [cont_len]; exact Nat.le_refl _)
theorem cont_prefix (held k : Nat) (L : Nat → Th) (h : k < held) : (cont held L).take k ++ [L k] <+: cont held L := by
  rw [← cont_take held k L h]; exact List.take_prefix _ _

theorem things_in (n : Nat) (p : Option Addr) (w : World) :
    CallsIn Fence.wide n Tryz.prog 88 #[.pointer p] w fun e w' => e = .returned (.func (.func 96) #[] #[.pointer (some ⟨w.heap.size, 0, none⟩)]) ∧ w' = w.alloc (.cells #[.pointer p] 98) := by
  refine callsIn_of_wp Tryz.func88 rfl trivial ?_ rfl
  simp only [Tryz.ntmps88, List.size_toArray, List.length_cons, List.length_nil, Nat.reduceAdd, Nat.reduceSub, Array.replicate_succ, Array.replicate_zero, List.push_toArray, List.append_toArray, List.nil_append, List.cons_append]
  gi_wp2
  go_ret
  exact ⟨rfl, rfl⟩

set_option maxRecDepth 100000 in
set_option maxHeartbeats 1000000 in
theorem things1_in (n : Nat) (l Bn R G room first : Nat) (held : Nat) (L : Nat → Th) (S : Nat → Prop) (sB : S Bn) (sR : S R) (sG : S G) (J Jx : List Th → World → Prop) (hJ : ∀ pre W W', J pre W → Ch [] W W' → J pre W')
    (hY : ∀ pre x W, J pre W → pre ++ [x] <+: cont held L → YieldAt Fence.wide (n - 1) Tryz.prog l #[tv x] W fun e W' =>
      (e = .returned (.bool true) ∧ J (pre ++ [x]) W' ∧ Keep S W W') ∨ (e = .returned (.bool false) ∧ Jx (pre ++ [x]) W'))
    (W : World) (hb : W.cell? ⟨Bn, 0, none⟩ = some (.pointer (some ⟨R, 0, none⟩))) (hL : RC W R G room first held L) (h0 : J [] W) :
    CallsIn Fence.wide n Tryz.prog 96 #[.func (.yield l) #[] #[], .pointer (some ⟨Bn, 0, none⟩)] W fun e W' => (∃ v, e = .returned v) ∧
      ((∃ ys, ys = cont held L ∧ J ys W') ∨ (∃ pre, pre <+: cont held L ∧ Jx pre W')) := by
  have hr0 := hL.hr
  have hr2 := hL.r2
  have h256 : held ≤ 256 := by omega
  have HY := Lib.hid hY
  have HL := Lib.hid hL
  have HJ := Lib.hid hJ
  have HX := Lib.hid hb
  have hc := hb
  clear hY hL hJ hb
  refine callsIn_of_wp Tryz.func96 rfl trivial ?_ rfl
  simp only [Tryz.ntmps96, List.size_toArray, List.length_cons, List.length_nil, Nat.reduceAdd, Nat.reduceSub, Array.replicate_succ, Array.replicate_zero, List.push_toArray, List.append_toArray, List.nil_append, List.cons_append]
  have hw : ∀ f, Fence.wide.fn f := fun _ => trivial
  have hd : Fence.wide.depth = none := rfl
  gi_wp2_with (gi_at_call 67; refine (callsIn_wide.2 (len_any HL.out)).mono ?_; rintro e w' ⟨rfl, rfl⟩)
  gi_loopw [6] (fun r wr => ∃ k : Nat, k ≤ held ∧ r = .int .i64 (k : Int) ∧ J ((cont held L).take k) wr ∧ RC wr R G room first held L ∧ wr.cell? ⟨Bn, 0, none⟩ = some (.pointer (some ⟨R, 0, none⟩)))
    (fun r _ => held - (intOf r).toNat)
  case atStart =>
    exact ⟨0, Nat.zero_le _, rfl, h0, HL.out, HX.out⟩
  case round =>
    obtain ⟨k, hk, rfl, hJk, hLk, hck⟩ := hrel
    have HJk := Lib.hid hJk
    have HLk := Lib.hid hLk
    have HK0 := Lib.hid hck
    have hcc := hck
    clear hJk hLk hc hck
    by_cases hlt : k < held
    · have hg0 := HLk.out.cs k (by omega)
      have hg1 := HLk.out.ct k (by omega)
      have HP := Lib.hid (place_any HLk.out k (by omega))
      have HT := Lib.hid (cont_take held k L hlt)
      have HPr := Lib.hid (cont_prefix held k L hlt)
      generalize at' room first k * 2 = a at hg0 hg1 HP
      generalize L k = x at hg0 hg1 HT HPr
      gi_wp2_with (gi_at_call 68; refine (callsIn_wide.2 HP.out).mono ?_; rintro e w' ⟨rfl, nq, rfl⟩; obtain ⟨fn, tmps, assign, body, hy, hR⟩ := HY.out ((cont held L).take k) x (wr.drewN nq) (HJ.out _ _ _ HJk.out ((Ch.refl [] wr).drewN nq)) HPr.out; unfold tv at hy)
      refine hR.mono ?_
      rintro e W3 (⟨rfl, hJ3, hk3⟩ | ⟨rfl, hJx3⟩)
      · have HK := Lib.hid hk3
        clear hk3
        gi_wp2
        go_roundw
        case rel =>
          exact ⟨k + 1, by omega, by go_num, by rw [HT.out]; exact hJ3, (HLk.out.drewN nq).keep HK.out sR sG, HK.out.cell sB HK0.out⟩
        case measure => simp [intOf]; omega
      · gi_wp2
        refine bodyPost_ret (results_none rfl _ _ _) rfl ?_
        exact ⟨⟨_, rfl⟩, .inr ⟨_, HPr.out, hJx3⟩⟩
    · gi_wp2
      go_end0
      obtain rfl : k = held := by omega
      exact ⟨⟨_, rfl⟩, .inl ⟨_, rfl, by have := HJk.out; rwa [cont_full] at this⟩⟩

theorem things_stops (n : Nat) {Bn R G room first held : Nat} {L : Nat → Th} {S : Nat → Prop} (sB : S Bn) (sR : S R) (sG : S G) (w : World)
    (hb : w.cell? ⟨Bn, 0, none⟩ = some (.pointer (some ⟨R, 0, none⟩))) (hL : RC w R G room first held L) :
    SeqP Fence.wide n Tryz.prog 96 #[.pointer (some ⟨Bn, 0, none⟩)] (fun x : Th => #[tv x]) (Ch []) (Keep S) (fun ys _ => ys = cont held L) (fun pre => pre <+: cont held L) w := fun l J Jx W hW hJ hY h0 =>
  things1_in n l Bn R G room first held L S sB sR sG J Jx hJ hY W ((hW.cell (p := ⟨Bn, 0, none⟩) (cell_lt hb)).trans hb) (hL.same (hW.block R (cell_lt hL.c0)) (hW.block G (cell_lt (hL.cs 0 (by have := hL.r1; omega))))) h0
end Go.Proofs.YtjoaigadlpndcaaGreatDoor.rC
namespace Go.Proofs.YtjoaigadlpndcaaGreatDoor.rC
open Go.RowKit Go.Shelf

attribute [local go_sem] Oper.semAt_some

/-- Things, cell by cell. -/
def flat (l : List Th) : List Value := l.flatMap fun x => [.int .i64 x.1, .int .i64 x.2]
theorem flat_len (l : List Th) : (flat l).length = l.length * 2 := by
  induction l with
  | nil => rfl
  | cons a t ih => rw [flat, List.flatMap_cons, List.length_append, show (t.flatMap fun x => [Value.int .i64 x.1, .int .i64 x.2]) = flat t from rfl, ih]; simp; omega
theorem flat_snoc (l : List Th) (x : Th) : flat (l ++ [x]) = flat l ++ [.int .i64 x.1, .int .i64 x.2] := by simp [flat]
theorem flat_at (l : List Th) (k : Nat) (x : Th) (h : l[k]? = some x) : (flat l)[k * 2]? = some (.int .i64 x.1) ∧ (flat l)[k * 2 + 1]? = some (.int .i64 x.2) := flat2_at (fun x : Th => .int .i64 x.1) (fun x : Th => .int .i64 x.2) l k x h
/-- The two cells of a block that holds a thing. -/
theorem cells_two {W : World} {b : Nat} {u v : Value} {t : TypeId} (h : W.heap[b]? = some (.cells #[u, v] t)) : W.cell? ⟨b, 0, none⟩ = some u ∧ W.cell? ⟨b, 1, none⟩ = some v := by
  constructor <;> simp [World.cell?, h]
/-- A thing's block. -/
def objT (x : Th) : Obj := .cells #[.int .i64 x.1, .int .i64 x.2] 102

theorem chain_keep {S : Nat → Prop} {W w1 : World} {o : Obj} {row : Option Nat} (hg : (W.alloc o).grownBy w1 row) (hr : ∀ r, row = some r → ¬ S r) {B : Nat} (hB : ¬ S B) (v : Value) : Keep S W (w1.setCell ⟨B, 0, none⟩ v) := fun k x hs hk _ => by
  have hlt := (Array.getElem?_eq_some_iff.1 hk).1
  refine (Below.heap_setCell _ _ _ _ (fun e => hB (by have e2 : k = B := e; rw [← e2]; exact hs))).trans ((hg.block k (by simp; omega) (fun e => hr k e.symm hs)).trans ((Below.heap_alloc _ _ _ hlt).trans hk))

set_option maxRecDepth 100000 in
set_option maxHeartbeats 2000000 in
theorem list_in (n : Nat) (R G room first held : Nat) (L : Nat → Th) (w : World) (hL : RC w R G room first held L) :
    CallsIn Fence.wide (n + 6) Tryz.prog 77 #[.pointer (some ⟨R, 0, none⟩)] w fun e W' =>
      ∃ v, e = .returned v ∧ W'.ownsRow w.heap.size 102 2 v held (flat (cont held L)) ∧ Below w.heap.size w W' := by
  have hr0 := hL.hr
  have hr2 := hL.r2
  have h256 : held ≤ 256 := by omega
  have hRl : R < w.heap.size := cell_lt hL.c0
  have hGl : G < w.heap.size := cell_lt (hL.cs 0 (by have := hL.r1; omega))
  have HL := Lib.hid hL
  have HLen := Lib.hid (len_any hL)
  have HCl := Lib.hid (cont_len held L)
  clear hL hr0 hr2
  have hw : ∀ f, Fence.wide.fn f := fun _ => trivial
  have hd : Fence.wide.depth = none := rfl
  have h1 : 1 ≤ n + 6 := by omega
  obtain ⟨i0, hi, hz0, hz1, hz2⟩ := info_parts infoE
  refine callsIn_of_wp_marks Tryz.func77 rfl trivial ?_ rfl
  simp only [Tryz.ntmps77, List.size_toArray, List.length_cons, List.length_nil, Nat.reduceAdd, Nat.reduceSub, Array.replicate_succ, Array.replicate_zero, List.push_toArray, List.append_toArray, List.nil_append, List.cons_append]
  gi_wp2_with (first | (gi_at_call 67; refine (callsIn_wide.2 HLen.out).mono ?_; rintro e w' ⟨rfl, rfl⟩) | (gi_at_make; refine wpListIn_make_own _ rfl _ _ 115 rfl w.heap.size 102 i0 zT 2 Tryz.underlying115 hi hz0 hz1 _ _ _ held rfl rfl rfl (by rw [hz2]; omega) (by unfold maxLen; omega) (Nat.le_refl _) ?_; intro w1 hown hgrow) | (gi_at_call 88; refine (things_in _ _ _).mono ?_; rintro e w' ⟨rfl, rfl⟩))
  have hB1 : Below w.heap.size w w1 := (Below.refl _ _).grown hgrow (Nat.le_refl _) (fun k e => by cases e)
  obtain ⟨B, hB⟩ : ∃ B, B = w1.heap.size := ⟨_, rfl⟩
  have bO := Boxed.new w1 115 (.slice (some ⟨w.heap.size, 0, none⟩) 0 held)
  have bN := Boxed.new (w1.alloc (.cells #[.slice (some ⟨w.heap.size, 0, none⟩) 0 held] 115)) 98 (.pointer (some ⟨R, 0, none⟩))
  rw [World.size_alloc] at bN
  have hB0 : Below w.heap.size w ((w1.alloc (.cells #[.slice (some ⟨w.heap.size, 0, none⟩) 0 held] 115)).alloc (.cells #[.pointer (some ⟨R, 0, none⟩)] 98)) := (hB1.alloc hB1.size _).alloc (by have := hB1.size; simp; omega) _
  have bO2 := bO.alloc (.cells #[.pointer (some ⟨R, 0, none⟩)] 98)
  have hown2 := (hown.alloc (.cells #[.slice (some ⟨w.heap.size, 0, none⟩) 0 held] 115)).alloc (.cells #[.pointer (some ⟨R, 0, none⟩)] 98)
  have hsz : ((w1.alloc (.cells #[.slice (some ⟨w.heap.size, 0, none⟩) 0 held] 115)).alloc (.cells #[.pointer (some ⟨R, 0, none⟩)] 98)).heap.size = w1.heap.size + 1 + 1 := by simp
  have hs1 := hB1.size
  have hL0 := HL.out.same (hB0.block R hRl) (hB0.block G hGl)
  rw [← hB] at bO2 bN hsz hs1 ⊢
  obtain ⟨W0, hW0⟩ : ∃ W0, ((w1.alloc (.cells #[.slice (some ⟨w.heap.size, 0, none⟩) 0 held] 115)).alloc (.cells #[.pointer (some ⟨R, 0, none⟩)] 98)) = W0 := ⟨_, rfl⟩
  rw [hW0] at bO2 bN hB0 hL0 hown2 hsz ⊢
  clear hW0 hB bO hB1 hown hgrow
  have HC2 := Lib.hid (fun (x : Th) => show (objT x).isCells = true from rfl)
  refine wpIn_range_x rfl h1 (gf := 96) (lb := #[.pointer (some ⟨B + 1, 0, none⟩)]) rfl trivial (enters_of Tryz.func96 (by kernel_rfl) rfl)
    (ownFrom_pure _ _) (things_stops (n + 6 - 1) (S := fun k => k = B + 1 ∨ k = R ∨ k = G) (.inl rfl) (.inr (.inl rfl)) (.inr (.inr rfl)) W0 bN.cell hL0)
    (fun A B' hAB k o hk _ _ => (hAB.block k (Array.getElem?_eq_some_iff.1 hk).1 (by simp)).trans hk)
    (fun h k => h.trans k) (fun W l o o' _ ho hc _ _ => Keep.put W l o o' ho hc) (fun _ => rfl)
    (fun pre W => ((∃ v, Boxed W B 115 v ∧ W.ownsRow w.heap.size 102 2 v pre.length (flat pre) ∧ True) ∧ Boxed W (B + 1) 98 (.pointer (some ⟨R, 0, none⟩))) ∧ Below w.heap.size w W)
    (fun _ _ _ => False)
    (OwnFrom.and (OwnFrom.and (Own.from (holdsRow_own w.heap.size B 115 102 2 (fun pre : List Th => pre.length) (fun pre => flat pre) (fun _ _ => True)) _) (Own.from (boxed_own (B + 1) 98 (fun _ : List Th => .pointer (some ⟨R, 0, none⟩))) _)) (ownFrom_below (Nat.le_refl _) (by omega)))
    ?sta (fun _ _ _ _ _ hs _ _ => hs)
    ⟨⟨⟨_, bO2, hown2, trivial⟩, bN⟩, hB0⟩ objT (fun W x => Keep.alloc W _) HC2.out
    (fun x b => { tmps := #[.pointer (some ⟨R, 0, none⟩), undef, .slice none 0 0, .pointer (some ⟨B, 0, none⟩), .pointer (some ⟨b, 0, none⟩), .pointer (some ⟨R, 0, none⟩), .int .i64 (held : Int), .slice (some ⟨w.heap.size, 0, none⟩) 0 held, .pointer (some ⟨R, 0, none⟩), .func (.func 96) #[] #[.pointer (some ⟨B + 1, 0, none⟩)], tv x, undef, undef, undef, undef, undef], defers := [] }) ?assign ?body ?done ?stop
  case sta =>
    rintro s A B' ⟨⟨⟨v, hv, hrow, _⟩, hb⟩, hB⟩ hc
    exact ⟨⟨⟨v, hv.kept hc.grown0 (by simp), own_ch hrow hc (by simp), trivial⟩, hb.kept hc.grown0 (by simp)⟩, hB.trans ((hc.below _ (fun k hk => by simp at hk) hB.size))⟩
  case assign =>
    intro l x W K hK
    unfold objT at hK
    unfold tv
    gi_wp2
    exact hK
  case body =>
    rintro l pre x b W ⟨⟨⟨v, hv, hrow, _⟩, hb⟩, hB⟩ hlt hbo hbx
    have hlen : pre.length + 1 ≤ 256 := by
      have := hlt.length_le
      rw [HCl.out] at this
      simp at this
      omega
    have hc := hv.cell
    obtain ⟨x0, x1⟩ := cells_two hbx
    unfold tv
    gi_wp2_with (gi_at_builtin; refine wpListIn_append_own _ rfl _ _ 115 rfl w.heap.size 102 i0 zT 2 16 Tryz.underlying115 hi hz0 hz1 hz2 rfl (by decide) _ _ _ rfl (hrow.alloc _) ⟨W.heap.size, 0, none⟩ 1 1 [.int .i64 x.1, .int .i64 x.2] rfl rfl (cell_two_new _ _ _ _) (by simp [Value.oneCell']) (by unfold maxLen; omega) (by omega) (by have := hB.size; simp; omega) ?_; intro v' w1 hown' hgrow _; obtain ⟨g', cap', rfl⟩ := ownsRow_succ hown'; obtain ⟨hv1, hv2, hr2, hk2, hb2⟩ := hv.appended (by decide) hrow hB.size (by omega) hown' hgrow; have hc1 := hv1.cell; have hf1 := hv1.frozen)
    have hbx := ((hb.alloc (.cells #[.int .i64 x.1, .int .i64 x.2] 102)).kept hgrow (hb.not_row (by decide) hrow)).other (show B + 1 ≠ B by omega) (.slice (some ⟨g', 0, none⟩) (pre.length + 1) cap')
    have hg2 : (W.alloc (.cells #[.int .i64 x.1, .int .i64 x.2] 102)).grownBy w1 v.ownBlock := hgrow
    refine ⟨hk2.from _, chain_keep hg2 (fun r e => ?_) (by omega) _, ⟨⟨_, hv2, by rw [flat_snoc]; simpa using hr2, trivial⟩, hbx⟩, hB.trans hb2⟩
    have hlo := (hrow.lt r e).1
    have hne := hb.not_row (by decide) hrow
    rw [e] at hne
    simp at hne
    omega
  case done =>
    rintro D ys W hD rfl ⟨⟨⟨v, hv, hrow, _⟩, hb⟩, hB⟩ hK
    rw [HCl.out] at hrow
    have hc := hv.cell
    gi_wp2
    refine ⟨by simp, .inl ⟨_, _, rfl, run_takeDeferred hK, ?_⟩⟩
    exact ⟨_, results_tmp rfl _ _ _, v, rfl, ownsRow_putObj hrow _ hK rfl, hB.trans (belowK_b (w := w) (Nat.le_refl _) W D _ _ (by omega) hK rfl rfl)⟩
  case stop =>
    rintro D c pre W _ _ h _
    exact h.elim

/-- The ring in the blocks R and G as a list. -/
theorem RL.same {w w' : World} {R G room : Nat} {xs : List Th} (h : RL w R G room xs) (hR : w'.heap[R]? = w.heap[R]?) (hG : w'.heap[G]? = w.heap[G]?) : RL w' R G room xs := by
  obtain ⟨first, L, h, hL⟩ := h
  exact ⟨first, L, h.same hR hG, hL⟩
theorem RL.keep {S : Nat → Prop} {w w' : World} {R G room : Nat} {xs : List Th} (h : RL w R G room xs) (hk : Keep S w w') (hR : S R) (hG : S G) : RL w' R G room xs := by
  obtain ⟨first, L, h, hL⟩ := h
  exact ⟨first, L, h.keep hk hR hG, hL⟩
theorem cont_eq {L : Nat → Th} {xs : List Th} (h : ∀ j, j < xs.length → L j = xs[j]?.getD (0, 0)) : cont xs.length L = xs := by
  apply List.ext_getElem (by simp [cont])
  intro i h1 h2
  simp [cont, h i h2, h2]
theorem list_l {w : World} {R G room : Nat} {xs : List Th} (h : RL w R G room xs) :
    Calls Tryz.prog 77 #[.pointer (some ⟨R, 0, none⟩)] w fun e W' =>
      ∃ v, e = .returned v ∧ W'.ownsRow w.heap.size 102 2 v xs.length (flat xs) ∧ Below w.heap.size w W' := by
  obtain ⟨first, L, h, hL⟩ := h
  have := callsIn_wide.1 (list_in 0 R G room first xs.length L w h)
  rw [cont_eq hL] at this
  exact this
theorem at0_l {w : World} {R G room : Nat} {x : Th} {xs : List Th} (h : RL w R G room (x :: xs)) :
    Calls Tryz.prog 94 #[.pointer (some ⟨R, 0, none⟩), .int .i64 0] w fun e w' => e = .returned (.tuple #[.agg #[.int .i64 x.1, .int .i64 x.2], .bool true]) ∧ Ch [] w w' := by
  obtain ⟨first, L, h, hL⟩ := h
  have h0 : L 0 = x := hL 0 (by simp)
  have := at_some h 0 (by simp)
  rw [h0] at this
  exact this
theorem at0_out {w : World} {R G room : Nat} (h : RL w R G room []) :
    Calls Tryz.prog 94 #[.pointer (some ⟨R, 0, none⟩), .int .i64 0] w fun e w' => e = .returned (.tuple #[.agg #[.int .i64 0, .int .i64 0], .bool false]) ∧ Ch [] w w' := by
  obtain ⟨first, L, h, hL⟩ := h
  exact at_none h
end Go.Proofs.YtjoaigadlpndcaaGreatDoor.rC
