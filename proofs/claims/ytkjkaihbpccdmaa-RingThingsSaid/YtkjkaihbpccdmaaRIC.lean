/-
  Contracts of a ring of int: Take, Pop.
-/
import Derived.RegionTactic
import Derived.BigRegion
import Derived.Test.YtkjkaihbpccdmaaRIB
namespace Go.Proofs.Ytkjkaihbpccdmaa.rI
open Go.RowKit

attribute [local go_sem] Oper.semAt_some

def upd (L : Nat → Int) (j : Nat) (v : Int) : Nat → Int := fun x => if x = j then v else L x
/-- What stands where, when those from k on up to i have moved up. -/
def shiftTo (L : Nat → Int) (k i : Nat) : Nat → Int := fun j => if k < j ∧ j ≤ i then L (j - 1) else L j
/-- One place on. -/
def rot (room : Nat) (L : Nat → Int) : Nat → Int := fun j => if j + 1 < room then L (j + 1) else L 0

theorem shift_start (L : Nat → Int) (i : Nat) : shiftTo L i i = L := by
  funext j; unfold shiftTo; rw [if_neg (by omega)]
theorem shift_at (L : Nat → Int) (k i : Nat) : shiftTo L (k + 1) i k = L k := by
  unfold shiftTo; rw [if_neg (by omega)]
theorem shift_step (L : Nat → Int) (k i : Nat) (h : k + 1 ≤ i) : upd (shiftTo L (k + 1) i) (k + 1) (L k) = shiftTo L k i := by
  funext j
  unfold upd shiftTo
  by_cases e : j = k + 1
  · subst e; rw [if_pos rfl, if_pos (by omega)]; simp
  · rw [if_neg e]
    by_cases e2 : k + 1 < j ∧ j ≤ i
    · rw [if_pos e2, if_pos (by omega)]
    · rw [if_neg e2, if_neg (by omega)]

theorem RC.set {w : World} {R G room first held : Nat} {L : Nat → Int} (h : RC w R G room first held L) (j : Nat) (hj : j < room) (v : Int) :
    RC (w.setCell ⟨G, at' room first j, none⟩ (.int .i64 v)) R G room first held (upd L j v) := by
  have hn : ∀ a b : Nat, (⟨G, a, none⟩ : Addr) ≠ ⟨R, b, none⟩ := fun a b => addr_ne_block (Ne.symm h.ne)
  refine ⟨h.ne, h.r1, h.r2, h.fr, h.hr, setCell_other h.c0 (hn _ _), setCell_other h.c1 (hn _ _), setCell_other h.c2 (hn _ _), by simpa using h.f1, by simpa using h.f2, fun k hk => ?_, fun k hk => by simpa using h.fs k hk⟩
  unfold upd
  by_cases e : k = j
  · subst e; rw [if_pos rfl]; exact setCell_same (h.cs k hk)
  · rw [if_neg e]; exact setCell_other (h.cs k hk) (addr_ne_off (fun h2 => e (at_inj h.fr hk hj h2.symm)))

theorem RC.turn {w : World} {R G room first held : Nat} {L : Nat → Int} (h : RC w R G room first (held + 1) L) :
    RC ((w.setCell ⟨R, 1, none⟩ (.int .i64 ((at' room first 1 : Nat) : Int))).setCell ⟨R, 2, none⟩ (.int .i64 (held : Int))) R G room (at' room first 1) held (rot room L) := by
  have hn : ∀ a b : Nat, (⟨R, a, none⟩ : Addr) ≠ ⟨G, b, none⟩ := fun a b => addr_ne_block h.ne
  have hr := h.hr
  have key : ∀ j, j < room → ∃ k, k < room ∧ at' room (at' room first 1) j = at' room first k ∧ rot room L j = L k := fun j hj => by
    by_cases e : j + 1 < room
    · exact ⟨j + 1, e, at_next h.fr e, by unfold rot; rw [if_pos e]⟩
    · obtain rfl : j = room - 1 := by omega
      exact ⟨0, by omega, at_last h.fr, by unfold rot; rw [if_neg e]⟩
  refine ⟨h.ne, h.r1, h.r2, at_lt h.r1, by omega, ?_, ?_, ?_, by simpa using h.f1, by simpa using h.f2, fun j hj => ?_, fun j hj => ?_⟩
  · exact setCell_other (setCell_other h.c0 (addr_ne_off (by decide))) (addr_ne_off (by decide))
  · exact setCell_other (setCell_same h.c1) (addr_ne_off (by decide))
  · exact setCell_same (setCell_other h.c2 (addr_ne_off (by decide)))
  · obtain ⟨k, hk, e, e2⟩ := key j hj
    rw [e, e2]
    exact setCell_other (setCell_other (h.cs k hk) (hn _ _)) (hn _ _)
  · obtain ⟨k, hk, e, _⟩ := key j hj
    rw [e]
    simpa using h.fs k hk

theorem place_at {w : World} {R G room first held : Nat} {L : Nat → Int} (h : RC w R G room first held L) (x : Int) (i : Nat) (hx : x = (i : Int)) (hi : i < room) :
    Calls Try.prog 27 #[.pointer (some ⟨R, 0, none⟩), .int .i64 x] w fun e w' => e = .returned (.pointer (some ⟨G, at' room first i, none⟩)) ∧ ∃ n, w' = w.drewN n := by
  subst hx; exact place_any h i hi

theorem take_none {w : World} {R G room first held : Nat} {L : Nat → Int} (h : RC w R G room first held L) (i : Int) (hi : i < 0 ∨ (held : Int) ≤ i) :
    Calls Try.prog 13 #[.pointer (some ⟨R, 0, none⟩), .int .i64 i] w fun e w' => e = .returned (.tuple #[.int .i64 0, .bool false]) ∧ w = w' := by
  have HA := Lib.hid (at_none h i hi)
  clear h hi
  go_enter Try.func13, Try.ntmps13
  go_wp2_with (go_at_call 14; refine HA.out.mono ?_; rintro e w' ⟨rfl, rfl⟩)
  go_ret2
  exact ⟨rfl, rfl⟩
theorem take_nil (w : World) (i : Int) :
    Calls Try.prog 13 #[.pointer none, .int .i64 i] w fun e w' => e = .returned (.tuple #[.int .i64 0, .bool false]) ∧ w = w' := by
  have HA := Lib.hid (at_nil w i)
  go_enter Try.func13, Try.ntmps13
  go_wp2_with (go_at_call 14; refine HA.out.mono ?_; rintro e w' ⟨rfl, rfl⟩)
  go_ret2
  exact ⟨rfl, rfl⟩

set_option maxHeartbeats 1000000 in
theorem take_some {w : World} {R G room first held : Nat} {L : Nat → Int} (h : RC w R G room first (held + 1) L) (i : Nat) (hi : i < held + 1) :
    Calls Try.prog 13 #[.pointer (some ⟨R, 0, none⟩), .int .i64 (i : Int)] w fun e w' =>
      e = .returned (.tuple #[.int .i64 (L i), .bool true]) ∧ RC w' R G room (at' room first 1) held (rot room (upd (shiftTo L 0 i) 0 0)) ∧ Ch [R, G] w w' := by
  have hr := h.hr
  have r2 := h.r2
  have HA := Lib.hid (at_some h i hi)
  have HR := Lib.hid h
  obtain ⟨v, hv⟩ : ∃ v, v = L i := ⟨_, rfl⟩
  rw [← hv] at HA ⊢
  clear h hv
  go_enter Try.func13, Try.ntmps13
  go_wp2_with (go_at_call 14; refine HA.out.mono ?_; rintro e w' ⟨rfl, nq, rfl⟩)
  go_loopw [1] (fun x wr => ∃ k : Nat, k ≤ i ∧ x = .int .i64 (k : Int) ∧ RC wr R G room first (held + 1) (shiftTo L k i) ∧ Ch [R, G] w wr) (fun x _ => (intOf x).toNat)
  case atStart => exact ⟨i, Nat.le_refl _, rfl, by rw [shift_start]; exact HR.out.drewN _, (Ch.refl _ _).drewN _⟩
  case round =>
    obtain ⟨k, hk, rfl, hRC, hCh⟩ := hrel
    have HRC := Lib.hid hRC
    have HCh := Lib.hid hCh
    clear hRC hCh
    cases k with
    | zero =>
      go_wp2_with fail
      refine (place_at HRC.out _ 0 (by omega) (by omega)).mono ?_
      rintro e w1 ⟨rfl, n1, rfl⟩
      have hc0 := HRC.out.cs 0 (by omega)
      have hf0 := HRC.out.fs 0 (by omega)
      go_wp2_with fail
      have H2 := (HRC.out.drewN n1).set 0 (by omega) 0
      have C2 := (HCh.out.drewN n1).setCell (p := ⟨G, at' room first 0, none⟩) (by simp) (.int .i64 0)
      generalize (wr.drewN n1).setCell ⟨G, at' room first 0, none⟩ (.int .i64 0) = w2 at *
      have HT := Lib.hid H2.turn
      have HC2 := Lib.hid C2
      have c0 := H2.c0
      have c1 := H2.c1
      have c2 := H2.c2
      have f1 := H2.f1
      have f2 := H2.f2
      have hfr := H2.fr
      clear H2 C2 hc0 hf0
      have hm : (((first : Int) + 1).tmod (room : Int)) = ((at' room first 1 : Nat) : Int) := by
        rw [Int.tmod_eq_emod_of_nonneg (by omega)]; unfold at'; rw [Int.natCast_emod, Int.natCast_add]; rfl
      have ha : at' room first 1 < room := at_lt (by omega)
      obtain ⟨a, e⟩ : ∃ a, a = at' room first 1 := ⟨_, rfl⟩
      rw [← e] at hm ha
      have HE := Lib.hid e
      clear e
      have hs : IntKind.i64.wrap ((first : Int) + 1) = (first : Int) + 1 := IntWalk.i64_in _ (by omega)
      have hn : ((room : Int) == 0) = false := by simp; omega
      have hn2 : (room : Int) ≠ 0 := by omega
      have hw : IntKind.i64.wrap (a : Int) = (a : Int) := IntWalk.i64_in _ (by omega)
      go_region
      have hsub : (0 : Int) ≤ (held : Int) := by omega
      go_wp2
      go_ret2
      refine ⟨rfl, ?_, ?_⟩
      · have := HT.out
        rw [← HE.out] at this ⊢
        exact this.drewN 1
      · exact ((HC2.out.setCell (p := ⟨R, 1, none⟩) (by simp) _).setCell (p := ⟨R, 2, none⟩) (by simp) _).drewN 1
    | succ j =>
      have hc1 := HRC.out.cs (j + 1) (by omega)
      have hf1 := HRC.out.fs (j + 1) (by omega)
      have hc0 := HRC.out.cs j (by omega)
      rw [shift_at] at hc0
      have hd : decide ((0 : Int) < ((j + 1 : Nat) : Int)) = true := by simp
      go_wp2_with fail
      refine (place_at HRC.out _ (j + 1) (by omega) (by omega)).mono ?_
      rintro e w1 ⟨rfl, n1, rfl⟩
      go_wp2_with fail
      refine (place_at (HRC.out.drewN _) _ j (by omega) (by omega)).mono ?_
      rintro e w1 ⟨rfl, n2, rfl⟩
      go_wp2
      go_roundw
      case rel => exact ⟨j, by omega, rfl, by rw [← shift_step L j i (by omega)]; exact (HRC.out.set (j + 1) (by omega) _).drewN _, (HCh.out.setCell (p := ⟨G, _, none⟩) (by simp) _).drewN _⟩
      case measure => simp [intOf]

theorem pop_nil (w : World) :
    Calls Try.prog 12 #[.pointer none] w fun e w' => e = .returned (.tuple #[.int .i64 0, .bool false]) ∧ w = w' := by
  have HA := Lib.hid (take_nil w 0)
  go_enter Try.func12, Try.ntmps12
  go_wp2_with (go_at_call 13; refine HA.out.mono ?_; rintro e w' ⟨rfl, rfl⟩)
  go_ret2
  exact ⟨rfl, rfl⟩
theorem pop_none {w : World} {R G room first : Nat} {L : Nat → Int} (h : RC w R G room first 0 L) :
    Calls Try.prog 12 #[.pointer (some ⟨R, 0, none⟩)] w fun e w' => e = .returned (.tuple #[.int .i64 0, .bool false]) ∧ w = w' := by
  have HA := Lib.hid (take_none h 0 (.inr (by simp)))
  clear h
  go_enter Try.func12, Try.ntmps12
  go_wp2_with (go_at_call 13; refine HA.out.mono ?_; rintro e w' ⟨rfl, rfl⟩)
  go_ret2
  exact ⟨rfl, rfl⟩
theorem pop_some {w : World} {R G room first held : Nat} {L : Nat → Int} (h : RC w R G room first (held + 1) L) :
    Calls Try.prog 12 #[.pointer (some ⟨R, 0, none⟩)] w fun e w' =>
      e = .returned (.tuple #[.int .i64 (L 0), .bool true]) ∧ RC w' R G room (at' room first 1) held (rot room (upd L 0 0)) ∧ Ch [R, G] w w' := by
  have hT := take_some h 0 (by omega)
  rw [shift_start] at hT
  have HT := Lib.hid hT
  clear h hT
  generalize L 0 = v at HT ⊢
  go_enter Try.func12, Try.ntmps12
  go_wp2_with (go_at_call 13; refine HT.out.mono ?_; rintro e w' ⟨rfl, hr1, hr2⟩)
  go_ret2
  exact ⟨rfl, hr1, hr2⟩
end Go.Proofs.Ytkjkaihbpccdmaa.rI
