/-
  Contracts of a ring of things of two parts: Take of the first, Pop.
-/
import Derived.RegionTactic
import Derived.BigRegion
import Derived.Deep.RegionWith
import Derived.Test.YtnnliimjemmekaaRgB
namespace Go.Proofs.Ytnnliimjemmekaa.rC
open Go.RowKit

attribute [local go_sem] Oper.semAt_some

def upd (L : Nat → Th) (j : Nat) (v : Th) : Nat → Th := fun x => if x = j then v else L x
/-- One place on. -/
def rot (room : Nat) (L : Nat → Th) : Nat → Th := fun j => if j + 1 < room then L (j + 1) else L 0

theorem off_ne {a b : Nat} : a * 2 ≠ b * 2 + 1 := by omega
theorem RC.set {w : World} {R G room first held : Nat} {L : Nat → Th} (h : RC w R G room first held L) (j : Nat) (hj : j < room) (v : Th) :
    RC ((w.setCell ⟨G, at' room first j * 2, none⟩ (.int .i64 v.1)).setCell ⟨G, at' room first j * 2 + 1, none⟩ (.int .i64 v.2)) R G room first held (upd L j v) := by
  have hn : ∀ a b : Nat, (⟨G, a, none⟩ : Addr) ≠ ⟨R, b, none⟩ := fun a b => addr_ne_block (Ne.symm h.ne)
  have hi : ∀ k, k < room → k ≠ j → at' room first j ≠ at' room first k := fun k hk e h2 => e (at_inj h.fr hk hj h2.symm)
  refine ⟨h.ne, h.r1, h.r2, h.fr, h.hr, setCell_other (setCell_other h.c0 (hn _ _)) (hn _ _), setCell_other (setCell_other h.c1 (hn _ _)) (hn _ _), setCell_other (setCell_other h.c2 (hn _ _)) (hn _ _), by simpa using h.f1, by simpa using h.f2, fun k hk => ?_, fun k hk => ?_, fun k hk => by simpa using h.fs k hk, fun k hk => by simpa using h.ft k hk⟩
  · unfold upd
    by_cases e : k = j
    · subst e; rw [if_pos rfl]; exact setCell_other (setCell_same (h.cs k hk)) (addr_ne_off (Ne.symm off_ne))
    · have := hi k hk e
      rw [if_neg e]; exact setCell_other (setCell_other (h.cs k hk) (addr_ne_off (by omega))) (addr_ne_off (Ne.symm off_ne))
  · unfold upd
    by_cases e : k = j
    · subst e; rw [if_pos rfl]; exact setCell_same (setCell_other (h.ct k hk) (addr_ne_off off_ne))
    · have := hi k hk e
      rw [if_neg e]; exact setCell_other (setCell_other (h.ct k hk) (addr_ne_off off_ne)) (addr_ne_off (by omega))

theorem RC.turn {w : World} {R G room first held : Nat} {L : Nat → Th} (h : RC w R G room first (held + 1) L) :
    RC ((w.setCell ⟨R, 1, none⟩ (.int .i64 ((at' room first 1 : Nat) : Int))).setCell ⟨R, 2, none⟩ (.int .i64 (held : Int))) R G room (at' room first 1) held (rot room L) := by
  have hn : ∀ a b : Nat, (⟨R, a, none⟩ : Addr) ≠ ⟨G, b, none⟩ := fun a b => addr_ne_block h.ne
  have hr := h.hr
  have key : ∀ j, j < room → ∃ k, k < room ∧ at' room (at' room first 1) j = at' room first k ∧ rot room L j = L k := fun j hj => by
    by_cases e : j + 1 < room
    · exact ⟨j + 1, e, at_next h.fr e, by unfold rot; rw [if_pos e]⟩
    · obtain rfl : j = room - 1 := by omega
      exact ⟨0, by omega, at_last h.fr, by unfold rot; rw [if_neg e]⟩
  refine ⟨h.ne, h.r1, h.r2, at_lt h.r1, by omega, ?_, ?_, ?_, by simpa using h.f1, by simpa using h.f2, fun j hj => ?_, fun j hj => ?_, fun j hj => ?_, fun j hj => ?_⟩
  · exact setCell_other (setCell_other h.c0 (addr_ne_off (by decide))) (addr_ne_off (by decide))
  · exact setCell_other (setCell_same h.c1) (addr_ne_off (by decide))
  · exact setCell_same (setCell_other h.c2 (addr_ne_off (by decide)))
  · obtain ⟨k, hk, e, e2⟩ := key j hj
    rw [e, e2]
    exact setCell_other (setCell_other (h.cs k hk) (hn _ _)) (hn _ _)
  · obtain ⟨k, hk, e, e2⟩ := key j hj
    rw [e, e2]
    exact setCell_other (setCell_other (h.ct k hk) (hn _ _)) (hn _ _)
  · obtain ⟨k, hk, e, _⟩ := key j hj
    rw [e]
    simpa using h.fs k hk
  · obtain ⟨k, hk, e, _⟩ := key j hj
    rw [e]
    simpa using h.ft k hk

set_option maxHeartbeats 1000000 in
theorem take_some {w : World} {R G room first held : Nat} {L : Nat → Th} (h : RC w R G room first (held + 1) L) :
    Calls Try.prog 38 #[.pointer (some ⟨R, 0, none⟩), .int .i64 0] w fun e w' =>
      e = .returned (.tuple #[.agg #[.int .i64 (L 0).1, .int .i64 (L 0).2], .bool true]) ∧ RC w' R G room (at' room first 1) held (rot room (upd L 0 (0, 0))) ∧ Ch [R, G] w w' := by
  have hbG : G < w.heap.size := cell_lt (h.cs 0 (by have := h.r1; omega))
  have hbR : R < w.heap.size := cell_lt h.c0
  have hB1 := (Box2.new w (.int .i64 0) (.int .i64 0) 51).alloc (.cells #[.int .i64 0, .int .i64 0] 51)
  have hB2 := Box2.new (w.alloc (.cells #[.int .i64 0, .int .i64 0] 51)) (.int .i64 0) (.int .i64 0) 51
  have hC1 := ((Ch.refl [] w).alloc (.cells #[.int .i64 0, .int .i64 0] 51)).alloc (.cells #[.int .i64 0, .int .i64 0] 51)
  rw [World.size_alloc] at hB2
  have HR1 := Lib.hid (h.ch hC1 (by simp) (by simp))
  have HR := Lib.hid h
  have HB1 := Lib.hid hB1
  have HB2 := Lib.hid hB2
  have HC1 := Lib.hid hC1
  clear h hB1 hB2 hC1
  go_enter Try.func38, Try.ntmps38
  go_wp2_with fail
  generalize (w.alloc (.cells #[.int .i64 0, .int .i64 0] 51)).alloc (.cells #[.int .i64 0, .int .i64 0] 51) = w1 at *
  refine (at_some HR1.out 0 (by omega)).mono ?_
  rintro e w2 ⟨rfl, hc2⟩
  have HR2 := Lib.hid (HR1.out.ch hc2 (by simp) (by simp))
  have HC2 := Lib.hid (HC1.out.trans hc2)
  have HB1 := Lib.hid (HB1.out.ch hc2 (by simp))
  have HB2 := Lib.hid (HB2.out.ch hc2 (by simp))
  clear hc2 HR1 HC1
  go_wp2_with fail
  refine wp_loop_rounds 1 ?_
  rw [rounds_succ]
  go_wp2
  obtain ⟨x, hx⟩ : ∃ x, x = L 0 := ⟨_, rfl⟩
  rw [← hx]
  have HX := Lib.hid hx
  clear hx
  have HR3 := Lib.hid (HR2.out.ch ((Ch.refl [] w2).alloc (.cells #[.int .i64 x.1, .int .i64 x.2] 51)) (by simp) (by simp))
  have HC3 := Lib.hid (HC2.out.alloc (.cells #[.int .i64 x.1, .int .i64 x.2] 51))
  have HB3 := Lib.hid (Box2.new w2 (.int .i64 x.1) (.int .i64 x.2) 51)
  have HA1 := Lib.hid (HB1.out.alloc (.cells #[.int .i64 x.1, .int .i64 x.2] 51))
  have HA2 := Lib.hid (HB2.out.alloc (.cells #[.int .i64 x.1, .int .i64 x.2] 51))
  obtain ⟨T, hT⟩ : ∃ T, T = w2.heap.size := ⟨_, rfl⟩
  have HTl := Lib.hid (show w.heap.size < T by rw [hT]; exact HB1.out.lt)
  have HTr := Lib.hid (show w.heap.size + 1 < T by rw [hT]; exact HB2.out.lt)
  rw [← hT] at HB3 ⊢
  clear hT HB1 HB2 HC2 HR2
  generalize w2.alloc (.cells #[.int .i64 x.1, .int .i64 x.2] 51) = w3 at *
  have k0 := HA2.out.c0
  have k1 := HA2.out.c1
  have g0 := HR3.out.cs 0 (by have := HR3.out.r1; omega)
  have g1 := HR3.out.ct 0 (by have := HR3.out.r1; omega)
  have q0 := HR3.out.fs 0 (by have := HR3.out.r1; omega)
  have q1 := HR3.out.ft 0 (by have := HR3.out.r1; omega)
  have hr1 := HR3.out.r1
  have HP : ∀ W : World, RC W R G room first (held + 1) L → Calls Try.prog 32 #[.pointer (some ⟨R, 0, none⟩), .int .i64 0] W fun e w' => e = .returned (.pointer (some ⟨G, at' room first 0 * 2, none⟩)) ∧ ∃ n, w' = W.drewN n := fun W hW => place_any hW 0 hr1
  have HP := Lib.hid HP
  go_region_with (go_at_call 32; refine (HP.out w3.drew (HR3.out.drewN 1)).mono ?_; rintro e w' ⟨rfl, nq, rfl⟩)
  all_goals
    have H4 := (HR3.out.drewN (1 + nq)).set 0 hr1 (0, 0)
    have hC4 := ((HC3.out.mono (T := [R, G]) (by simp)).drewN (1 + nq)).setCell (p := ⟨G, at' room first 0 * 2, none⟩) (by simp) (.int .i64 0) |>.setCell (p := ⟨G, at' room first 0 * 2 + 1, none⟩) (by simp) (.int .i64 0)
    have hcS := ((Ch.refl [G] w3).drewN (1 + nq)).setCell (p := ⟨G, at' room first 0 * 2, none⟩) (by simp) (.int .i64 0) |>.setCell (p := ⟨G, at' room first 0 * 2 + 1, none⟩) (by simp) (.int .i64 0)
    have hA4 := HA1.out.ch hcS (by simp; omega)
    have hT4 := HB3.out.ch hcS (by have := HTl.out; simp; omega)
    simp only at H4
    generalize ((w3.drewN (1 + nq)).setCell ⟨G, at' room first 0 * 2, none⟩ (.int .i64 0)).setCell ⟨G, at' room first 0 * 2 + 1, none⟩ (.int .i64 0) = w4 at *
    have HT := Lib.hid H4.turn
    have HC4 := Lib.hid hC4
    have HA4 := Lib.hid hA4
    have HT4 := Lib.hid hT4
    have c0 := H4.c0
    have c1 := H4.c1
    have c2 := H4.c2
    have f1 := H4.f1
    have f2 := H4.f2
    have hfr := H4.fr
    have hrm := H4.r2
    have hhr := H4.hr
    clear H4 hC4 hcS hA4 hT4 k0 k1 g0 g1 q0 q1 HA1 HA2 HB3 HR3 HC3
    have ha0 := HA4.out.c0
    have ha1 := HA4.out.c1
    have hb0 := HA4.out.f0
    have hb1 := HA4.out.f1
    have t0 := HT4.out.c0
    have t1 := HT4.out.c1
    have hm : (((first : Int) + 1).tmod (room : Int)) = ((at' room first 1 : Nat) : Int) := by
      rw [Int.tmod_eq_emod_of_nonneg (by omega)]; unfold at'; rw [Int.natCast_emod, Int.natCast_add]; rfl
    have ha : at' room first 1 < room := at_lt (by omega)
    obtain ⟨a, e⟩ : ∃ a, a = at' room first 1 := ⟨_, rfl⟩
    rw [← e] at hm ha
    have HE := Lib.hid e
    clear e
    have hs : IntKind.i64.wrap ((first : Int) + 1) = (first : Int) + 1 := IntWalk.i64_in _ (by omega)
    have hn : ((room : Int) == 0) = false := by simp; omega
    have hn2 : (room : Int) ≠ 0 := by omega
    have hw : IntKind.i64.wrap (a : Int) = (a : Int) := IntWalk.i64_in _ (by omega)
    have hSR : w.heap.size ≠ R := by omega
    have hTR : T ≠ R := by have := HTl.out; omega
    have hTS : T ≠ w.heap.size := by have := HTl.out; omega
    go_wp2_with fail
    go_region
    have hsub : (0 : Int) ≤ (held : Int) := by omega
    go_wp2
    have hc5 := ((Ch.refl [R] w4).setCell (p := ⟨R, 1, none⟩) (by simp) (.int .i64 (a : Int))).setCell (p := ⟨R, 2, none⟩) (by simp) (.int .i64 (held : Int))
    have hbx := (HA4.out.ch hc5 (by simp; exact hSR)).set (.int .i64 x.1) (.int .i64 x.2)
    have h5 := hbx.c0
    have h6 := hbx.c1
    have hTR := HT.out
    rw [← HE.out] at hTR
    have hc6 := (((Ch.refl [w.heap.size] ((w4.setCell ⟨R, 1, none⟩ (.int .i64 (a : Int))).setCell ⟨R, 2, none⟩ (.int .i64 (held : Int)))).setCell (p := ⟨w.heap.size, 0, none⟩) (by simp) (.int .i64 x.1)).setCell (p := ⟨w.heap.size, 1, none⟩) (by simp) (.int .i64 x.2)).drew
    have hR5 := hTR.ch hc6 (by simp; omega) (by simp; omega)
    have hc7 := (chSetNew (chSetNew ((HC4.out.setCell (p := ⟨R, 1, none⟩) (by simp) (.int .i64 (a : Int))).setCell (p := ⟨R, 2, none⟩) (by simp) (.int .i64 (held : Int))) (p := ⟨w.heap.size, 0, none⟩) (Nat.le_refl _) (.int .i64 x.1)) (p := ⟨w.heap.size, 1, none⟩) (Nat.le_refl _) (.int .i64 x.2)).drew
    refine bodyPost_ret (v := .tuple #[.agg #[.int .i64 x.1, .int .i64 x.2], .bool true]) ?_ rfl ?_
    · simp [results, Try.f38, go_sem, h5, h6]
    · exact ⟨by rw [HX.out], by rw [← HE.out]; exact hR5, hc7⟩

theorem take_none {w : World} {R G room first : Nat} {L : Nat → Th} (h : RC w R G room first 0 L) :
    Calls Try.prog 38 #[.pointer (some ⟨R, 0, none⟩), .int .i64 0] w fun e w' => e = .returned (.tuple #[.agg #[.int .i64 0, .int .i64 0], .bool false]) ∧ Ch [] w w' := by
  have hB1 := (Box2.new w (.int .i64 0) (.int .i64 0) 51).alloc (.cells #[.int .i64 0, .int .i64 0] 51)
  have hB2 := Box2.new (w.alloc (.cells #[.int .i64 0, .int .i64 0] 51)) (.int .i64 0) (.int .i64 0) 51
  have hC1 := ((Ch.refl [] w).alloc (.cells #[.int .i64 0, .int .i64 0] 51)).alloc (.cells #[.int .i64 0, .int .i64 0] 51)
  rw [World.size_alloc] at hB2
  have HA := Lib.hid (at_none (h.ch hC1 (by simp) (by simp)))
  have HB1 := Lib.hid hB1
  have HB2 := Lib.hid hB2
  have HC1 := Lib.hid hC1
  clear h hB1 hB2 hC1
  go_enter Try.func38, Try.ntmps38
  go_wp2_with fail
  refine HA.out.mono ?_
  rintro e w2 ⟨rfl, hc2⟩
  have HC2 := Lib.hid ((HC1.out.trans hc2).alloc (.cells #[.int .i64 0, .int .i64 0] 51))
  have hA2 := (HB1.out.ch hc2 (by simp)).alloc (.cells #[.int .i64 0, .int .i64 0] 51)
  have hA3 := (HB2.out.ch hc2 (by simp)).alloc (.cells #[.int .i64 0, .int .i64 0] 51)
  have HB := Lib.hid hA2
  obtain ⟨k0, k1, k2, k3⟩ := hA2
  obtain ⟨m0, m1, _, _⟩ := hA3
  clear hc2
  go_wp2
  have hbx := HB.out.set (.int .i64 0) (.int .i64 0)
  have h5 := hbx.c0
  have h6 := hbx.c1
  refine bodyPost_ret (v := .tuple #[.agg #[.int .i64 0, .int .i64 0], .bool false]) ?_ rfl ?_
  · simp [results, Try.f38, go_sem, h5, h6]
  · exact ⟨rfl, chSetNew (chSetNew HC2.out (p := ⟨w.heap.size, 0, none⟩) (Nat.le_refl _) _) (p := ⟨w.heap.size, 1, none⟩) (Nat.le_refl _) _⟩

theorem pop_some {w : World} {R G room first held : Nat} {L : Nat → Th} (h : RC w R G room first (held + 1) L) :
    Calls Try.prog 33 #[.pointer (some ⟨R, 0, none⟩)] w fun e w' =>
      e = .returned (.tuple #[.agg #[.int .i64 (L 0).1, .int .i64 (L 0).2], .bool true]) ∧ RC w' R G room (at' room first 1) held (rot room (upd L 0 (0, 0))) ∧ Ch [R, G] w w' := by
  have hbG : G < w.heap.size := cell_lt (h.cs 0 (by have := h.r1; omega))
  have hbR : R < w.heap.size := cell_lt h.c0
  have hC1 := (Ch.refl [] w).alloc (.cells #[.int .i64 0, .int .i64 0] 51)
  have HB1 := Lib.hid (Box2.new w (.int .i64 0) (.int .i64 0) 51)
  have HT := Lib.hid (take_some (h.ch hC1 (by simp) (by simp)))
  have HC1 := Lib.hid hC1
  obtain ⟨x, hx⟩ : ∃ x, x = L 0 := ⟨_, rfl⟩
  rw [← hx] at HT ⊢
  clear h hC1 hx
  go_enter Try.func33, Try.ntmps33
  go_wp2_with fail
  refine HT.out.mono ?_
  rintro e w2 ⟨rfl, hr2, hc2⟩
  have hA2 := HB1.out.ch hc2 (by simp; omega)
  have HB := Lib.hid hA2
  have HR2 := Lib.hid hr2
  have HC2 := Lib.hid ((HC1.out.mono (T := [R, G]) (by simp)).trans hc2)
  obtain ⟨k0, k1, k2, k3⟩ := hA2
  clear hr2 hc2
  go_wp2
  have hbx := HB.out.set (.int .i64 x.1) (.int .i64 x.2)
  have h5 := hbx.c0
  have h6 := hbx.c1
  have hc6 := ((Ch.refl [w.heap.size] w2).setCell (p := ⟨w.heap.size, 0, none⟩) (by simp) (.int .i64 x.1)).setCell (p := ⟨w.heap.size, 1, none⟩) (by simp) (.int .i64 x.2)
  refine bodyPost_ret (v := .tuple #[.agg #[.int .i64 x.1, .int .i64 x.2], .bool true]) ?_ rfl ?_
  · simp [results, Try.f33, go_sem, h5, h6]
  · exact ⟨rfl, HR2.out.ch hc6 (by simp; omega) (by simp; omega), chSetNew (chSetNew HC2.out (p := ⟨w.heap.size, 0, none⟩) (Nat.le_refl _) _) (p := ⟨w.heap.size, 1, none⟩) (Nat.le_refl _) _⟩

theorem pop_none {w : World} {R G room first : Nat} {L : Nat → Th} (h : RC w R G room first 0 L) :
    Calls Try.prog 33 #[.pointer (some ⟨R, 0, none⟩)] w fun e w' => e = .returned (.tuple #[.agg #[.int .i64 0, .int .i64 0], .bool false]) ∧ Ch [] w w' := by
  have hC1 := (Ch.refl [] w).alloc (.cells #[.int .i64 0, .int .i64 0] 51)
  have HB1 := Lib.hid (Box2.new w (.int .i64 0) (.int .i64 0) 51)
  have HT := Lib.hid (take_none (h.ch hC1 (by simp) (by simp)))
  have HC1 := Lib.hid hC1
  clear h hC1
  go_enter Try.func33, Try.ntmps33
  go_wp2_with fail
  refine HT.out.mono ?_
  rintro e w2 ⟨rfl, hc2⟩
  have hA2 := HB1.out.ch hc2 (by simp)
  have HB := Lib.hid hA2
  have HC2 := Lib.hid (HC1.out.trans hc2)
  obtain ⟨k0, k1, k2, k3⟩ := hA2
  clear hc2
  go_wp2
  have hbx := HB.out.set (.int .i64 0) (.int .i64 0)
  have h5 := hbx.c0
  have h6 := hbx.c1
  refine bodyPost_ret (v := .tuple #[.agg #[.int .i64 0, .int .i64 0], .bool false]) ?_ rfl ?_
  · simp [results, Try.f33, go_sem, h5, h6]
  · exact ⟨rfl, chSetNew (chSetNew HC2.out (p := ⟨w.heap.size, 0, none⟩) (Nat.le_refl _) _) (p := ⟨w.heap.size, 1, none⟩) (Nat.le_refl _) _⟩
end Go.Proofs.Ytnnliimjemmekaa.rC
