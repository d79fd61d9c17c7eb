/-
  An order of keys of string: Drop.
-/
import Derived.Test.YtediabcgeghogaaOSB
namespace Go.Proofs.Ytediabcgeghogaa.oS
open Go.RowKit Go.Maps

attribute [local go_sem] Oper.semAt_some

theorem ch_turned {w w' : World} {M : Nat} (h : w.mapTurned w' M) : Ch [M] w w' := by
  have g := h.grown
  exact ⟨g.os, g.tape, g.output, g.size, fun k hk hn => g.block k hk (fun e => hn (by cases e; simp))⟩
theorem ks_mem {L : List Ent} {k : K} : k ∈ ks L ↔ ∃ e ∈ L, e.k = k := List.mem_map

theorem drop_nil (k : K) (w : World) : Calls Try.prog 22 #[.pointer none, kv k] w fun e w' => e = .returned (.bool false) ∧ w' = w := by
  go_enter Try.func22, Try.ntmps22
  go_wp2_with fail
  with_reducible refine (has_nil k _).mono ?_
  rintro e w' ⟨rfl, rfl⟩
  go_wp2_with fail
  go_ret
  exact ⟨rfl, rfl⟩

theorem drop_not {w : World} {R M room n : Nat} {L : List Ent} (h : OR w R M room n L) {k : K} (hk : wfK k) (hno : ¬ k ∈ ks L) :
    Calls Try.prog 22 #[.pointer (some ⟨R, 0, none⟩), kv k] w fun e w' => e = .returned (.bool false) ∧ Ch [] w w' := by
  have HH := has_any h hk
  rw [decide_eq_false hno] at HH
  have HH := Lib.hid HH
  clear h hno hk
  go_enter Try.func22, Try.ntmps22
  go_wp2_with fail
  with_reducible refine HH.out.mono ?_
  rintro e w' ⟨rfl, hc⟩
  have HC := Lib.hid hc
  clear hc HH
  go_wp2_with fail
  go_ret
  exact ⟨rfl, HC.out⟩

set_option maxRecDepth 100000 in
set_option maxHeartbeats 1000000 in
theorem drop_in {w : World} {R M room n : Nat} {L : List Ent} (h : OR w R M room n L) {k : K} (hk : wfK k) (hin : k ∈ ks L) :
    Calls Try.prog 22 #[.pointer (some ⟨R, 0, none⟩), kv k] w fun e w' => e = .returned (.bool true) ∧ OR w' R M room n (wo L k) ∧ Ch [M] w w' := by
  have HH := has_any h hk
  rw [decide_eq_true hin] at HH
  have HH := Lib.hid HH
  have H := Lib.hid h
  have HK := Lib.hid hk
  have HIn := Lib.hid hin
  clear h hin hk
  go_enter Try.func22, Try.ntmps22
  go_wp2_with fail
  with_reducible refine HH.out.mono ?_
  rintro e w3 ⟨rfl, hc3⟩
  have H3 := Lib.hid (H.out.quiet hc3)
  have HC3 := Lib.hid hc3
  obtain ⟨D, ho, hv⟩ := H3.out.own
  have r1 := H3.out.c2
  have hcR : ∀ W : World, Ch [] w3 W → W.cell? ⟨R, 2, none⟩ = some (.map (some M)) := fun W hh => (hh.cell (p := ⟨R, 2, none⟩) (cell_lt r1) (by simp)).trans r1
  obtain ⟨X, hX⟩ : ∃ X : Obj, X = .cells #[kv k, .bool false] 73 := ⟨_, rfl⟩
  obtain ⟨Y, hY⟩ : ∃ Y : Obj, Y = .cells #[.bool true] 4 := ⟨_, rfl⟩
  have g0 := hcR w3 (Ch.refl _ _)
  have g1 := hcR ((w3.alloc X).alloc Y) (((Ch.refl _ _).alloc _).alloc _)
  have hc4 : Ch [] w3 ((w3.alloc X).alloc Y).drew := (((Ch.refl _ _).alloc _).alloc _).drew
  have HC4 := Lib.hid hc4
  obtain ⟨w5, hrun, ho5, ht5⟩ := (own_chm ho hc4 (by simp)).drop law Try.underlying67 (key_of HK.out) 0
  have HO5 := Lib.hid ho5
  have HT5 := Lib.hid ht5
  have HO := Lib.hid ho
  have HV := Lib.hid hv
  rw [hX, hY] at hrun g1
  clear hc3 hcR hc4 ho5 ht5 hX hY ho hv r1 HH H
  go_wp2_with fail
  go_region_with (go_at_call 28; refine (place_any k _).mono ?_; rintro r w' ⟨rfl, rfl⟩)
  all_goals clear g0 g1 hrun
  all_goals go_wp2
  all_goals go_ret
  all_goals
    have hc5 : Ch [M] w3 w5 := (HC4.out.mono (by simp)).trans (ch_turned HT5.out)
    have hne := H3.out.ne
    have hv2 := HV.out.del (k := k) HK.out
    have ho3 := own_tight HO5.out
    rw [hv2.sz] at ho3
    refine ⟨rfl, ⟨(hc5.cell (p := ⟨R, 0, none⟩) (cell_lt H3.out.c0) (by simpa using hne)).trans H3.out.c0, (hc5.cell (p := ⟨R, 1, none⟩) (cell_lt H3.out.c1) (by simpa using hne)).trans H3.out.c1,
      (hc5.cell (p := ⟨R, 2, none⟩) (cell_lt H3.out.c2) (by simpa using hne)).trans H3.out.c2, (hc5.frozen (p := ⟨R, 1, none⟩) (cell_lt H3.out.c1) (by simpa using hne)).trans H3.out.f1, ⟨_, ho3, hv2⟩, H3.out.ris.wo k, H3.out.hr, ?_⟩,
      (HC3.out.mono (by simp)).trans hc5⟩
    exact Nat.le_trans (List.length_filter_le _ _) H3.out.hl

theorem drop_any {w : World} {R M room n : Nat} {L : List Ent} (h : OR w R M room n L) {k : K} (hk : wfK k) :
    Calls Try.prog 22 #[.pointer (some ⟨R, 0, none⟩), kv k] w fun e w' => e = .returned (.bool (decide (k ∈ ks L))) ∧ ∃ L', ks L' = drp (ks L) k ∧ OR w' R M room n L' ∧ Ch [M] w w' := by
  by_cases hin : k ∈ ks L
  · rw [decide_eq_true hin]
    refine (drop_in h hk hin).mono ?_
    rintro e w' ⟨rfl, h2, hc⟩
    exact ⟨rfl, _, ks_wo L k, h2, hc⟩
  · rw [decide_eq_false hin]
    refine (drop_not h hk hin).mono ?_
    rintro e w' ⟨rfl, hc⟩
    exact ⟨rfl, L, (drp_not hin).symm, h.quiet hc, hc.mono (by simp)⟩
end Go.Proofs.Ytediabcgeghogaa.oS
