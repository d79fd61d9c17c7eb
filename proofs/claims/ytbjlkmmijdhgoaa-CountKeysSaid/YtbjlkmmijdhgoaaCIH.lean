/-
  Counts by keys of int: Drop, Stuck; nil ones.
-/
import Derived.Test.YtbjlkmmijdhgoaaCIF
namespace Go.Proofs.Ytbjlkmmijdhgoaa.cI
open Go.RowKit Go.Maps

attribute [local go_sem] Oper.semAt_some

theorem drop_not {w : World} {R M top : Nat} {L : List Ent} (h : RF w R M top L) {k : K} (hk : wfK k) (hno : ∀ e ∈ L, e.k ≠ k) :
    Calls Try.prog 22 #[.pointer (some ⟨R, 0, none⟩), kv k] w fun r w' => r = .returned (.tuple #[.bool false, .int .i64 4]) ∧ Ch [] w w' := by
  have HF := Lib.hid (find_not h hk hno)
  clear h hno hk
  go_enter Try.func22, Try.ntmps22
  go_wp2_with fail
  with_reducible refine HF.out.mono ?_
  rintro r w1 ⟨rfl, hc1⟩
  have HC2 := Lib.hid (hc1.alloc (.cells #[.pointer none, kv k0] 79))
  clear hc1 HF
  go_wp2
  go_ret2
  exact ⟨rfl, HC2.out⟩
theorem drop_nil (k : K) (w : World) : Calls Try.prog 22 #[.pointer none, kv k] w fun r w' => r = .returned (.tuple #[.bool false, .int .i64 6]) ∧ w' = w := by
  go_enter Try.func22, Try.ntmps22
  go_wp2
  go_ret2
  exact ⟨rfl, rfl⟩

theorem drop_keep {w : World} {R M top : Nat} {A B : List Ent} {e : Ent} (h : RF w R M top (A ++ e :: B)) {n : Nat} {E : Int} (hG : putN e.n e.s = (n, false, E)) (hn : 1 ≤ n) :
    Calls Try.prog 22 #[.pointer (some ⟨R, 0, none⟩), kv e.k] w fun r w' => r = .returned (.tuple #[.bool false, .int .i64 E]) ∧ RF w' R M top (A ++ ⟨e.k, e.b, n, e.s⟩ :: B) ∧ Ch [e.b] w w' := by
  have HF := Lib.hid (find_in h)
  have H := Lib.hid h
  have HG := Lib.hid hG
  have HP := Lib.hid hn
  clear h hG hn
  go_enter Try.func22, Try.ntmps22
  go_wp2_with fail
  with_reducible refine HF.out.mono ?_
  rintro r w1 ⟨rfl, hc1⟩
  have hc2 := hc1.alloc (.cells #[.pointer (some ⟨e.b, 0, none⟩), kv e.k] 79)
  have H2 := Lib.hid (H.out.quiet hc2)
  have HC2 := Lib.hid hc2
  clear hc1 hc2 HF H
  go_wp2_with fail
  generalize w1.alloc (.cells #[.pointer (some ⟨e.b, 0, none⟩), kv e.k] 79) = w2 at *
  with_reducible refine (put_at (H2.out.cnt e (by simp)).1 HG.out).mono ?_
  rintro r w3 ⟨rfl, hx3, hc3, -⟩
  have HX3 := Lib.hid hx3
  have HC3 := Lib.hid hc3
  clear hx3 hc3
  go_wp2
  go_ret2
  exact ⟨rfl, H2.out.set HC3.out HX3.out HP.out, (HC2.out.mono (by simp)).trans HC3.out⟩

theorem RF.del {w w' : World} {R M top : Nat} {A B : List Ent} {e : Ent} (h : RF w R M top (A ++ e :: B)) (hc : Ch [e.b, M] w w')
    {D : DataW Value} (ho1 : w.ownsMap Try.prog 83 rd M (A ++ e :: B).length D) (hv : Vw D (A ++ e :: B)) {n : Nat} (ho2 : w'.ownsMap Try.prog 83 rd M n (D.del (kl e.k))) : RF w' R M top (A ++ B) := by
  have he := h.cnt e (by simp)
  have hM : R ≠ M := by
    intro e1
    subst e1
    obtain ⟨es, clock, hb, _⟩ := ho1
    have := h.c0
    simp [World.cell?, hb] at this
  have hR : R ∉ [e.b, M] := by simp; exact ⟨fun e1 => he.2.2.1 e1.symm, hM⟩
  have hnd := h.nd
  rw [List.map_append, List.map_cons, List.nodup_append, List.nodup_cons] at hnd
  obtain ⟨n1, ⟨n2, n3⟩, n4⟩ := hnd
  have hne : ∀ x ∈ A ++ B, x.b ≠ e.b := fun x hx e1 => by
    rcases List.mem_append.1 hx with hx | hx
    · exact n4 x.b (List.mem_map.2 ⟨x, hx, rfl⟩) e.b (by simp) e1
    · exact n2 (List.mem_map.2 ⟨x, hx, e1⟩)
  have hin : ∀ x ∈ A ++ B, x ∈ A ++ e :: B := fun x hx => by simp at hx ⊢; rcases hx with hx | hx <;> simp [hx]
  have hv2 := hv.del
  have ho3 := own_tight ho2
  rw [hv2.sz] at ho3
  refine ⟨(hc.cell (p := ⟨R, 0, none⟩) (cell_lt h.c0) hR).trans h.c0, (hc.cell (p := ⟨R, 1, none⟩) (cell_lt h.c1) hR).trans h.c1, ⟨_, ho3, hv2⟩, fun x hx => ?_, ?_, h.ht, by have := h.hl; simp at this ⊢; omega⟩
  · have hm2 := h.cnt x (hin x hx)
    exact ⟨hm2.1.ch hc (by simp; exact ⟨hne x hx, hm2.2.2.2⟩), hm2.2⟩
  · rw [List.map_append, List.nodup_append]
    exact ⟨n1, n3, fun a ha b hb => n4 a ha b (by simp at hb ⊢; exact .inr hb)⟩

set_option maxRecDepth 100000 in
set_option maxHeartbeats 1000000 in
theorem drop_out {w : World} {R M top : Nat} {A B : List Ent} {e : Ent} (h : RF w R M top (A ++ e :: B)) (hG : putN e.n e.s = (0, true, 0)) :
    Calls Try.prog 22 #[.pointer (some ⟨R, 0, none⟩), kv e.k] w fun r w' => r = .returned (.tuple #[.bool true, .int .i64 0]) ∧ RF w' R M top (A ++ B) ∧ Ch [e.b, M] w w' := by
  have HF := Lib.hid (find_in h)
  have H := Lib.hid h
  have HG := Lib.hid hG
  clear h hG
  go_enter Try.func22, Try.ntmps22
  go_wp2_with fail
  with_reducible refine HF.out.mono ?_
  rintro r w1 ⟨rfl, hc1⟩
  have hc2 := hc1.alloc (.cells #[.pointer (some ⟨e.b, 0, none⟩), kv e.k] 79)
  have H2 := Lib.hid (H.out.quiet hc2)
  have HC2 := Lib.hid hc2
  clear hc1 hc2 HF H
  go_wp2_with fail
  generalize w1.alloc (.cells #[.pointer (some ⟨e.b, 0, none⟩), kv e.k] 79) = w2 at *
  with_reducible refine (put_at (H2.out.cnt e (by simp)).1 HG.out).mono ?_
  rintro r w3 ⟨rfl, hx3, hc3, -⟩
  have HC3 := Lib.hid hc3
  obtain ⟨D, ho, hv⟩ := H2.out.own
  have HE := Lib.hid (H2.out.cnt e (by simp))
  have hRe : R ≠ e.b := fun e1 => HE.out.2.2.1 e1.symm
  have r1 := H2.out.c1
  have hcR : ∀ W : World, Ch [] w3 W → W.cell? ⟨R, 1, none⟩ = some (.map (some M)) := fun W hh => ((hc3.trans (hh.mono (by simp))).cell (p := ⟨R, 1, none⟩) (cell_lt r1) (by simpa using hRe)).trans r1
  obtain ⟨X, hX⟩ : ∃ X : Obj, X = .cells #[kv e.k, .bool false] 83 := ⟨_, rfl⟩
  have g0 := hcR w3 (Ch.refl _ _)
  have g1 := hcR (w3.alloc X) ((Ch.refl _ _).alloc _)
  have hc4 : Ch [] w3 (w3.alloc X).drew := ((Ch.refl _ _).alloc _).drew
  have HC4 := Lib.hid hc4
  obtain ⟨w5, hrun, ho5, ht5⟩ := (own_ch ho (hc3.trans (hc4.mono (by simp))) (by simp; exact fun e1 => HE.out.2.2.2 e1.symm)).drop law Try.underlying74 (key_of (hv.mem e (by simp)).1) 0
  have HO5 := Lib.hid ho5
  have HT5 := Lib.hid ht5
  have HO := Lib.hid ho
  have HV := Lib.hid hv
  rw [hX] at hrun g1
  clear hx3 hc3 hcR hc4 ho5 ht5 hX ho hv r1 hRe
  go_wp2_with fail
  go_region_with (go_at_call 33; refine (place_any e.k _).mono ?_; rintro r w' ⟨rfl, rfl⟩)
  all_goals clear g0 g1 hrun
  all_goals go_wp2
  all_goals go_ret2
  all_goals
    have hc5 : Ch [e.b, M] w2 w5 := (HC3.out.mono (by simp)).trans ((HC4.out.mono (by simp)).trans ((ch_turned HT5.out).mono (by simp)))
    exact ⟨rfl, H2.out.del hc5 HO.out HV.out HO5.out, (HC2.out.mono (by simp)).trans hc5⟩

theorem stuck_in {w : World} {R M top : Nat} {A B : List Ent} {e : Ent} (h : RF w R M top (A ++ e :: B)) :
    Calls Try.prog 25 #[.pointer (some ⟨R, 0, none⟩), kv e.k] w fun r w' => r = .returned (.bool e.s) ∧ Ch [] w w' := by
  have HF := Lib.hid (find_in h)
  have H := Lib.hid h
  clear h
  go_enter Try.func25, Try.ntmps25
  go_wp2_with fail
  with_reducible refine HF.out.mono ?_
  rintro r w1 ⟨rfl, hc1⟩
  have hc2 := hc1.alloc (.cells #[.pointer (some ⟨e.b, 0, none⟩), kv e.k] 79)
  have H2 := Lib.hid (H.out.quiet hc2)
  have HC2 := Lib.hid hc2
  clear hc1 hc2 HF H
  go_wp2_with fail
  generalize w1.alloc (.cells #[.pointer (some ⟨e.b, 0, none⟩), kv e.k] 79) = w2 at *
  with_reducible refine (stuck_any (H2.out.cnt e (by simp)).1).mono ?_
  rintro r w3 ⟨rfl, rfl⟩
  go_wp2
  go_ret
  exact ⟨rfl, HC2.out⟩
theorem stuck_not {w : World} {p : Option Addr} {k : K} (HF : Calls Try.prog 32 #[.pointer p, kv k] w fun r w' => r = .returned (.tuple #[rv none k0, .bool false]) ∧ Ch [] w w') :
    Calls Try.prog 25 #[.pointer p, kv k] w fun r w' => r = .returned (.bool false) ∧ Ch [] w w' := by
  have HF := Lib.hid HF
  go_enter Try.func25, Try.ntmps25
  go_wp2_with fail
  with_reducible refine HF.out.mono ?_
  rintro r w1 ⟨rfl, hc1⟩
  have HC2 := Lib.hid (hc1.alloc (.cells #[.pointer none, kv k0] 79))
  clear hc1 HF
  go_wp2_with fail
  with_reducible refine (stuck_nil _).mono ?_
  rintro r w3 ⟨rfl, rfl⟩
  go_wp2
  go_ret
  exact ⟨rfl, HC2.out⟩

theorem hold_nil (a : Option Addr) (len cap : Nat) (w : World) : Calls Try.prog 20 #[.pointer none, .slice a len cap] w fun r w' => r = .returned (.int .i64 6) ∧ w' = w := by
  go_enter Try.func20, Try.ntmps20
  go_wp2
  go_ret
  exact ⟨rfl, rfl⟩
theorem keys_nil (w : World) : Calls Try.prog 23 #[.pointer none] w fun r w' => r = .returned (.slice none 0 0) ∧ w' = w := by
  go_enter Try.func23, Try.ntmps23
  go_wp2
  go_ret
  exact ⟨rfl, rfl⟩
end Go.Proofs.Ytbjlkmmijdhgoaa.cI
