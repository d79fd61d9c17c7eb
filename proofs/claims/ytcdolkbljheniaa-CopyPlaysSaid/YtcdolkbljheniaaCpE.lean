/-
  Try.
-/
import Derived.Test.YtcdolkbljheniaaCpD
import Derived.Laws.EntriesVeiled
namespace Go.Proofs.Ytcdolkbljheniaa
open Go.RowKit

theorem try_over {w : World} {L D c : Nat} {z : CZ} (h : CC w L D c z) (ho : z.over = true) (M : Option Addr) (wait : Bool) :
    Calls Try.prog 15 #[.pointer (some ⟨c, 0, none⟩), .pointer M, .bool wait] w fun e w' => e = .returned (.int .i64 6) ∧ w = w' := by
  have HO := Lib.hid (over_any h)
  rw [ho] at HO
  clear h ho
  go_enter Try.func15, Try.ntmps15
  go_wp2_with (with_reducible refine HO.out.mono ?_; rintro e w' ⟨rfl, rfl⟩)
  go_ret
  exact ⟨rfl, rfl⟩
/-- It waits. -/
theorem try_wait {w : World} {L D c : Nat} {z : CZ} (h : CC w L D c z) (ho : z.over = false) (ht : z.t < 1000000) (M : Option Addr) {p : Int}
    (HT : ∀ w1, Ch [c] w w1 → Calls Try.prog 35 #[.agg #[.int .i64 z.a, .int .i64 (z.n : Int)], .pointer M] w1 fun e w' => e = .returned (.tuple #[.int .i64 p, .int .i64 15]) ∧ Ch [] w1 w') :
    Calls Try.prog 15 #[.pointer (some ⟨c, 0, none⟩), .pointer M, .bool true] w fun e w' => e = .returned (.int .i64 15) ∧ CC w' L D c (z.wait p) ∧ Ch [c] w w' := by
  have HO := Lib.hid (over_any h)
  rw [ho] at HO
  obtain ⟨T, hT⟩ : ∃ T, T = z.t + 1 := ⟨_, rfl⟩
  have hw : IntKind.i64.wrap ((z.t : Int) + 1) = (T : Int) := by rw [IntWalk.i64_in _ (by omega)]; omega
  have c5 := h.c5
  have f5 := h.fr 5
  obtain ⟨w1, hw1⟩ : ∃ W, W = w.setCell ⟨c, 5, none⟩ (.int .i64 (T : Int)) := ⟨_, rfl⟩
  have h1 : CC w1 L D c { z with t := T } := by rw [hw1]; exact h.tick T
  have hc1 : Ch [c] w w1 := by rw [hw1]; exact (Ch.refl _ _).setCell (p := ⟨c, 5, none⟩) (by simp) _
  have HT := Lib.hid (HT w1 hc1)
  have d0 := h1.c0
  have d1 := h1.c1
  have H1 := Lib.hid h1
  have HC := Lib.hid hc1
  have HW := Lib.hid hT
  rw [hw1] at d0 d1 HT
  clear h h1 hc1 ho ht hT
  go_enter Try.func15, Try.ntmps15
  go_wp2_with (with_reducible refine HO.out.mono ?_; rintro e w' ⟨rfl, rfl⟩)
  with_reducible refine HT.out.mono ?_
  rintro e w2 ⟨rfl, hc2⟩
  rw [← hw1] at hc2
  have h2 := H1.out.quiet hc2
  have c4 := h2.c4
  have f4 := h2.fr 4
  have HX := Lib.hid (show CC (w2.setCell ⟨c, 4, none⟩ (.int .i64 p)) L D c (z.wait p) from by have := h2.setPage p; rw [HW.out] at this; exact this)
  have HC2 := Lib.hid ((HC.out.trans (hc2.mono (by simp))).setCell (p := ⟨c, 4, none⟩) (by simp) (.int .i64 p))
  clear h2 hc2 HT H1 HC d0 d1 hw1
  go_wp2
  go_ret
  exact ⟨rfl, HX.out, HC2.out⟩
/-- The function of its end. -/
def endFn (o : Bool) : Nat := if o then 34 else 32
set_option maxHeartbeats 2000000 in
/-- It is over: done, or failed. -/
theorem try_end {w : World} {L D c : Nat} {z : CZ} (h : CC w L D c z) (ho : z.over = false) (ht : z.t < 1000000) (M : Option Addr) (wait dn : Bool) {p q : Int}
    (hcase : (dn = true ∧ q = 0) ∨ (dn = false ∧ (q == 0) = false ∧ (q == 15) = false) ∨ (dn = false ∧ q = 15 ∧ wait = false))
    (HT : ∀ w1, Ch [c] w w1 → Calls Try.prog 35 #[.agg #[.int .i64 z.a, .int .i64 (z.n : Int)], .pointer M] w1 fun e w' => e = .returned (.tuple #[.int .i64 p, .int .i64 q]) ∧ Ch [] w1 w')
    {l : List Int} {n : Nat} (hl : l.length = n) (h64 : n ≤ 64) (hno : z.out = true → n = z.n) {S : List Nat} (hS : ∀ k ∈ S, k < L) {R : World → Prop}
    (HE : ∀ k1 k2 w2, Ch [c] w w2 → EndAt w2 L D c z k1 k2 → Calls Try.prog (endFn z.out) #[.pointer M, .bool dn, .pointer (some ⟨k1, 0, none⟩), .pointer (some ⟨k2, 0, none⟩)] w2 fun e w' => ∃ v cap, e = .returned (.slice v n cap) ∧ Far w' L D c v cap l ∧ Ch S w2 w' ∧ R w')
    (hR : ∀ w1 w2, R w1 → Ch [c] w1 w2 → R w2) {E : Int} (hE : (if dn then 0 else 14) = E) :
    Calls Try.prog 15 #[.pointer (some ⟨c, 0, none⟩), .pointer M, .bool wait] w fun e w' => e = .returned (.int .i64 E) ∧ CC w' L D c { z with bs := l, over := true, t := z.t + 1 } ∧ Ch (c :: S) w w' ∧ R w' := by
  have HO := Lib.hid (over_any h)
  rw [ho] at HO
  obtain ⟨T, hT⟩ : ∃ T, T = z.t + 1 := ⟨_, rfl⟩
  have hw : IntKind.i64.wrap ((z.t : Int) + 1) = (T : Int) := by rw [IntWalk.i64_in _ (by omega)]; omega
  have c5 := h.c5
  have f5 := h.fr 5
  obtain ⟨w1, hw1⟩ : ∃ W, W = w.setCell ⟨c, 5, none⟩ (.int .i64 (T : Int)) := ⟨_, rfl⟩
  have h1 : CC w1 L D c { z with t := T } := by rw [hw1]; exact h.tick T
  have hc1 : Ch [c] w w1 := by rw [hw1]; exact (Ch.refl _ _).setCell (p := ⟨c, 5, none⟩) (by simp) _
  have HT := Lib.hid (HT w1 hc1)
  have d0 := h1.c0
  have d1 := h1.c1
  have H1 := Lib.hid h1
  have HC := Lib.hid hc1
  have HW := Lib.hid hT
  have HR := Lib.hid hR
  have HS := Lib.hid hS
  have HL := Lib.hid (show l.length = n ∧ n ≤ 64 ∧ (z.out = true → n = z.n) from ⟨hl, h64, hno⟩)
  have HV := Lib.hid ho
  have hE := Lib.hid hE
  have HE := Lib.hid HE
  rw [hw1] at d0 d1 HT
  clear h h1 hc1 ho ht hT hR hl h64 hno hS
  rcases hcase with ⟨rfl, rfl⟩ | ⟨rfl, q0, q15⟩ | ⟨rfl, rfl, rfl⟩
  all_goals
    go_enter Try.func15, Try.ntmps15
    go_wp2_with (with_reducible refine HO.out.mono ?_; rintro e w' ⟨rfl, rfl⟩)
    with_reducible refine HT.out.mono ?_
    rintro e w2 ⟨rfl, hc2⟩
    rw [← hw1] at hc2
    have h2 := H1.out.quiet hc2
    obtain ⟨k1, k2, c3, hend⟩ := h2.c3
    have hend2 : EndAt w2 L D c z k1 k2 := by
      obtain ⟨l1, l2, n1, n2, n3, n4, a0, i1, i2⟩ := hend HV.out
      exact ⟨l1, l2, n1, n2, n3, n4, a0, i1, i2⟩
    have hck : Ch [c] w w2 := HC.out.trans (hc2.mono (by simp))
    have HF := Lib.hid (HE.out k1 k2 w2 hck hend2)
    have H2 := Lib.hid h2
    have HK := Lib.hid hck
    have e3 : endOf { z with t := T } k1 k2 = .func (.func (endFn z.out)) #[] #[.pointer (some ⟨k1, 0, none⟩), .pointer (some ⟨k2, 0, none⟩)] := by unfold endOf; rw [HV.out]; rfl
    rw [e3] at c3
    clear h2 hc2 HT H1 HC d0 d1 hw1 hend hend2 hck HE e3
    generalize hfn : endFn z.out = fn at HF c3
    unfold endFn at hfn
    cases hzo : z.out
    all_goals
      rw [hzo] at hfn
      simp only [if_true, if_false, Bool.false_eq_true] at hfn
      subst hfn
      go_wp2_with fail
      with_reducible refine HF.out.mono ?_
      rintro e w3 ⟨v, cap, rfl, hfar, hc3, hr⟩
      have h3 := H2.out.ch hc3 HS.out
      obtain ⟨v0, cap0, g2, -⟩ := h3.c2
      obtain ⟨m1, m2, g3, -⟩ := h3.c3
      have f2 := h3.fr 2
      have f3 := h3.fr 3
      have HX := Lib.hid (h3.finish HL.out.1 HL.out.2.1 HL.out.2.2 hfar)
      have hcs : Ch [c] w3 ((w3.setCell ⟨c, 2, none⟩ (.slice v n cap)).setCell ⟨c, 3, none⟩ .nilFunc) := ((Ch.refl _ _).setCell (p := ⟨c, 2, none⟩) (by simp) _).setCell (p := ⟨c, 3, none⟩) (by simp) _
      have HC3 := Lib.hid (show Ch (c :: S) w ((w3.setCell ⟨c, 2, none⟩ (.slice v n cap)).setCell ⟨c, 3, none⟩ .nilFunc) from ((HK.out.mono (by simp)).trans (hc3.mono (by intro k hk; simp [hk]))).trans (hcs.mono (by simp)))
      have HR3 := Lib.hid (HR.out _ _ hr hcs)
      obtain ⟨xn, xi, xa, hX⟩ : ∃ xn xi xa, endOf { z with t := T } m1 m2 = .func xn xi xa := by unfold endOf; rw [HV.out]; exact ⟨_, _, _, rfl⟩
      rw [hX] at g3
      have g4 : (w3.setCell ⟨c, 2, none⟩ (.slice v n cap)).cell? ⟨c, 3, none⟩ = some (.func xn xi xa) := setCell_other g3 (addr_ne_off (by decide))
      clear h3 hc3 hr hcs HF H2 HK hfar hzo c3 hX
      go_wp2
      go_ret
      refine ⟨by rw [← hE.out]; rfl, ?_, HC3.out, HR3.out⟩
      have := HX.out
      rw [HW.out] at this
      exact this
end Go.Proofs.Ytcdolkbljheniaa
