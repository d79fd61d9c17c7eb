/-
  Sections in memory: isReader, Stamp, Depth, Since, enterOne, Exit, Enter.
-/
import Derived.Test.YtlmepjpkaionbaaDoorSeA
import Derived.Test.YtlmepjpkaionbaaDoorBase
namespace Go.Proofs.YtlmepjpkaionbaaDoor
open Go.RowKit

/-- Sections in a block of 129 cells. -/
structure Sec (w : World) (b : Nat) (x : SS) : Prop where
  c : w.cell? ⟨b, 0, none⟩ = some (.int .i64 x.n)
  d : ∀ i, i < 64 → w.cell? ⟨b, 1 + i, none⟩ = some (.int .i64 (x.d i))
  s : ∀ i, i < 64 → w.cell? ⟨b, 65 + i, none⟩ = some (.int .i64 (x.s i))
  fr : ∀ k, w.frozen? ⟨b, k, none⟩ = false
section
variable {w w' : World} {b : Nat} {x : SS}
theorem Sec.lt (h : Sec w b x) : b < w.heap.size := cell_lt h.c
theorem Sec.ch {S : List Nat} (h : Sec w b x) (hc : Ch S w w') (hb : b ∉ S) : Sec w' b x :=
  ⟨(hc.cell (p := ⟨b, 0, none⟩) h.lt hb).trans h.c, fun i hi => (hc.cell (p := ⟨b, 1 + i, none⟩) h.lt hb).trans (h.d i hi), fun i hi => (hc.cell (p := ⟨b, 65 + i, none⟩) h.lt hb).trans (h.s i hi), fun k => (hc.frozen (p := ⟨b, k, none⟩) h.lt hb).trans (h.fr k)⟩
theorem Sec.drew (h : Sec w b x) : Sec w.drew b x := ⟨h.c, h.d, h.s, h.fr⟩
theorem Sec.setN (h : Sec w b x) (v : Int) : Sec (w.setCell ⟨b, 0, none⟩ (.int .i64 v)) b ⟨v, x.d, x.s⟩ :=
  ⟨setCell_same h.c, fun i hi => setCell_other (h.d i hi) (addr_ne_off (by omega)), fun i hi => setCell_other (h.s i hi) (addr_ne_off (by omega)), fun k => by simpa using h.fr k⟩
theorem Sec.setD (h : Sec w b x) {r : Nat} (hr : r < 64) (v : Int) : Sec (w.setCell ⟨b, 1 + r, none⟩ (.int .i64 v)) b ⟨x.n, putF x.d r v, x.s⟩ :=
  ⟨setCell_other h.c (addr_ne_off (by omega)), fun i hi => by
    by_cases e : i = r
    · subst e; rw [setCell_same (h.d i hi)]; dsimp only; rw [putF_same]
    · rw [setCell_other (h.d i hi) (addr_ne_off (by omega))]; dsimp only; rw [putF_other _ _ e], fun i hi => setCell_other (h.s i hi) (addr_ne_off (by omega)), fun k => by simpa using h.fr k⟩
theorem Sec.setS (h : Sec w b x) {r : Nat} (hr : r < 64) (v : Int) : Sec (w.setCell ⟨b, 65 + r, none⟩ (.int .i64 v)) b ⟨x.n, x.d, putF x.s r v⟩ :=
  ⟨setCell_other h.c (addr_ne_off (by omega)), fun i hi => setCell_other (h.d i hi) (addr_ne_off (by omega)), fun i hi => by
    by_cases e : i = r
    · subst e; rw [setCell_same (h.s i hi)]; dsimp only; rw [putF_same]
    · rw [setCell_other (h.s i hi) (addr_ne_off (by omega))]; dsimp only; rw [putF_other _ _ e], fun k => by simpa using h.fr k⟩
end

theorem isr_any (r : Int) (w : World) :
    Calls Tryd.prog 40 #[.int .i64 r] w fun e w' => e = .returned (.bool (decide (0 ≤ r ∧ r < 64))) ∧ w = w' := by
  by_cases h0 : r < 0
  · have e : decide (0 ≤ r ∧ r < 64) = false := decide_eq_false (by omega)
    have hge : decide (r ≥ 0) = false := decide_eq_false (by omega)
    rw [e]
    clear e
    go_enter Tryd.func40, Tryd.ntmps40
    go_wp2
    go_ret
    exact ⟨rfl, rfl⟩
  · have hge : decide (r ≥ 0) = true := decide_eq_true (by omega)
    by_cases h1 : r < 64
    · have e : decide (0 ≤ r ∧ r < 64) = true := decide_eq_true (by omega)
      rw [e]
      clear e
      go_enter Tryd.func40, Tryd.ntmps40
      go_wp2
      go_ret
      exact ⟨rfl, rfl⟩
    · have e : decide (0 ≤ r ∧ r < 64) = false := decide_eq_false (by omega)
      rw [e]
      clear e
      go_enter Tryd.func40, Tryd.ntmps40
      go_wp2
      go_ret
      exact ⟨rfl, rfl⟩

theorem stamp_any {w : World} {b : Nat} {x : SS} (h : Sec w b x) :
    Calls Tryd.prog 21 #[.pointer (some ⟨b, 0, none⟩)] w fun e w' => e = .returned (.int .i64 x.n) ∧ w = w' := by
  have c := h.c
  clear h
  go_enter Tryd.func21, Tryd.ntmps21
  go_wp2
  go_ret
  exact ⟨rfl, rfl⟩
theorem depth_any {w : World} {b : Nat} {x : SS} (h : Sec w b x) (r : Int) :
    Calls Tryd.prog 24 #[.pointer (some ⟨b, 0, none⟩), .int .i64 r] w fun e w' => e = .returned (.int .i64 (dOf x r)) ∧ w = w' := by
  have HI := Lib.hid (isr_any r w)
  by_cases hr : 0 ≤ r ∧ r < 64
  · obtain ⟨k, rfl⟩ : ∃ k : Nat, r = (k : Int) := ⟨r.toNat, by omega⟩
    have hk : k < 64 := by omega
    have hk' : (k : Int) < 64 := by omega
    have c := h.d k hk
    rw [show dOf x (k : Int) = x.d k by unfold dOf; rw [if_pos hr]; rfl]
    rw [decide_eq_true hr] at HI
    clear h hr
    go_enter Tryd.func24, Tryd.ntmps24
    go_wp2_with (with_reducible refine HI.out.mono ?_; rintro e w' ⟨rfl, rfl⟩)
    go_ret
    exact ⟨rfl, rfl⟩
  · rw [show dOf x r = 0 by unfold dOf; rw [if_neg hr]]
    rw [decide_eq_false hr] at HI
    clear h hr
    go_enter Tryd.func24, Tryd.ntmps24
    go_wp2_with (with_reducible refine HI.out.mono ?_; rintro e w' ⟨rfl, rfl⟩)
    go_ret
    exact ⟨rfl, rfl⟩
theorem since_any {w : World} {b : Nat} {x : SS} (h : Sec w b x) (r : Int) :
    Calls Tryd.prog 44 #[.pointer (some ⟨b, 0, none⟩), .int .i64 r] w fun e w' => e = .returned (.int .i64 (sOf x r)) ∧ w = w' := by
  have HI := Lib.hid (isr_any r w)
  by_cases hr : 0 ≤ r ∧ r < 64
  · obtain ⟨k, rfl⟩ : ∃ k : Nat, r = (k : Int) := ⟨r.toNat, by omega⟩
    have hk : k < 64 := by omega
    have hk' : (k : Int) < 64 := by omega
    have c := h.s k hk
    rw [show sOf x (k : Int) = x.s k by unfold sOf; rw [if_pos hr]; rfl]
    rw [decide_eq_true hr] at HI
    clear h hr
    go_enter Tryd.func44, Tryd.ntmps44
    go_wp2_with (with_reducible refine HI.out.mono ?_; rintro e w' ⟨rfl, rfl⟩)
    go_ret
    exact ⟨rfl, rfl⟩
  · rw [show sOf x r = 0 by unfold sOf; rw [if_neg hr]]
    rw [decide_eq_false hr] at HI
    clear h hr
    go_enter Tryd.func44, Tryd.ntmps44
    go_wp2_with (with_reducible refine HI.out.mono ?_; rintro e w' ⟨rfl, rfl⟩)
    go_ret
    exact ⟨rfl, rfl⟩

set_option maxHeartbeats 1000000 in
theorem one_any {w : World} {b : Nat} {x : SS} (h : Sec w b x) (hg : GS x) (hn : x.n ≤ 1000000) (r : Int) :
    Calls Tryd.prog 41 #[.pointer (some ⟨b, 0, none⟩), .int .i64 r] w fun e w' => e = .returned (.int .i64 (enterE x r)) ∧ Sec w' b (enterS x r) ∧ Ch [b] w w' := by
  have HI := Lib.hid (isr_any r w)
  by_cases hr : 0 ≤ r ∧ r < 64
  · obtain ⟨k, rfl⟩ : ∃ k : Nat, r = (k : Int) := ⟨r.toNat, by omega⟩
    have hk : k < 64 := by omega
    have hk' : (k : Int) < 64 := by omega
    have c := h.d k hk
    rw [decide_eq_true hr] at HI
    have d0 := hg.d0 k
    have n0 := hg.n0
    by_cases h8 : 8 ≤ x.d k
    · have hE : enterE x (k : Int) = 3 := by unfold enterE; rw [if_pos hr, Int.toNat_natCast, if_pos h8]
      have hS : enterS x (k : Int) = x := by unfold enterS; rw [if_neg (by rw [hE]; decide)]
      rw [hE, hS]
      have H := Lib.hid h
      have hge : decide (x.d k ≥ 8) = true := decide_eq_true h8
      clear h hr hE hS hg
      go_enter Tryd.func41, Tryd.ntmps41
      go_wp2_with (with_reducible refine HI.out.mono ?_; rintro e w' ⟨rfl, rfl⟩)
      go_ret
      exact ⟨rfl, H.out, Ch.refl _ _⟩
    · have hE : enterE x (k : Int) = 0 := by unfold enterE; rw [if_pos hr, Int.toNat_natCast, if_neg h8]
      have hS : enterS x (k : Int) = inS x k := by unfold enterS; rw [if_pos hE]; rfl
      rw [hE, hS]
      have hge : decide (x.d k ≥ 8) = false := decide_eq_false (by omega)
      by_cases h0 : x.d k = 0
      · have hI : inS x k = ⟨x.n + 1, putF x.d k 1, putF x.s k (x.n + 1)⟩ := by unfold inS; rw [if_pos h0, if_pos h0, h0]; rfl
        rw [hI]
        have c0 := h.c
        have f0 := h.fr 0
        have hws : IntKind.i64.wrap (x.n + 1) = x.n + 1 := IntWalk.i64_in _ (by omega)
        have H := Lib.hid h
        have HN := Lib.hid (show Ch [b] w (w.setCell ⟨b, 0, none⟩ (.int .i64 (x.n + 1))) from (Ch.refl _ _).setCell (by simp) _)
        have HS := Lib.hid (h.setN (x.n + 1))
        have hge0 : decide ((0 : Int) ≥ 8) = false := by decide
        rw [h0] at c hge
        clear h hr hE hS hg hI h8
        go_enter Tryd.func41, Tryd.ntmps41
        go_wp2_with (with_reducible refine HI.out.mono ?_; rintro e w' ⟨rfl, rfl⟩)
        generalize w.setCell ⟨b, 0, none⟩ (.int .i64 (x.n + 1)) = w1 at *
        clear c c0 f0 hge hge0 hws HI
        have c1 := HS.out.c
        have e1 := HS.out.s k hk
        have f1 := HS.out.fr (65 + k)
        go_region
        obtain ⟨w2, hw2⟩ : ∃ w2, w2 = (w1.setCell ⟨b, 65 + k, none⟩ (.int .i64 (x.n + 1))).drew := ⟨_, rfl⟩
        have HS2 := Lib.hid (show Sec w2 b ⟨x.n + 1, x.d, putF x.s k (x.n + 1)⟩ from by rw [hw2]; exact (HS.out.setS hk (x.n + 1)).drew)
        have HN2 := Lib.hid (show Ch [b] w w2 from by rw [hw2]; exact (HN.out.setCell (by simp) _).drew)
        rw [← hw2]
        clear hw2 c1 e1 f1
        have c2 := HS2.out.d k hk
        have f2 := HS2.out.fr (1 + k)
        dsimp only at c2
        rw [h0] at c2
        have hwd : IntKind.i64.wrap (0 + 1) = 1 := by decide
        go_wp2_with fail
        go_region
        have HS3 := Lib.hid (HS2.out.setD hk 1).drew
        have HN3 := Lib.hid (HN2.out.setCell (p := ⟨b, 1 + k, none⟩) (by simp) (.int .i64 1)).drew
        clear c2 f2
        go_wp2
        go_ret
        exact ⟨rfl, HS3.out, HN3.out⟩
      · have hI : inS x k = ⟨x.n, putF x.d k (x.d k + 1), x.s⟩ := by unfold inS; rw [if_neg h0, if_neg h0]
        rw [hI]
        have H := Lib.hid h
        have h0' : (x.d k == 0) = false := by simpa using h0
        have f2 := h.fr (1 + k)
        have hwd : IntKind.i64.wrap (x.d k + 1) = x.d k + 1 := IntWalk.i64_in _ (by omega)
        clear h hr hE hS hg hI h8 h0
        go_enter Tryd.func41, Tryd.ntmps41
        go_wp2_with (with_reducible refine HI.out.mono ?_; rintro e w' ⟨rfl, rfl⟩)
        go_region
        have HS3 := Lib.hid (H.out.setD hk (x.d k + 1)).drew
        have HN3 := Lib.hid ((Ch.refl [b] w).setCell (p := ⟨b, 1 + k, none⟩) (by simp) (.int .i64 (x.d k + 1))).drew
        clear c f2
        go_wp2
        go_ret
        exact ⟨rfl, HS3.out, HN3.out⟩
  · have hE : enterE x r = 2 := by unfold enterE; rw [if_neg hr]
    have hS : enterS x r = x := by unfold enterS; rw [if_neg (by rw [hE]; decide)]
    rw [hE, hS]
    rw [decide_eq_false hr] at HI
    have H := Lib.hid h
    clear h hr hE hS hg
    go_enter Tryd.func41, Tryd.ntmps41
    go_wp2_with (with_reducible refine HI.out.mono ?_; rintro e w' ⟨rfl, rfl⟩)
    go_ret
    exact ⟨rfl, H.out, Ch.refl _ _⟩
end Go.Proofs.YtlmepjpkaionbaaDoor
