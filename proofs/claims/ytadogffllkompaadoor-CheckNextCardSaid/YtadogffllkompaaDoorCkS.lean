/-
  CheckStays: plain facts of right programs; the law's walk.
-/
import Derived.Test.YtadogffllkompaaDoorCkR
namespace Go.Proofs.YtadogffllkompaaDoor
open Go.RowKit

attribute [local go_sem] Oper.semAt_some

theorem right_len {L : List I5} {sl : Bool} {M : Nat} (h : (res L sl).2 = 0) (hM : RM L M) : Pl.pc M = L.length := by
  obtain ⟨h1, h2, h3⟩ := res_right h
  rw [Pl.pc_ones]
  unfold Pl.ones
  have e : ∀ t, M.testBit t = decide (t < L.length) := fun t => by
    rw [Bool.eq_iff_iff, hM.2 t, decide_eq_true_iff]
    refine ⟨fun k => k.lt.2, fun k => ?_⟩
    have := h3 2 (by omega) t k
    rw [lk2] at this
    split at this
    · rename_i g; exact rb_iff.1 g
    · cases this
  have key : ∀ n m, m ≤ n → ((List.range n).filter (fun t => decide (t < m))).length = m := by
    intro n
    induction n with
    | zero => intro m hm; simp; omega
    | succ n ih =>
      intro m hm
      rw [List.range_succ, List.filter_append, List.length_append]
      by_cases e2 : m = n + 1
      · subst e2
        have e3 : (List.range n).filter (fun t => decide (t < n + 1)) = List.range n := by
          rw [List.filter_eq_self]
          intro t ht
          have : t < n := by simpa using ht
          simp; omega
        rw [e3]
        simp
      · rw [ih m (by omega)]
        have : ¬ n < m := by omega
        simp [this]
  rw [List.filter_congr (fun t _ => e t)]
  exact key 64 _ h2
theorem right_exit {L : List I5} {a : Nat} (h : (ia L a).op = 73) : bhl L (a : Int) = [] := by
  unfold bhl
  split
  · rw [Int.toNat_natCast]
    unfold prL
    rw [if_pos h]
  · rfl
theorem right_next {L : List I5} {sl : Bool} {a : Nat} (hfit : ∀ x ∈ L, Fit x) (h : (res L sl).2 = 0) (ha : a < L.length) (h73 : (ia L a).op ≠ 73) : bhl L (a : Int) ≠ [] ∧ ∀ t ∈ bhl L (a : Int), t < L.length := by
  obtain ⟨h1, h2, h3⟩ := res_right h
  have hx : Fit (ia L a) := by rw [← ia_at ha]; exact hfit _ (List.getElem_mem _)
  have hb : bhl L (a : Int) = nxL L.length (ia L a) a := by
    unfold bhl inn
    rw [if_pos (by rw [decide_eq_true_eq]; omega), Int.toNat_natCast]
    exact prL_eq (by omega) (by omega) hx
  rw [hb]
  refine ⟨?_, fun t ht => nxL_lt ht⟩
  have hw := h3 1 (by omega) a ha
  rw [lk1] at hw
  unfold wrg at hw
  split at hw
  · cases hw
  · rename_i g1
    split at hw
    · cases hw
    · split at hw
      · cases hw
      · split at hw
        · cases hw
        · rename_i g4
          unfold astr at g1
          by_cases hc : cls (ia L a).op = 2
          · rw [if_pos hc] at g1
            have g2 : inn L.length (tg a (ia L a).o) = true := by
              cases hh : inn L.length (tg a (ia L a).o) with
              | true => rfl
              | false => rw [hh] at g1; exact absurd rfl g1
            unfold inn at g2
            rw [decide_eq_true_eq] at g2
            have ht := tg_val (a := a) (o := (ia L a).o) (by omega) hx.o
            obtain ⟨t, ht2⟩ : ∃ t : Nat, tg a (ia L a).o = (t : Int) := ⟨(tg a (ia L a).o).toNat, by omega⟩
            have hm : t ∈ nxL L.length (ia L a) a := nxL_mem.2 ⟨by omega, by
              unfold bhd
              have e1 : ((ia L a).op != 73) = true := by simpa using h73
              have e2 : (cls (ia L a).op == 2) = true := by simpa using hc
              have e3 : ((t : Int) - a - 1 == (ia L a).o) = true := by simp; omega
              rw [e1, e2, e3]; rfl⟩
            intro e
            rw [e] at hm
            cases hm
          · have h32 : (ia L a).op ≠ 32 := fun e => hc (by rw [e]; decide)
            have hl : a + 1 ≠ L.length := fun e => g4 ⟨e, h73, h32⟩
            have hm : a + 1 ∈ nxL L.length (ia L a) a := nxL_mem.2 ⟨by omega, by
              unfold bhd
              have e1 : ((ia L a).op != 73) = true := by simpa using h73
              have e2 : ((ia L a).op != 32) = true := by simpa using h32
              rw [e1, e2]; simp⟩
            intro e
            rw [e] at hm
            cases hm

/-- Booleans that came in. -/
def BoolsAt (W : World) (a : Option Addr) (len : Nat) : Prop := len = 0 ∨ ∃ b off, a = some ⟨b, off, none⟩ ∧ ∀ i, i < len → ∃ x : Bool, W.cell? ⟨b, off + i, none⟩ = some (.bool x)
theorem BoolsAt.ch {w w' : World} {a : Option Addr} {n : Nat} (h : BoolsAt w a n) (hc : Ch [] w w') : BoolsAt w' a n := by
  rcases h with h | ⟨b, off, rfl, hk⟩
  · exact .inl h
  · refine .inr ⟨b, off, rfl, fun i hi => ?_⟩
    obtain ⟨x, hx⟩ := hk i hi
    exact ⟨x, (hc.cell (p := ⟨b, off + i, none⟩) (cell_lt hx) (by simp)).trans hx⟩
end Go.Proofs.YtadogffllkompaaDoor
