/-
  Contracts: List of a ring as a list; the chapter's examples hold (known).
-/
import Derived.Test.YtkjkaihbpccdmaaRIG
import Derived.Test.YtkjkaihbpccdmaaRIL
namespace Go.Proofs.Ytkjkaihbpccdmaa.rI
open Go.RowKit

attribute [local go_sem] Oper.semAt_some

theorem cont_eq {L : Nat → Int} {xs : List Int} (h : ∀ j, j < xs.length → L j = xs[j]?.getD 0) : cont xs.length L = xs := by
  apply List.ext_getElem (by simp [cont])
  intro i h1 h2
  simp [cont, h i h2, h2]

theorem list_l {w : World} {R G room : Nat} {xs : List Int} (h : RL w R G room xs) :
    Calls Try.prog 18 #[.pointer (some ⟨R, 0, none⟩)] w fun e W' =>
      ∃ v, e = .returned v ∧ W'.ownsRow w.heap.size 3 1 v xs.length (ivs xs) ∧ Below w.heap.size w W' := by
  have hlt := h.lt
  obtain ⟨first, L, h, hL⟩ := h
  have := list_any (some ⟨R, 0, none⟩) xs.length L w (.inr ⟨R, G, room, first, rfl, hlt.1, hlt.2, h⟩)
  rw [cont_eq hL] at this
  exact this

theorem push567 {w : World} {R G : Nat} (h : RL w R G 2 []) :
    Calls Try.prog 10 #[.pointer (some ⟨R, 0, none⟩), .slice (some ⟨w.heap.size, 0, none⟩) 3 3] (w.alloc (.cells #[.int .i64 5, .int .i64 6, .int .i64 7] 3)) fun e w' =>
      e = .returned (.int .i64 2) ∧ RL w' R G 2 [5, 6] ∧ Ch [R, G] w w' := push_lit h [5, 6, 7] (by decide)
theorem push8 {w : World} {R G : Nat} (h : RL w R G 2 [6]) :
    Calls Try.prog 10 #[.pointer (some ⟨R, 0, none⟩), .slice (some ⟨w.heap.size, 0, none⟩) 1 1] (w.alloc (.cells #[.int .i64 8] 3)) fun e w' =>
      e = .returned (.int .i64 1) ∧ RL w' R G 2 [6, 8] ∧ Ch [R, G] w w' := push_lit h [8] (by decide)
theorem take68 {w : World} {R G : Nat} (h : RL w R G 2 [6, 8]) :
    Calls Try.prog 13 #[.pointer (some ⟨R, 0, none⟩), .int .i64 1] w fun e w' =>
      e = .returned (.tuple #[.int .i64 8, .bool true]) ∧ RL w' R G 2 [6] ∧ Ch [R, G] w w' := take_l h 1 (by decide)
theorem list6 {w : World} {R G : Nat} (h : RL w R G 2 [6]) :
    Calls Try.prog 18 #[.pointer (some ⟨R, 0, none⟩)] w fun e W' =>
      ∃ g cap, e = .returned (.slice (some ⟨g, 0, none⟩) 1 cap) ∧ W'.cell? ⟨g, 0, none⟩ = some (.int .i64 6) ∧ Below w.heap.size w W' := by
  refine (list_l h).mono ?_
  rintro e W' ⟨v, rfl, hown, hB⟩
  obtain ⟨g, cap, rfl⟩ := ownsRow_succ (k := 0) hown
  exact ⟨g, cap, rfl, World.ownsRow.cellAt hown 0 (by decide), hB⟩
theorem new2 (w : World) : Calls Try.prog 7 #[.int .i64 2] w fun e w' => ∃ R, e = .returned (.tuple #[.pointer (some ⟨R, 0, none⟩), .int .i64 0]) ∧
      RL w' R w.heap.size 2 [] ∧ Below w.heap.size w w' ∧ w.heap.size < R ∧ R < w'.heap.size := new_l 2 w (by decide) (by decide)

set_option maxHeartbeats 1000000 in
theorem known_any (w : World) : Calls Try.prog 8 #[] w fun e w' => e = .returned (.bool true) ∧ Below w.heap.size w w' := by
  obtain ⟨S, hS⟩ : ∃ S, S = w.heap.size := ⟨_, rfl⟩
  have HN := Lib.hid (new2 w)
  have HB0 := Lib.hid (Below.refl w.heap.size w)
  rw [← hS] at HN HB0 ⊢
  clear hS
  go_enter Try.func8, Try.ntmps8
  go_wp2_with fail
  refine HN.out.mono ?_
  rintro e w1 ⟨R, rfl, h1, hb1, hR, hR2⟩
  have HS : ∀ k ∈ [R, S], S ≤ k := by simp; omega
  have hsz1 : S ≤ w1.heap.size := by omega
  go_wp2_with fail
  refine (push567 h1).mono ?_
  rintro e w2 ⟨rfl, h2, hc2⟩
  have hb2 := hb1.trans (hc2.below S HS hsz1)
  have hsz2 := Nat.le_trans hsz1 hc2.size
  clear h1 hb1 hc2 hR2
  go_wp2_with fail
  refine (pop_l h2).mono ?_
  rintro e w3 ⟨rfl, h3, hc3⟩
  have hb3 := hb2.trans (hc3.below S HS hsz2)
  have hsz3 := Nat.le_trans hsz2 hc3.size
  clear h2 hb2 hc3
  go_wp2_with fail
  refine (push8 h3).mono ?_
  rintro e w4 ⟨rfl, h4, hc4⟩
  have hb4 := hb3.trans (hc4.below S HS hsz3)
  have hsz4 := Nat.le_trans hsz3 hc4.size
  clear h3 hb3 hc4
  go_wp2_with fail
  refine (take68 h4).mono ?_
  rintro e w5 ⟨rfl, h5, hc5⟩
  have hb5 := hb4.trans (hc5.below S HS hsz4)
  have hsz5 := Nat.le_trans hsz4 hc5.size
  clear h4 hb4 hc5
  go_wp2_with fail
  refine (list6 h5).mono ?_
  rintro e w6 ⟨g, cap, rfl, hcell, hb6⟩
  have hb7 := hb5.trans (hb6.mono hsz5)
  clear h5 hb5 hb6
  go_wp2
  go_ret
  exact ⟨rfl, hb7⟩
end Go.Proofs.Ytkjkaihbpccdmaa.rI
