/-
  A ring of int as a list: what its calls answer and leave.
-/
import Derived.Test.YtkjkaihbpccdmaaRIE
namespace Go.Proofs.Ytkjkaihbpccdmaa.rI
open Go.RowKit

/-- The ring in the blocks R and G holds these, in order. -/
def RL (w : World) (R G room : Nat) (xs : List Int) : Prop := ∃ first L, RC w R G room first xs.length L ∧ ∀ j, j < xs.length → L j = xs[j]?.getD 0

theorem RL.ch {w w' : World} {S : List Nat} {R G room : Nat} {xs : List Int} (h : RL w R G room xs) (hc : Ch S w w') (hR : R ∉ S) (hG : G ∉ S) : RL w' R G room xs := by
  obtain ⟨first, L, h, hL⟩ := h
  exact ⟨first, L, h.ch hc hR hG, hL⟩
theorem RL.le {w : World} {R G room : Nat} {xs : List Int} (h : RL w R G room xs) : xs.length ≤ room ∧ room ≤ 256 ∧ R ≠ G := by
  obtain ⟨first, L, h, hL⟩ := h
  exact ⟨h.hr, h.r2, h.ne⟩
theorem RL.lt {w : World} {R G room : Nat} {xs : List Int} (h : RL w R G room xs) : R < w.heap.size ∧ G < w.heap.size := by
  obtain ⟨first, L, h, hL⟩ := h
  have h1 := cell_lt h.c0
  have h2 := cell_lt (h.cs 0 (by have := h.r1; omega))
  exact ⟨h1, h2⟩

theorem new_l (room : Nat) (w : World) (h1 : 1 ≤ room) (h2 : room ≤ 256) :
    Calls Try.prog 7 #[.int .i64 (room : Int)] w fun e w' => ∃ R, e = .returned (.tuple #[.pointer (some ⟨R, 0, none⟩), .int .i64 0]) ∧
      RL w' R w.heap.size room [] ∧ Below w.heap.size w w' ∧ w.heap.size < R ∧ R < w'.heap.size :=
  (new_any room w h1 h2).mono fun e w' ⟨R, he, hr, hb, h3, h4⟩ => ⟨R, he, ⟨0, _, hr, fun j hj => by simp at hj⟩, hb, h3, h4⟩

theorem len_l {w : World} {R G room : Nat} {xs : List Int} (h : RL w R G room xs) :
    Calls Try.prog 15 #[.pointer (some ⟨R, 0, none⟩)] w fun e w' => e = .returned (.int .i64 (xs.length : Int)) ∧ w = w' := by
  obtain ⟨first, L, h, hL⟩ := h
  exact len_any h
theorem room_l {w : World} {R G room : Nat} {xs : List Int} (h : RL w R G room xs) :
    Calls Try.prog 16 #[.pointer (some ⟨R, 0, none⟩)] w fun e w' => e = .returned (.int .i64 (room : Int)) ∧ w = w' := by
  obtain ⟨first, L, h, hL⟩ := h
  exact room_any h

theorem push_l {w : World} {R G room : Nat} {xs : List Int} (h : RL w R G room xs) (a : Option Addr) (cap : Nat) (zs : List Int) (hz : IAt w a zs) (hl : zs.length ≤ cap) (hc : cap ≤ 9223372036854775807)
    (hb : zs ≠ [] → ∀ x, a = some x → x.block ∉ [R, G]) :
    Calls Try.prog 10 #[.pointer (some ⟨R, 0, none⟩), .slice a zs.length cap] w fun e w' =>
      e = .returned (.int .i64 ((min zs.length (room - xs.length) : Nat) : Int)) ∧ RL w' R G room (xs ++ zs.take (room - xs.length)) ∧ Ch [R, G] w w' := by
  obtain ⟨first, L, h, hL⟩ := h
  refine (push_any h a cap zs hz hl hc hb _ rfl).mono ?_
  rintro e w' ⟨rfl, hr, hch⟩
  have hlen : (xs ++ zs.take (room - xs.length)).length = xs.length + min zs.length (room - xs.length) := by simp [Nat.min_comm]
  refine ⟨rfl, ⟨first, _, by rw [hlen]; exact hr, fun j hj => ?_⟩, hch⟩
  rw [hlen] at hj
  unfold pushTo
  by_cases e : xs.length ≤ j
  · rw [if_pos ⟨e, hj⟩, List.getElem?_append_right e, List.getElem?_take_of_lt (by omega)]
  · rw [if_neg (by omega), hL j (by omega), List.getElem?_append_left (by omega)]

theorem at_l {w : World} {R G room : Nat} {xs : List Int} (h : RL w R G room xs) (i : Nat) (hi : i < xs.length) :
    Calls Try.prog 14 #[.pointer (some ⟨R, 0, none⟩), .int .i64 (i : Int)] w fun e w' => e = .returned (.tuple #[.int .i64 (xs[i]?.getD 0), .bool true]) ∧ ∃ n, w' = w.drewN n := by
  obtain ⟨first, L, h, hL⟩ := h
  rw [← hL i hi]
  exact at_some h i hi
theorem at_out {w : World} {R G room : Nat} {xs : List Int} (h : RL w R G room xs) (i : Int) (hi : i < 0 ∨ (xs.length : Int) ≤ i) :
    Calls Try.prog 14 #[.pointer (some ⟨R, 0, none⟩), .int .i64 i] w fun e w' => e = .returned (.tuple #[.int .i64 0, .bool false]) ∧ w = w' := by
  obtain ⟨first, L, h, hL⟩ := h
  exact at_none h i hi

theorem erase_of {L : Nat → Int} {xs : List Int} {room i held : Nat} (hl : xs.length = held + 1) (hr : held + 1 ≤ room) (hi : i < held + 1) (hL : ∀ j, j < xs.length → L j = xs[j]?.getD 0) :
    ∀ j, j < (xs.eraseIdx i).length → rot room (upd (shiftTo L 0 i) 0 0) j = (xs.eraseIdx i)[j]?.getD 0 := by
  intro j hj
  rw [List.length_eraseIdx, if_pos (by omega)] at hj
  unfold rot
  rw [if_pos (by omega)]
  unfold upd
  rw [if_neg (by omega)]
  unfold shiftTo
  rw [List.getElem?_eraseIdx]
  by_cases e : j < i
  · rw [if_pos (by omega), if_pos e]; exact hL j (by omega)
  · rw [if_neg (by omega), if_neg e]; exact hL (j + 1) (by omega)

theorem take_l {w : World} {R G room : Nat} {xs : List Int} (h : RL w R G room xs) (i : Nat) (hi : i < xs.length) :
    Calls Try.prog 13 #[.pointer (some ⟨R, 0, none⟩), .int .i64 (i : Int)] w fun e w' =>
      e = .returned (.tuple #[.int .i64 (xs[i]?.getD 0), .bool true]) ∧ RL w' R G room (xs.eraseIdx i) ∧ Ch [R, G] w w' := by
  obtain ⟨first, L, h, hL⟩ := h
  obtain ⟨held, hh⟩ : ∃ held, xs.length = held + 1 := ⟨xs.length - 1, by omega⟩
  rw [hh] at h
  rw [← hL i hi]
  refine (take_some h i (by omega)).mono ?_
  rintro e w' ⟨rfl, hr, hch⟩
  exact ⟨rfl, ⟨_, _, by rw [List.length_eraseIdx, if_pos hi, hh]; exact hr, erase_of hh h.hr (by omega) hL⟩, hch⟩
theorem take_out {w : World} {R G room : Nat} {xs : List Int} (h : RL w R G room xs) (i : Int) (hi : i < 0 ∨ (xs.length : Int) ≤ i) :
    Calls Try.prog 13 #[.pointer (some ⟨R, 0, none⟩), .int .i64 i] w fun e w' => e = .returned (.tuple #[.int .i64 0, .bool false]) ∧ w = w' := by
  obtain ⟨first, L, h, hL⟩ := h
  exact take_none h i hi

theorem pop_l {w : World} {R G room : Nat} {x : Int} {xs : List Int} (h : RL w R G room (x :: xs)) :
    Calls Try.prog 12 #[.pointer (some ⟨R, 0, none⟩)] w fun e w' =>
      e = .returned (.tuple #[.int .i64 x, .bool true]) ∧ RL w' R G room xs ∧ Ch [R, G] w w' := by
  obtain ⟨first, L, h, hL⟩ := h
  have h0 : L 0 = x := hL 0 (by simp)
  refine (pop_some h).mono ?_
  rintro e w' ⟨rfl, hr, hch⟩
  have he := erase_of (room := room) (i := 0) (held := xs.length) rfl h.hr (by omega) hL
  rw [shift_start] at he
  exact ⟨by rw [h0], ⟨_, _, hr, he⟩, hch⟩
theorem pop_out {w : World} {R G room : Nat} (h : RL w R G room []) :
    Calls Try.prog 12 #[.pointer (some ⟨R, 0, none⟩)] w fun e w' => e = .returned (.tuple #[.int .i64 0, .bool false]) ∧ w = w' := by
  obtain ⟨first, L, h, hL⟩ := h
  exact pop_none h

theorem ints_lit (w : World) (zs : List Int) (t : TypeId) : IAt (w.alloc (.cells (zs.map (Value.int .i64)).toArray t)) (some ⟨w.heap.size, 0, none⟩) zs := by
  refine .inr ⟨w.heap.size, 0, rfl, fun i hi => ?_⟩
  rw [World.cell?_alloc_at _ _ _ _ rfl]
  simp [hi]

theorem push_lit {w : World} {R G room : Nat} {xs : List Int} (h : RL w R G room xs) (zs : List Int) (hl : zs.length ≤ 256) :
    Calls Try.prog 10 #[.pointer (some ⟨R, 0, none⟩), .slice (some ⟨w.heap.size, 0, none⟩) zs.length zs.length] (w.alloc (.cells (zs.map (Value.int .i64)).toArray 3)) fun e w' =>
      e = .returned (.int .i64 ((min zs.length (room - xs.length) : Nat) : Int)) ∧ RL w' R G room (xs ++ zs.take (room - xs.length)) ∧ Ch [R, G] w w' := by
  have hlt := h.lt
  refine (push_l (h.ch (S := []) ((Ch.refl _ w).alloc _) (by simp) (by simp)) _ _ zs (ints_lit w zs _) (Nat.le_refl _) (by omega) (fun _ x e => by cases e; simp; omega)).mono ?_
  rintro e w' ⟨rfl, hr, hc⟩
  exact ⟨rfl, hr, (((Ch.refl _ w).alloc _).trans hc)⟩
end Go.Proofs.Ytkjkaihbpccdmaa.rI
