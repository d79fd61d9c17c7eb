/-
  Rows of words compared; what the laws know.
-/
import Derived.Test.YtaccfjlpojglpaaBuS
namespace Go.Proofs.Ytaccfjlpojglpaa
open Go.RowKit bI

attribute [local go_sem] Oper.semAt_some

theorem KU_quiet {w w' : World} {a : Option Addr} {zs : List Nat} (h : KU w a zs) (hc : Ch [] w w') : KU w' a zs := by
  rcases h with h | ⟨b, off, rfl, h⟩
  · exact .inl h
  · exact .inr ⟨b, off, rfl, fun j k hj => (hc.cell (p := ⟨b, off + j, none⟩) (cell_lt (h j k hj)) (by simp)).trans (h j k hj)⟩
theorem KU_at {W : World} {a : Option Addr} {zs : List Nat} (h : KU W a zs) {j k : Nat} (hj : zs[j]? = some k) : ∃ b off, a = some ⟨b, off, none⟩ ∧ W.cell? ⟨b, off + j, none⟩ = some (.int .u64 (k : Int)) := by
  rcases h with h | ⟨b, off, rfl, h⟩
  · rw [h] at hj; simp at hj
  · exact ⟨b, off, rfl, h j k hj⟩
theorem KU_cell {W : World} {b off : Nat} {zs : List Nat} (h : KU W (some ⟨b, off, none⟩) zs) {j k : Nat} (hj : zs[j]? = some k) : W.cell? ⟨b, off + j, none⟩ = some (.int .u64 (k : Int)) := by
  rcases h with h | ⟨b', off', e, h⟩
  · rw [h] at hj; simp at hj
  · cases e
    exact h j k hj
theorem own_KU {w : World} {B n : Nat} {a : Option Addr} {cap : Nat} {zs : List Nat} (h : w.ownsRow B 29 1 (.slice a n cap) n (u64s zs)) : n = zs.length ∧ KU w a zs := by
  have hl := h.1
  rw [u64s_len, Nat.mul_one] at hl
  refine ⟨hl.symm, ?_⟩
  rcases h.2 with ⟨e, h0⟩ | ⟨g, cap', cur, e, _⟩
  · cases e
    exact .inl (List.length_eq_zero_iff.1 (by omega))
  · cases e
    refine .inr ⟨g, 0, rfl, fun j k hj => ?_⟩
    have hlt := (List.getElem?_eq_some_iff.1 hj).1
    rw [Nat.zero_add, World.ownsRow.cellAt h j (by omega)]
    simp [u64s, hj]
theorem same_eq (a1 a2 : Option Addr) (cap1 cap2 : Nat) (zs : List Nat) {n : Nat} (hn : n = zs.length) (w : World) (hl : n ≤ 9223372036854775807) (h1 : KU w a1 zs) (h2 : KU w a2 zs) :
    Calls Try.prog 18 #[.slice a1 n cap1, .slice a2 n cap2] w fun e w' => e = .returned (.bool true) ∧ ∃ m, w' = w.drewN m := by
  have HN := Lib.hid hn
  have H1 := Lib.hid h1
  have H2 := Lib.hid h2
  clear hn h1 h2
  go_enter Try.func18, Try.ntmps18
  go_wp2
  go_loopw [5] (fun i wr => ∃ k m : Nat, k ≤ n ∧ i = .int .i64 (k : Int) ∧ wr = w.drewN m) (fun i _ => n - (intOf i).toNat)
  case atStart => exact ⟨0, 0, by omega, rfl, rfl⟩
  case round =>
    obtain ⟨k, m, hk, rfl, rfl⟩ := hrel
    by_cases hlt : k < n
    · rcases H1.out with h0 | ⟨b, off, rfl, hc⟩
      · exfalso; rw [HN.out, h0] at hlt; simp at hlt
      · rcases H2.out with h0 | ⟨b2, off2, rfl, hc2⟩
        · exfalso; rw [HN.out, h0] at hlt; simp at hlt
        · obtain ⟨z, hz⟩ : ∃ z, zs[k]? = some z := ⟨_, List.getElem?_eq_getElem (by rw [← HN.out]; exact hlt)⟩
          have hc := hc k z hz
          have hc2 := hc2 k z hz
          clear hz
          have hzz : ((z : Int) != (z : Int)) = false := by simp
          go_wp2
          go_quiet (fail)
          go_wp2
          go_roundw
          case rel => exact ⟨k + 1, _, by omega, by go_num, rfl⟩
          case measure => simp [intOf]; omega
    · go_wp2
      go_ret
      exact ⟨rfl, m, rfl⟩
theorem lit2_KU (W : World) (x y : Nat) (t : TypeId) : KU (W.alloc (.cells #[.int .u64 (x : Int), .int .u64 (y : Int)] t)) (some ⟨W.heap.size, 0, none⟩) [x, y] := .inr ⟨_, 0, rfl, fun j k hj => by
  rw [World.cell?_alloc_at _ _ _ _ rfl]
  match j, hj with
  | 0, hj => simp at hj; subst hj; rfl
  | 1, hj => simp at hj; subst hj; rfl
  | j + 2, hj => simp at hj⟩

set_option maxHeartbeats 1000000 in
theorem known_any (w : World) : Calls Try.prog 8 #[] w fun e w' => e = .returned (.bool true) ∧ Ch [] w w' := by
  have hN := tl_new 1 2 w w (Ch.refl _ _) (by omega) (by omega)
  rw [show (((1 : Nat) : Int)) = 1 from rfl, show (((2 : Nat) : Int)) = 2 from rfl] at hN
  have HN := Lib.hid hN
  clear hN
  go_enter Try.func8, Try.ntmps8
  go_wp2_with fail
  with_reducible refine HN.out.mono ?_
  rintro e w1 ⟨R, rfl, h1, -⟩
  have hP := h1.put 5 50 (X := [⟨5, 50⟩]) (b := false) (e := 0) rfl
  rw [show (((5 : Nat) : Int)) = 5 from rfl, show (((0 : Nat) : Int)) = 0 from rfl] at hP
  have HP := Lib.hid hP
  clear h1 hP HN
  go_wp2_with fail
  with_reducible refine HP.out.mono ?_
  rintro e w2 ⟨rfl, h2, -⟩
  have hP := h2.put 6 60 (X := [⟨6, 60⟩, ⟨5, 50⟩]) (b := false) (e := 0) rfl
  rw [show (((6 : Nat) : Int)) = 6 from rfl, show (((0 : Nat) : Int)) = 0 from rfl] at hP
  have HP2 := Lib.hid hP
  clear h2 hP HP
  go_wp2_with fail
  with_reducible refine HP2.out.mono ?_
  rintro e w3 ⟨rfl, h3, -⟩
  have H3 := Lib.hid h3
  have HK := Lib.hid h3.keys
  clear h3 HP2
  go_wp2_with fail
  with_reducible refine HK.out.mono ?_
  rintro e w4 ⟨v, rfl, hr, hc4⟩
  rw [show keysE 1 ([⟨6, 60⟩, ⟨5, 50⟩] : List E) = [6, 5] from by decide] at hr
  obtain ⟨a, cap, rfl⟩ := own_form hr
  have H4 := Lib.hid (H3.out.quiet hc4)
  have hk4 := KU_quiet (own_KU hr).2 ((Ch.refl [] w4).alloc (.cells #[.int .u64 6, .int .u64 5] 29))
  have hS := same_eq a (some ⟨w4.heap.size, 0, none⟩) cap 2 [6, 5] (n := 2) rfl _ (by omega) hk4 (lit2_KU w4 6 5 29)
  have HS := Lib.hid hS
  clear hr hc4 hk4 hS H3 HK
  go_wp2_with fail
  with_reducible refine HS.out.mono ?_
  rintro e w5 ⟨rfl, nq, hw5⟩
  have hc5 : Ch [] w4 w5 := by rw [hw5]; exact ((Ch.refl [] w4).alloc _).drewN nq
  have hP := (H4.out.quiet hc5).put 5 51 (X := [⟨6, 60⟩, ⟨5, 51⟩]) (b := true) (e := 0) rfl
  rw [show (((5 : Nat) : Int)) = 5 from rfl, show (((0 : Nat) : Int)) = 0 from rfl] at hP
  have HP := Lib.hid hP
  clear hP hw5 hc5 H4 HS
  go_wp2_with fail
  with_reducible refine HP.out.mono ?_
  rintro e w6 ⟨rfl, h6, -⟩
  have hP := h6.put 7 70 (X := [⟨6, 60⟩, ⟨5, 51⟩]) (b := false) (e := 3) rfl
  rw [show (((7 : Nat) : Int)) = 7 from rfl, show (((3 : Nat) : Int)) = 3 from rfl] at hP
  have HP2 := Lib.hid hP
  clear h6 hP HP
  go_wp2_with fail
  with_reducible refine HP2.out.mono ?_
  rintro e w7 ⟨rfl, h7, -⟩
  have hD := (h7.quiet ((Ch.refl [] w7).alloc (.cells #[.int .u64 6, .int .u64 6] 29))).del [6, 6] (m := 2) (cap := 2) rfl (by omega) w7.heap.size (World.alloc_heap_new w7 _) (X := [⟨5, 51⟩]) (c := 1) rfl
  rw [show (((1 : Nat) : Int)) = 1 from rfl] at hD
  have HD := Lib.hid hD
  clear h7 hD HP2
  go_wp2_with fail
  with_reducible refine HD.out.mono ?_
  rintro e w8 ⟨rfl, h8, -⟩
  have HE := Lib.hid h8.ch
  clear h8 HD
  go_wp2_with fail
  go_ret
  exact ⟨rfl, HE.out⟩
end Go.Proofs.Ytaccfjlpojglpaa
