/-
  Orders of ints: the oldest, the newest; rows compared; what the laws know.
-/
import Derived.Test.YtediabcgeghogaaOIK
import Derived.Test.YtediabcgeghogaaOIH
import Derived.Test.YtediabcgeghogaaOrR
namespace Go.Proofs.Ytediabcgeghogaa
open Go.RowKit oI

attribute [local go_sem] Oper.semAt_some

theorem ol_oldest {w0 w : World} {S room N : Nat} {L : List Int} (h : OL w0 w S room N L) {x : Int} {b : Bool} (hx : oldK L = x) (hb : decide (0 < L.length) = b) : Calls Try.prog 13 #[.pointer (some ⟨S + 1, 0, none⟩)] w fun r w' => r = .returned (.tuple #[.int .i64 x, .bool b]) ∧ Ch [] w w' := by
  obtain ⟨E, rfl, hg⟩ := h.og
  rw [← hx, ← hb]
  exact oldest_any hg
theorem ol_newest {w0 w : World} {S room N : Nat} {L : List Int} (h : OL w0 w S room N L) {x : Int} {b : Bool} (hx : newK L = x) (hb : decide (0 < L.length) = b) : Calls Try.prog 14 #[.pointer (some ⟨S + 1, 0, none⟩)] w fun r w' => r = .returned (.tuple #[.int .i64 x, .bool b]) ∧ Ch [] w w' := by
  obtain ⟨E, rfl, hg⟩ := h.og
  rw [← hx, ← hb]
  exact newest_any hg

theorem same_eq (a1 a2 : Option Addr) (cap1 cap2 : Nat) (zs : List Int) (w : World) (hl : zs.length ≤ 9223372036854775807) (h1 : KAt w a1 zs) (h2 : KAt w a2 zs) :
    Calls Try.prog 16 #[.slice a1 zs.length cap1, .slice a2 zs.length cap2] w fun e w' => e = .returned (.bool true) ∧ ∃ m, w' = w.drewN m := by
  obtain ⟨n, hn⟩ : ∃ n, n = zs.length := ⟨_, rfl⟩
  rw [← hn] at hl ⊢
  have HN := Lib.hid hn
  have H1 := Lib.hid h1
  have H2 := Lib.hid h2
  clear hn h1 h2
  go_enter Try.func16, Try.ntmps16
  go_wp2
  go_loopw [5] (fun i wr => ∃ k m : Nat, k ≤ n ∧ i = .int .i64 (k : Int) ∧ wr = w.drewN m) (fun i _ => n - (intOf i).toNat)
  case atStart => exact ⟨0, 0, by omega, rfl, rfl⟩
  case round =>
    obtain ⟨k, m, hk, rfl, rfl⟩ := hrel
    by_cases hlt : k < n
    · rcases H1.out with h0 | ⟨b, off, rfl, hc⟩
      · exfalso; rw [HN.out, h0] at hlt; simp at hlt
      · rcases H2.out with h0 | ⟨b2, off2, rfl, hc2⟩
        · exfalso; rw [HN.out, h0] at hlt; simp at hlt
        · obtain ⟨z, hz⟩ : ∃ z, zs[k]? = some z := ⟨_, List.getElem?_eq_getElem (by rw [← HN.out]; exact hlt)⟩
          have hc := hc k z hz
          have hc2 := hc2 k z hz
          clear hz
          have hzz : (z != z) = false := by simp
          go_wp2
          go_quiet (fail)
          go_wp2
          go_roundw
          case rel => exact ⟨k + 1, _, by omega, by go_num, rfl⟩
          case measure => simp [intOf]; omega
    · go_wp2
      go_ret
      exact ⟨rfl, m, rfl⟩

theorem known_any (w : World) : Calls Try.prog 8 #[] w fun e w' => e = .returned (.bool true) ∧ Ch [] w w' := by
  obtain ⟨S, hS⟩ : ∃ S, w.heap.size = S := ⟨_, rfl⟩
  have hN := ol_new 2 w w S hS (Ch.refl _ _) (by omega) (by omega)
  rw [show (((2 : Nat) : Int)) = 2 from rfl] at hN
  have HN := Lib.hid hN
  clear hN hS
  go_enter Try.func8, Try.ntmps8
  go_wp2_with fail
  with_reducible refine HN.out.mono ?_
  rintro e w1 ⟨rfl, h1, -, -⟩
  have hT := (h1.quiet ((Ch.refl [] w1).alloc (.cells #[.int .i64 5, .int .i64 6, .int .i64 5] 3))).touch (some ⟨w1.heap.size, 0, none⟩) 3 [5, 6, 5] (.inr ⟨_, 0, rfl, fun j x hj => by
      rw [World.cell?_alloc_at _ _ _ _ rfl]
      match j, hj with
      | 0, hj => simp at hj; subst hj; rfl
      | 1, hj => simp at hj; subst hj; rfl
      | 2, hj => simp at hj; subst hj; rfl
      | j + 3, hj => simp at hj⟩) (.inr fun x hx => by cases hx; have := h1.lt; simp; omega) (by intro k hk; simp at hk; rcases hk with rfl | rfl | rfl <;> (unfold wfK; decide)) (by simp) (X := [6, 5]) (e := 0) (by decide) (by decide)
  rw [show ([5, 6, 5] : List Int).length = 3 from rfl] at hT
  have HT := Lib.hid hT
  clear hT h1 HN
  go_wp2_with fail
  with_reducible refine HT.out.mono ?_
  rintro e w2 ⟨rfl, h2, -⟩
  have H2 := Lib.hid h2
  have HO := Lib.hid (ol_oldest h2 (x := 6) (b := true) rfl rfl)
  clear h2 HT
  go_wp2_with fail
  with_reducible refine HO.out.mono ?_
  rintro e w3 ⟨rfl, hc3⟩
  have h3 := H2.out.quiet hc3
  have HT := Lib.hid (h3.touch1 (k := 7) (by unfold wfK; decide) 3 (by simp) (X := [6, 5]) (e := 3) (by decide) (by decide))
  clear h3 hc3 H2 HO
  go_wp2_with fail
  with_reducible refine HT.out.mono ?_
  rintro e w4 ⟨rfl, h4, -⟩
  have HD := Lib.hid (h4.drop (k := 6) (by unfold wfK; decide) (X := [5]) (b := true) (by decide) (by decide))
  clear h4 HT
  go_wp2_with fail
  with_reducible refine HD.out.mono ?_
  rintro e w5 ⟨rfl, h5, -⟩
  have HT := Lib.hid (h5.touch1 (k := 7) (by unfold wfK; decide) 3 (by simp) (X := [5, 7]) (e := 0) (by decide) (by decide))
  clear h5 HD
  go_wp2_with fail
  with_reducible refine HT.out.mono ?_
  rintro e w6 ⟨rfl, h6, -⟩
  have H6 := Lib.hid h6
  have HLs := Lib.hid h6.list
  clear h6 HT
  go_wp2_with fail
  with_reducible refine HLs.out.mono ?_
  rintro e w7 ⟨v, rfl, hr, hc7⟩
  obtain ⟨a, cap, rfl⟩ := own_form hr
  have h7 := H6.out.quiet hc7
  have hk7 := (own_KAt hr).2.ch ((Ch.refl [] w7).alloc (.cells #[.int .i64 5, .int .i64 7] 3)) (by unfold NotIn; simp)
  have hS := same_eq a (some ⟨w7.heap.size, 0, none⟩) cap 2 [5, 7] _ (by simp) hk7 (.inr ⟨_, 0, rfl, fun j x hj => by
      rw [World.cell?_alloc_at _ _ _ _ rfl]
      match j, hj with
      | 0, hj => simp at hj; subst hj; rfl
      | 1, hj => simp at hj; subst hj; rfl
      | j + 2, hj => simp at hj⟩)
  rw [show ([5, 7] : List Int).length = 2 from rfl] at hS
  have HS := Lib.hid hS
  have HE := Lib.hid (h7.ch.alloc (.cells #[.int .i64 5, .int .i64 7] 3))
  clear hr hc7 h7 hk7 hS H6 HLs
  go_wp2_with fail
  with_reducible refine HS.out.mono ?_
  rintro e w8 ⟨rfl, nq, rfl⟩
  go_wp2
  go_ret
  exact ⟨rfl, HE.out.drewN nq⟩
end Go.Proofs.Ytediabcgeghogaa
