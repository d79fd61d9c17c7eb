/-
  Touch: page by page.
-/
import Derived.Test.YtcdolkbljheniaaUsC
import Derived.WalkMore
namespace Go.Proofs.Ytcdolkbljheniaa
open Go.RowKit

/-- What a touch has told up to an address: what is behind it tells the rest. -/
def TouchAt (s : Nat → Int) (k E t : Nat) : Prop := k ≤ t ∧ t < E + 16 ∧ tch (byPage s) k (E - k) = tch (byPage s) t (E - t)

set_option maxHeartbeats 1000000 in
theorem touch_any {w : World} {b : Nat} {x : MS} (h : UM w b x) (a m : Int) (hr : a ≤ 9223372036854775807) {p q : Int} (hpq : touchR (16 * x.n) (byPage x.s) a m = (p, q)) :
    Calls Try.prog 23 #[.pointer (some ⟨b, 0, none⟩), .int .i64 a, .int .i64 m] w fun e w' => e = .returned (.tuple #[.int .i64 p, .int .i64 q]) ∧ w = w' := by
  by_cases hin : wIn (16 * x.n) a m
  · obtain ⟨k, rfl⟩ : ∃ k : Nat, a = (k : Int) := ⟨a.toNat, by omega⟩
    obtain ⟨n, rfl⟩ : ∃ k : Nat, m = (k : Int) := ⟨m.toNat, by omega⟩
    have hkn : k + n ≤ 16 * x.n := by omega
    have HP := Lib.hid (piece_in h hkn)
    unfold touchR at hpq
    rw [if_pos hin, Int.toNat_natCast, Int.toNat_natCast] at hpq
    have hi := h.hi
    obtain ⟨E, hE⟩ : ∃ E, E = k + n := ⟨_, rfl⟩
    have hadd : IntKind.i64.wrap ((k : Int) + (n : Int)) = (E : Int) := by rw [IntWalk.i64_in _ (by omega)]; omega
    have HT := Lib.hid (show tch (byPage x.s) k (E - k) = (p, q) by rw [← hpq]; congr 1; omega)
    have hlab := h.s
    have H := Lib.hid h
    have hE256 : E ≤ 256 := by omega
    have hkE : k ≤ E := by omega
    have HE := Lib.hid hE
    clear h hin hpq hlab hr hE
    go_enter Try.func23, Try.ntmps23
    go_wp2_with fail
    go_step3
    go_wp2_with (with_reducible refine HP.out.mono ?_; rintro e w' ⟨o, cp, rfl, -, rfl⟩)
    go_step3
    go_wp2_with fail
    go_loopw [10, 11, 12] (fun f e t wr => f = .int .i64 0 ∧ e = .int .i64 0 ∧ wr = w ∧ ∃ j : Nat, t = .int .i64 (j : Int) ∧ TouchAt x.s k E j) (fun _ _ t _ => E + 16 - (intOf t).toNat)
    case atStart => exact ⟨rfl, rfl, rfl, k, rfl, Nat.le_refl _, by omega, rfl⟩
    case round =>
      obtain ⟨rfl, rfl, rfl, j, rfl, hj1, hj2, hj3⟩ := hrel
      have HJ := Lib.hid hj3
      clear hj3
      by_cases hlt : j < E
      · obtain ⟨g, hg⟩ : ∃ g, g = j / 16 := ⟨_, rfl⟩
        have hq : Int.tdiv (j : Int) 16 = (g : Int) := by rw [Int.tdiv_eq_ediv_of_nonneg (by omega)]; omega
        have hwq : IntKind.i64.wrap (g : Int) = (g : Int) := IntWalk.i64_in _ (by omega)
        have hg16 : g < 16 := by omega
        have hg16' : (g : Int) < 16 := by omega
        have c := H.out.s g hg16
        have HG := Lib.hid hg
        clear hg
        by_cases h0 : x.s g = 0
        · obtain ⟨rfl, rfl⟩ : (g : Int) = p ∧ (15 : Int) = q := by
            have h1 := HJ.out
            rw [HT.out, tch_one0 x.s (by rw [← HG.out]; exact h0) (by omega), ← HG.out] at h1
            simpa using h1.symm
          rw [h0] at c
          clear h0 hj1 hj2 HT HJ
          go_wp2
          try rw [Exit.noGoto_ret]
          go_ret2
          exact ⟨rfl, rfl⟩
        · by_cases h2 : x.s g = 2
          · obtain ⟨rfl, rfl⟩ : (g : Int) = p ∧ (14 : Int) = q := by
              have h1 := HJ.out
              rw [HT.out, tch_one2 x.s (by rw [← HG.out]; exact h2) (by omega), ← HG.out] at h1
              simpa using h1.symm
            rw [h2] at c
            clear h0 h2 hj1 hj2 HT HJ
            go_wp2
            try rw [Exit.noGoto_ret]
            go_ret2
            exact ⟨rfl, rfl⟩
          · have hb0 : (x.s g == 0) = false := by simpa using h0
            have hb2 : (x.s g == 2) = false := by simpa using h2
            obtain ⟨u, hu⟩ : ∃ u, 16 * (j / 16) + 16 = u := ⟨_, rfl⟩
            have HN := Lib.hid (next_any j (by omega) hu wr)
            have HU := Lib.hid (show TouchAt x.s k E u from ⟨by omega, by omega, by rw [HJ.out, tch_page x.s (by rw [← HG.out]; exact h0) (by rw [← HG.out]; exact h2), hu]⟩)
            have HM := Lib.hid (show E + 16 - u < E + 16 - j by omega)
            clear h0 h2 hu hj1 hj2
            go_wp2_with (with_reducible refine HN.out.mono ?_; rintro e w' ⟨rfl, rfl⟩)
            go_roundw
            case rel => exact ⟨rfl, rfl, by trivial, u, rfl, HU.out⟩
            case measure => simpa [intOf] using HM.out
      · obtain ⟨rfl, rfl⟩ : (0 : Int) = p ∧ (0 : Int) = q := by
          have h1 := HJ.out
          rw [HT.out, show E - j = 0 by omega, tch_zero] at h1
          simpa using h1.symm
        clear hj1 hj2 HT HJ
        go_wp2
        try rw [Exit.noGoto_ret]
        go_ret2
        exact ⟨rfl, rfl⟩
  · have HP := Lib.hid (piece_out h hr hin)
    unfold touchR at hpq
    rw [if_neg hin] at hpq
    obtain ⟨rfl, rfl⟩ : 0 = p ∧ 2 = q := by simpa using hpq
    clear h hin hr hpq
    go_enter Try.func23, Try.ntmps23
    go_wp2_with fail
    go_step3
    go_wp2_with (with_reducible refine HP.out.mono ?_; rintro e w' ⟨rfl, rfl⟩)
    try rw [Exit.noGoto_ret]
    go_ret2
    exact ⟨rfl, rfl⟩
end Go.Proofs.Ytcdolkbljheniaa
