/-
  The answer's Turn: bringing (0), evicting (1), breaking (2) a page. (Written by gen/user13.py.)
-/
import Derived.Test.YtcdolkbljheniaaUsV
namespace Go.Proofs.Ytcdolkbljheniaa
open Go.RowKit

/-- Some bytes of a page are told anew what their page is. -/
def hT (s : Nat → Int) (k : Nat) (v : Int) (j : Nat) : Nat → Int := fun i => if 16 * k ≤ i ∧ i < 16 * k + j then v else byPage s i
theorem hT_zero (s : Nat → Int) (k : Nat) (v : Int) : hT s k v 0 = byPage s := by funext i; unfold hT; rw [if_neg (by omega)]
theorem hT_step (s : Nat → Int) (k : Nat) (v : Int) (j : Nat) : putF (hT s k v j) (16 * k + j) v = hT s k v (j + 1) := by
  funext i
  by_cases e : i = 16 * k + j
  · subst e
    rw [putF_same]
    unfold hT
    rw [if_pos (by omega)]
  · rw [putF_other _ _ e]
    unfold hT
    by_cases h : 16 * k ≤ i ∧ i < 16 * k + j
    · rw [if_pos h, if_pos (by omega)]
    · rw [if_neg h, if_neg (by omega)]
theorem hT_all (s : Nat → Int) (k : Nat) (v : Int) : hT s k v 16 = byPage (putF s k v) := by
  funext i
  unfold hT byPage
  by_cases e : i / 16 = k
  · rw [if_pos (by omega), e, putF_same]
  · rw [if_neg (by omega), putF_other _ _ e]

set_option maxHeartbeats 2000000 in
theorem rturn0_any {w : World} {g N cap : Nat} {x : MS} (r : RM w g N x.b (byPage x.s)) (h1 : 1 ≤ x.n) (h16 : x.n ≤ 16) (hN : 16 * x.n = N) (p : Int) :
    Calls Try.prog 28 #[.slice (some ⟨g, 0, none⟩) N cap, .int .i64 p, .int .i64 0] w fun e w' => ∃ g' cp, e = .returned (.tuple #[.slice (some ⟨g', 0, none⟩) N cp, .int .i64 (turnE x p 0)]) ∧ RM w' g' N x.b (byPage (turnS x p 0).s) ∧ Ch [] w w' ∧ (g' = g ∨ w.heap.size ≤ g') := by
  obtain ⟨i0, hI, hz0, hz1, hz2⟩ : ∃ i : TypeInfo, Try.prog.info? 85 = some i ∧ i.zero = some (.agg #[.int .u8 0, .int .i64 0]) ∧ i.size = 2 ∧ i.bytes = 16 := by
    refine ⟨_, rfl, by kernel_rfl, by kernel_rfl, by kernel_rfl⟩
  have hq : Int.tdiv (N : Int) 16 = (x.n : Int) := by rw [Int.tdiv_eq_ediv_of_nonneg (by omega)]; omega
  have hwq : IntKind.i64.wrap (x.n : Int) = (x.n : Int) := IntWalk.i64_in _ (by omega)
  have HR := Lib.hid r
  have hglt := r.lt
  have HN := Lib.hid hN
  by_cases hp : 0 ≤ p ∧ p < x.n
  · obtain ⟨k, rfl⟩ : ∃ k : Nat, p = (k : Int) := ⟨p.toNat, by omega⟩
    have hk : k < x.n := by omega
    have hk' : (k : Int) < (x.n : Int) := by omega
    have HS := Lib.hid (show Calls Try.prog 40 #[.slice (some ⟨g, 0, none⟩) N cap, .int .i64 (k : Int)] w (fun e w' => e = .returned (.int .i64 (x.s k)) ∧ w = w') from by
      have := rstate_any (cap := cap) (x := x) (n := N) (by rw [hN]; exact r) h16 hN (k : Int)
      rwa [show stateV x (k : Int) = x.s k by unfold stateV; rw [if_pos hp]; rfl] at this)
    obtain ⟨u, hu⟩ : ∃ u, u = 16 * k := ⟨_, rfl⟩
    have hm : IntKind.i64.wrap ((k : Int) * 16) = (u : Int) := by rw [IntWalk.i64_in _ (by omega)]; omega
    have hE : turnE x (k : Int) 0 = kindE (x.s k) 0 := by unfold turnE; rw [if_pos hp]; rfl
    have hN256 : N ≤ 256 := by omega
    have hkN : 16 * k + 16 ≤ N := by omega
    have HU := Lib.hid hu
    clear hu hN
    by_cases h2 : x.s k = 2
    · have hE2 : turnE x (k : Int) 0 = 14 := by rw [hE]; simp [kindE, *]
      have hS : turnS x (k : Int) 0 = x := by unfold turnS; rw [if_neg (by rw [hE2]; decide)]
      rw [hE2, hS]
      rw [h2] at HS
      clear r hp hE hE2 hS h2 hI hz0 hz1 hz2
      go_enter Try.func28, Try.ntmps28
      go_wp2_with (with_reducible refine HS.out.mono ?_; rintro e w' ⟨rfl, rfl⟩)
      go_ret2
      exact ⟨g, cap, rfl, HR.out, Ch.refl _ _, .inl rfl⟩
    · by_cases h1 : x.s k = 1
      · have hE2 : turnE x (k : Int) 0 = 5 := by rw [hE]; simp [kindE, *]
        have hS : turnS x (k : Int) 0 = x := by unfold turnS; rw [if_neg (by rw [hE2]; decide)]
        rw [hE2, hS]
        rw [h1] at HS
        clear r hp hE hE2 hS h1 h2 hI hz0 hz1 hz2
        go_enter Try.func28, Try.ntmps28
        go_wp2_with (with_reducible refine HS.out.mono ?_; rintro e w' ⟨rfl, rfl⟩)
        go_ret2
        exact ⟨g, cap, rfl, HR.out, Ch.refl _ _, .inl rfl⟩
      · have hb1 : (x.s k == 1) = false := by simpa using h1
        have hb2 : (x.s k == 2) = false := by simpa using h2
        have hE2 : turnE x (k : Int) 0 = 0 := by rw [hE]; simp [kindE, *]
        have hS : turnS x (k : Int) 0 = ⟨x.n, putF x.s k 1, x.b⟩ := by unfold turnS; rw [if_pos hE2]; rfl
        rw [hE2, hS]
        clear r hp hE hE2 hS h1 h2
        go_enter Try.func28, Try.ntmps28
        go_wp2_with (first | (with_reducible refine HS.out.mono ?_; rintro e w' ⟨rfl, rfl⟩) | (at_builtin; go_must (refine wpList_append_own _ rfl _ _ 30 rfl w.heap.size 85 i0 (.agg #[.int .u8 0, .int .i64 0]) 2 16 Try.underlying30 hI hz0 hz1 hz2 rfl (by decide) (.slice (some ⟨w.heap.size, 0, none⟩) 0 0) 0 [] rfl ?c0 ⟨g, 0, none⟩ N cap (rowL N x.b (byPage x.s)) rfl (rowL_len N x.b (byPage x.s)) ?c2 (rowL_one N x.b (byPage x.s)) ?c3 ?c4 ?c5 ?_)))
        case c0 => exact World.ownsRow_lit w #[] 0 (Nat.le_refl _) (Nat.zero_le _) rfl
        case c2 => exact (HR.out.ch ((Ch.refl [] w).alloc _) (by simp)).cells
        case c3 => unfold maxLen; omega
        case c4 => omega
        case c5 => simp
        intro v1 w1 hown1 hgrow1 _
        have hc1 : Ch [] w w1 := ((Ch.refl [] w).alloc (.cells #[] 85)).kept hgrow1 (fun r e => by simp [Value.ownBlock] at e; omega)
        obtain ⟨p1, cp1, rfl⟩ := own_form hown1
        have hown2 : w1.ownsRow w.heap.size 85 2 (.slice p1 N cp1) N (rowL N x.b (byPage x.s)) := by simpa using hown1
        obtain ⟨g1, rfl, hlo, hR1⟩ := RM.of_own (by omega) hown2
        have HR1 := Lib.hid (show RM w1 g1 N x.b (hT x.s k 1 0) from by rw [hT_zero]; exact hR1)
        have HC1 := Lib.hid hc1
        clear hown1 hown2 hgrow1 hc1 hR1 hI hz0 hz1 hz2
        go_wp2_with fail
        go_loopw [11] (fun i wr => Ch [] w wr ∧ ∃ j : Nat, i = .int .i64 (j : Int) ∧ j ≤ 16 ∧ RM wr g1 N x.b (hT x.s k 1 j)) (fun i _ => 16 - (intOf i).toNat)
        case atStart => exact ⟨HC1.out, 0, rfl, Nat.zero_le _, HR1.out⟩
        case round =>
          obtain ⟨hcw, j, rfl, hj1, hrm⟩ := hrel
          have HC := Lib.hid hcw
          have HM := Lib.hid hrm
          by_cases hlt : j < 16
          · have hlt' : (j : Int) < 16 := by omega
            obtain ⟨t, ht⟩ : ∃ t, t = 16 * k + j := ⟨_, rfl⟩
            have hadd : IntKind.i64.wrap ((u : Int) + (j : Int)) = (t : Int) := by have hu := HU.out; rw [IntWalk.i64_in _ (by omega)]; omega
            have htN : t < N := by omega
            have htN' : (t : Int) < (N : Int) := by omega
            have d2 := hrm.s t htN
            have d3 := hrm.fr (t * 2 + 1)
            have HX := Lib.hid (show RM (wr.setCell ⟨g1, t * 2 + 1, none⟩ (.int .i64 1)) g1 N x.b (hT x.s k 1 (j + 1)) from by
              have := hrm.setS htN 1
              rwa [ht, hT_step, ← ht] at this)
            have HX2 := Lib.hid (chSetNew HC.out (p := ⟨g1, t * 2 + 1, none⟩) hlo (.int .i64 1))
            clear hcw hrm ht
            go_wp2_with fail
            go_roundw
            case rel => exact ⟨HX2.out, j + 1, by go_num, by omega, HX.out⟩
            case measure => simp [intOf]; omega
          · obtain rfl : j = 16 := by omega
            have HX := Lib.hid (show RM wr g1 N x.b (byPage (putF x.s k 1)) from by have := HM.out; rwa [hT_all] at this)
            clear hcw hrm
            go_wp2
            go_ret2
            exact ⟨g1, cp1, rfl, HX.out, HC.out, .inr hlo⟩
  · have hE2 : turnE x p 0 = 2 := by unfold turnE; rw [if_neg hp]
    have hS : turnS x p 0 = x := by unfold turnS; rw [if_neg (by rw [hE2]; decide)]
    rw [hE2, hS]
    by_cases h0 : p < 0
    · clear r hp hE2 hS hN hI hz0 hz1 hz2
      go_enter Try.func28, Try.ntmps28
      go_wp2_with fail
      go_ret2
      exact ⟨g, cap, rfl, HR.out, Ch.refl _ _, .inl rfl⟩
    · have hge2 : decide ((x.n : Int) ≤ p) = true := decide_eq_true (by omega)
      clear r hp hE2 hS hN hI hz0 hz1 hz2
      go_enter Try.func28, Try.ntmps28
      go_wp2_with fail
      go_ret2
      exact ⟨g, ⟨cap, rfl⟩, HR.out, Ch.refl _ _, .inl rfl⟩

set_option maxHeartbeats 2000000 in
theorem rturn1_any {w : World} {g N cap : Nat} {x : MS} (r : RM w g N x.b (byPage x.s)) (h1 : 1 ≤ x.n) (h16 : x.n ≤ 16) (hN : 16 * x.n = N) (p : Int) :
    Calls Try.prog 28 #[.slice (some ⟨g, 0, none⟩) N cap, .int .i64 p, .int .i64 1] w fun e w' => ∃ g' cp, e = .returned (.tuple #[.slice (some ⟨g', 0, none⟩) N cp, .int .i64 (turnE x p 1)]) ∧ RM w' g' N x.b (byPage (turnS x p 1).s) ∧ Ch [] w w' ∧ (g' = g ∨ w.heap.size ≤ g') := by
  obtain ⟨i0, hI, hz0, hz1, hz2⟩ : ∃ i : TypeInfo, Try.prog.info? 85 = some i ∧ i.zero = some (.agg #[.int .u8 0, .int .i64 0]) ∧ i.size = 2 ∧ i.bytes = 16 := by
    refine ⟨_, rfl, by kernel_rfl, by kernel_rfl, by kernel_rfl⟩
  have hq : Int.tdiv (N : Int) 16 = (x.n : Int) := by rw [Int.tdiv_eq_ediv_of_nonneg (by omega)]; omega
  have hwq : IntKind.i64.wrap (x.n : Int) = (x.n : Int) := IntWalk.i64_in _ (by omega)
  have HR := Lib.hid r
  have hglt := r.lt
  have HN := Lib.hid hN
  by_cases hp : 0 ≤ p ∧ p < x.n
  · obtain ⟨k, rfl⟩ : ∃ k : Nat, p = (k : Int) := ⟨p.toNat, by omega⟩
    have hk : k < x.n := by omega
    have hk' : (k : Int) < (x.n : Int) := by omega
    have HS := Lib.hid (show Calls Try.prog 40 #[.slice (some ⟨g, 0, none⟩) N cap, .int .i64 (k : Int)] w (fun e w' => e = .returned (.int .i64 (x.s k)) ∧ w = w') from by
      have := rstate_any (cap := cap) (x := x) (n := N) (by rw [hN]; exact r) h16 hN (k : Int)
      rwa [show stateV x (k : Int) = x.s k by unfold stateV; rw [if_pos hp]; rfl] at this)
    obtain ⟨u, hu⟩ : ∃ u, u = 16 * k := ⟨_, rfl⟩
    have hm : IntKind.i64.wrap ((k : Int) * 16) = (u : Int) := by rw [IntWalk.i64_in _ (by omega)]; omega
    have hE : turnE x (k : Int) 1 = kindE (x.s k) 1 := by unfold turnE; rw [if_pos hp]; rfl
    have hN256 : N ≤ 256 := by omega
    have hkN : 16 * k + 16 ≤ N := by omega
    have HU := Lib.hid hu
    clear hu hN
    by_cases h2 : x.s k = 1
    · have hE2 : turnE x (k : Int) 1 = 0 := by rw [hE]; simp [kindE, *]
      have hS : turnS x (k : Int) 1 = ⟨x.n, putF x.s k 0, x.b⟩ := by unfold turnS; rw [if_pos hE2]; rfl
      rw [hE2, hS]
      rw [h2] at HS
      clear r hp hE hE2 hS h2
      go_enter Try.func28, Try.ntmps28
      go_wp2_with (first | (with_reducible refine HS.out.mono ?_; rintro e w' ⟨rfl, rfl⟩) | (at_builtin; go_must (refine wpList_append_own _ rfl _ _ 30 rfl w.heap.size 85 i0 (.agg #[.int .u8 0, .int .i64 0]) 2 16 Try.underlying30 hI hz0 hz1 hz2 rfl (by decide) (.slice (some ⟨w.heap.size, 0, none⟩) 0 0) 0 [] rfl ?c0 ⟨g, 0, none⟩ N cap (rowL N x.b (byPage x.s)) rfl (rowL_len N x.b (byPage x.s)) ?c2 (rowL_one N x.b (byPage x.s)) ?c3 ?c4 ?c5 ?_)))
      case c0 => exact World.ownsRow_lit w #[] 0 (Nat.le_refl _) (Nat.zero_le _) rfl
      case c2 => exact (HR.out.ch ((Ch.refl [] w).alloc _) (by simp)).cells
      case c3 => unfold maxLen; omega
      case c4 => omega
      case c5 => simp
      intro v1 w1 hown1 hgrow1 _
      have hc1 : Ch [] w w1 := ((Ch.refl [] w).alloc (.cells #[] 85)).kept hgrow1 (fun r e => by simp [Value.ownBlock] at e; omega)
      obtain ⟨p1, cp1, rfl⟩ := own_form hown1
      have hown2 : w1.ownsRow w.heap.size 85 2 (.slice p1 N cp1) N (rowL N x.b (byPage x.s)) := by simpa using hown1
      obtain ⟨g1, rfl, hlo, hR1⟩ := RM.of_own (by omega) hown2
      have HR1 := Lib.hid (show RM w1 g1 N x.b (hT x.s k 0 0) from by rw [hT_zero]; exact hR1)
      have HC1 := Lib.hid hc1
      clear hown1 hown2 hgrow1 hc1 hR1 hI hz0 hz1 hz2
      go_wp2_with fail
      go_loopw [11] (fun i wr => Ch [] w wr ∧ ∃ j : Nat, i = .int .i64 (j : Int) ∧ j ≤ 16 ∧ RM wr g1 N x.b (hT x.s k 0 j)) (fun i _ => 16 - (intOf i).toNat)
      case atStart => exact ⟨HC1.out, 0, rfl, Nat.zero_le _, HR1.out⟩
      case round =>
        obtain ⟨hcw, j, rfl, hj1, hrm⟩ := hrel
        have HC := Lib.hid hcw
        have HM := Lib.hid hrm
        by_cases hlt : j < 16
        · have hlt' : (j : Int) < 16 := by omega
          obtain ⟨t, ht⟩ : ∃ t, t = 16 * k + j := ⟨_, rfl⟩
          have hadd : IntKind.i64.wrap ((u : Int) + (j : Int)) = (t : Int) := by have hu := HU.out; rw [IntWalk.i64_in _ (by omega)]; omega
          have htN : t < N := by omega
          have htN' : (t : Int) < (N : Int) := by omega
          have d2 := hrm.s t htN
          have d3 := hrm.fr (t * 2 + 1)
          have HX := Lib.hid (show RM (wr.setCell ⟨g1, t * 2 + 1, none⟩ (.int .i64 0)) g1 N x.b (hT x.s k 0 (j + 1)) from by
            have := hrm.setS htN 0
            rwa [ht, hT_step, ← ht] at this)
          have HX2 := Lib.hid (chSetNew HC.out (p := ⟨g1, t * 2 + 1, none⟩) hlo (.int .i64 0))
          clear hcw hrm ht
          go_wp2_with fail
          go_roundw
          case rel => exact ⟨HX2.out, j + 1, by go_num, by omega, HX.out⟩
          case measure => simp [intOf]; omega
        · obtain rfl : j = 16 := by omega
          have HX := Lib.hid (show RM wr g1 N x.b (byPage (putF x.s k 0)) from by have := HM.out; rwa [hT_all] at this)
          clear hcw hrm
          go_wp2
          go_ret2
          exact ⟨g1, cp1, rfl, HX.out, HC.out, .inr hlo⟩
    · have hb1 : (x.s k != 1) = true := by simpa using h2
      have hE2 : turnE x (k : Int) 1 = 4 := by rw [hE]; simp [kindE, *]
      have hS : turnS x (k : Int) 1 = x := by unfold turnS; rw [if_neg (by rw [hE2]; decide)]
      rw [hE2, hS]
      clear r hp hE hE2 hS h2 hI hz0 hz1 hz2
      go_enter Try.func28, Try.ntmps28
      go_wp2_with (with_reducible refine HS.out.mono ?_; rintro e w' ⟨rfl, rfl⟩)
      go_ret2
      exact ⟨g, cap, rfl, HR.out, Ch.refl _ _, .inl rfl⟩
  · have hE2 : turnE x p 1 = 2 := by unfold turnE; rw [if_neg hp]
    have hS : turnS x p 1 = x := by unfold turnS; rw [if_neg (by rw [hE2]; decide)]
    rw [hE2, hS]
    by_cases h0 : p < 0
    · clear r hp hE2 hS hN hI hz0 hz1 hz2
      go_enter Try.func28, Try.ntmps28
      go_wp2_with fail
      go_ret2
      exact ⟨g, cap, rfl, HR.out, Ch.refl _ _, .inl rfl⟩
    · have hge2 : decide ((x.n : Int) ≤ p) = true := decide_eq_true (by omega)
      clear r hp hE2 hS hN hI hz0 hz1 hz2
      go_enter Try.func28, Try.ntmps28
      go_wp2_with fail
      go_ret2
      exact ⟨g, ⟨cap, rfl⟩, HR.out, Ch.refl _ _, .inl rfl⟩

set_option maxHeartbeats 2000000 in
theorem rturn2_any {w : World} {g N cap : Nat} {x : MS} (r : RM w g N x.b (byPage x.s)) (h1 : 1 ≤ x.n) (h16 : x.n ≤ 16) (hN : 16 * x.n = N) (p : Int) :
    Calls Try.prog 28 #[.slice (some ⟨g, 0, none⟩) N cap, .int .i64 p, .int .i64 2] w fun e w' => ∃ g' cp, e = .returned (.tuple #[.slice (some ⟨g', 0, none⟩) N cp, .int .i64 (turnE x p 2)]) ∧ RM w' g' N x.b (byPage (turnS x p 2).s) ∧ Ch [] w w' ∧ (g' = g ∨ w.heap.size ≤ g') := by
  obtain ⟨i0, hI, hz0, hz1, hz2⟩ : ∃ i : TypeInfo, Try.prog.info? 85 = some i ∧ i.zero = some (.agg #[.int .u8 0, .int .i64 0]) ∧ i.size = 2 ∧ i.bytes = 16 := by
    refine ⟨_, rfl, by kernel_rfl, by kernel_rfl, by kernel_rfl⟩
  have hq : Int.tdiv (N : Int) 16 = (x.n : Int) := by rw [Int.tdiv_eq_ediv_of_nonneg (by omega)]; omega
  have hwq : IntKind.i64.wrap (x.n : Int) = (x.n : Int) := IntWalk.i64_in _ (by omega)
  have HR := Lib.hid r
  have hglt := r.lt
  have HN := Lib.hid hN
  by_cases hp : 0 ≤ p ∧ p < x.n
  · obtain ⟨k, rfl⟩ : ∃ k : Nat, p = (k : Int) := ⟨p.toNat, by omega⟩
    have hk : k < x.n := by omega
    have hk' : (k : Int) < (x.n : Int) := by omega
    have HS := Lib.hid (show Calls Try.prog 40 #[.slice (some ⟨g, 0, none⟩) N cap, .int .i64 (k : Int)] w (fun e w' => e = .returned (.int .i64 (x.s k)) ∧ w = w') from by
      have := rstate_any (cap := cap) (x := x) (n := N) (by rw [hN]; exact r) h16 hN (k : Int)
      rwa [show stateV x (k : Int) = x.s k by unfold stateV; rw [if_pos hp]; rfl] at this)
    obtain ⟨u, hu⟩ : ∃ u, u = 16 * k := ⟨_, rfl⟩
    have hm : IntKind.i64.wrap ((k : Int) * 16) = (u : Int) := by rw [IntWalk.i64_in _ (by omega)]; omega
    have hE : turnE x (k : Int) 2 = kindE (x.s k) 2 := by unfold turnE; rw [if_pos hp]; rfl
    have hN256 : N ≤ 256 := by omega
    have hkN : 16 * k + 16 ≤ N := by omega
    have HU := Lib.hid hu
    clear hu hN
    by_cases h2 : x.s k = 2
    · have hE2 : turnE x (k : Int) 2 = 5 := by rw [hE]; simp [kindE, *]
      have hS : turnS x (k : Int) 2 = x := by unfold turnS; rw [if_neg (by rw [hE2]; decide)]
      rw [hE2, hS]
      rw [h2] at HS
      clear r hp hE hE2 hS h2 hI hz0 hz1 hz2
      go_enter Try.func28, Try.ntmps28
      go_wp2_with (with_reducible refine HS.out.mono ?_; rintro e w' ⟨rfl, rfl⟩)
      go_ret2
      exact ⟨g, cap, rfl, HR.out, Ch.refl _ _, .inl rfl⟩
    · have hb2 : (x.s k == 2) = false := by simpa using h2
      have hE2 : turnE x (k : Int) 2 = 0 := by rw [hE]; simp [kindE, *]
      have hS : turnS x (k : Int) 2 = ⟨x.n, putF x.s k 2, x.b⟩ := by unfold turnS; rw [if_pos hE2]; rfl
      rw [hE2, hS]
      clear r hp hE hE2 hS h2
      go_enter Try.func28, Try.ntmps28
      go_wp2_with (first | (with_reducible refine HS.out.mono ?_; rintro e w' ⟨rfl, rfl⟩) | (at_builtin; go_must (refine wpList_append_own _ rfl _ _ 30 rfl w.heap.size 85 i0 (.agg #[.int .u8 0, .int .i64 0]) 2 16 Try.underlying30 hI hz0 hz1 hz2 rfl (by decide) (.slice (some ⟨w.heap.size, 0, none⟩) 0 0) 0 [] rfl ?c0 ⟨g, 0, none⟩ N cap (rowL N x.b (byPage x.s)) rfl (rowL_len N x.b (byPage x.s)) ?c2 (rowL_one N x.b (byPage x.s)) ?c3 ?c4 ?c5 ?_)))
      case c0 => exact World.ownsRow_lit w #[] 0 (Nat.le_refl _) (Nat.zero_le _) rfl
      case c2 => exact (HR.out.ch ((Ch.refl [] w).alloc _) (by simp)).cells
      case c3 => unfold maxLen; omega
      case c4 => omega
      case c5 => simp
      intro v1 w1 hown1 hgrow1 _
      have hc1 : Ch [] w w1 := ((Ch.refl [] w).alloc (.cells #[] 85)).kept hgrow1 (fun r e => by simp [Value.ownBlock] at e; omega)
      obtain ⟨p1, cp1, rfl⟩ := own_form hown1
      have hown2 : w1.ownsRow w.heap.size 85 2 (.slice p1 N cp1) N (rowL N x.b (byPage x.s)) := by simpa using hown1
      obtain ⟨g1, rfl, hlo, hR1⟩ := RM.of_own (by omega) hown2
      have HR1 := Lib.hid (show RM w1 g1 N x.b (hT x.s k 2 0) from by rw [hT_zero]; exact hR1)
      have HC1 := Lib.hid hc1
      clear hown1 hown2 hgrow1 hc1 hR1 hI hz0 hz1 hz2
      go_wp2_with fail
      go_loopw [11] (fun i wr => Ch [] w wr ∧ ∃ j : Nat, i = .int .i64 (j : Int) ∧ j ≤ 16 ∧ RM wr g1 N x.b (hT x.s k 2 j)) (fun i _ => 16 - (intOf i).toNat)
      case atStart => exact ⟨HC1.out, 0, rfl, Nat.zero_le _, HR1.out⟩
      case round =>
        obtain ⟨hcw, j, rfl, hj1, hrm⟩ := hrel
        have HC := Lib.hid hcw
        have HM := Lib.hid hrm
        by_cases hlt : j < 16
        · have hlt' : (j : Int) < 16 := by omega
          obtain ⟨t, ht⟩ : ∃ t, t = 16 * k + j := ⟨_, rfl⟩
          have hadd : IntKind.i64.wrap ((u : Int) + (j : Int)) = (t : Int) := by have hu := HU.out; rw [IntWalk.i64_in _ (by omega)]; omega
          have htN : t < N := by omega
          have htN' : (t : Int) < (N : Int) := by omega
          have d2 := hrm.s t htN
          have d3 := hrm.fr (t * 2 + 1)
          have HX := Lib.hid (show RM (wr.setCell ⟨g1, t * 2 + 1, none⟩ (.int .i64 2)) g1 N x.b (hT x.s k 2 (j + 1)) from by
            have := hrm.setS htN 2
            rwa [ht, hT_step, ← ht] at this)
          have HX2 := Lib.hid (chSetNew HC.out (p := ⟨g1, t * 2 + 1, none⟩) hlo (.int .i64 2))
          clear hcw hrm ht
          go_wp2_with fail
          go_roundw
          case rel => exact ⟨HX2.out, j + 1, by go_num, by omega, HX.out⟩
          case measure => simp [intOf]; omega
        · obtain rfl : j = 16 := by omega
          have HX := Lib.hid (show RM wr g1 N x.b (byPage (putF x.s k 2)) from by have := HM.out; rwa [hT_all] at this)
          clear hcw hrm
          go_wp2
          go_ret2
          exact ⟨g1, cp1, rfl, HX.out, HC.out, .inr hlo⟩
  · have hE2 : turnE x p 2 = 2 := by unfold turnE; rw [if_neg hp]
    have hS : turnS x p 2 = x := by unfold turnS; rw [if_neg (by rw [hE2]; decide)]
    rw [hE2, hS]
    by_cases h0 : p < 0
    · clear r hp hE2 hS hN hI hz0 hz1 hz2
      go_enter Try.func28, Try.ntmps28
      go_wp2_with fail
      go_ret2
      exact ⟨g, cap, rfl, HR.out, Ch.refl _ _, .inl rfl⟩
    · have hge2 : decide ((x.n : Int) ≤ p) = true := decide_eq_true (by omega)
      clear r hp hE2 hS hN hI hz0 hz1 hz2
      go_enter Try.func28, Try.ntmps28
      go_wp2_with fail
      go_ret2
      exact ⟨g, ⟨cap, rfl⟩, HR.out, Ch.refl _ _, .inl rfl⟩
end Go.Proofs.Ytcdolkbljheniaa
