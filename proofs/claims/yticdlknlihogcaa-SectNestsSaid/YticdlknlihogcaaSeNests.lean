/-
  SectNests: a reader is outside behind leaving as often as it entered.
-/
import Derived.Test.YticdlknlihogcaaSeK
namespace Go.Proofs.Yticdlknlihogcaa
open Go.RowKit

theorem enter_facts {x : SS} {r k : Nat} (hr : r < 64) (hd : x.d r = (k : Int)) (hk : k < 8) :
    enterE x (r : Int) = 0 ∧ (enterS x (r : Int)).d r = ((k + 1 : Nat) : Int) ∧ (k = 0 → (enterS x (r : Int)).n = x.n + 1 ∧ (enterS x (r : Int)).s r = x.n + 1) ∧ (k ≠ 0 → (enterS x (r : Int)).n = x.n ∧ (enterS x (r : Int)).s r = x.s r) := by
  have he : enterE x (r : Int) = 0 := enterE_zero.2 ⟨by omega, by rw [Int.toNat_natCast, hd]; omega⟩
  have hs : enterS x (r : Int) = inS x r := by unfold enterS; rw [if_pos he]; rfl
  rw [hs]
  refine ⟨he, by rw [inS_d, if_pos rfl, hd]; omega, fun h0 => ⟨?_, ?_⟩, fun h0 => ⟨?_, ?_⟩⟩
  · unfold inS; exact if_pos (by rw [hd, h0]; rfl)
  · rw [inS_s, if_pos ⟨rfl, by rw [hd, h0]; rfl⟩]
  · unfold inS; exact if_neg (by rw [hd]; omega)
  · rw [inS_s, if_neg (fun h => by have := h.2; rw [hd] at this; omega)]
theorem exit_facts {x : SS} {r m : Nat} (hr : r < 64) (hd : x.d r = (m : Int)) (hm : 1 ≤ m) :
    exitE x (r : Int) = 0 ∧ (exitS x (r : Int)).d r = ((m - 1 : Nat) : Int) ∧ (exitS x (r : Int)).n = x.n ∧ exitB x (r : Int) = decide (m = 1) := by
  have he : exitE x (r : Int) = 0 := exitE_zero.2 ⟨by omega, by rw [Int.toNat_natCast, hd]; omega⟩
  refine ⟨he, ?_, exit_n x r, ?_⟩
  · unfold exitS; rw [if_pos he, Int.toNat_natCast, outS_d, if_pos rfl, hd]; omega
  · unfold exitB
    rw [he, Int.toNat_natCast, hd, Bool.eq_iff_iff]
    simp
    omega
theorem SL.stamp {w0 w : World} {b : Nat} {x : SS} (h : SL w0 w b x) {v : Int} (hv : x.n = v) :
    Calls Try.prog 13 #[.pointer (some ⟨b, 0, none⟩)] w fun e w' => e = .returned (.int .i64 v) ∧ w = w' := by rw [← hv]; exact stamp_any h.s

set_option maxHeartbeats 1000000 in
theorem nests_law {a0 a1 : Int} (_ : (Lit.int .i64 a0).wf = true) (_ : (Lit.int .i64 a1).wf = true) (w : World) :
    Calls Try.prog 4 #[.int .i64 a0, .int .i64 a1] w fun e w' => e = .returned (.bool true) ∧ Below w.heap.size w w' := by
  have u0 : 0 ≤ IntKind.u64.wrap a0 ∧ IntKind.u64.wrap a0 < 18446744073709551616 := by rw [IntKind.wrap_u64]; omega
  have u1 : 0 ≤ IntKind.u64.wrap a1 ∧ IntKind.u64.wrap a1 < 18446744073709551616 := by rw [IntKind.wrap_u64]; omega
  generalize hg0 : IntKind.u64.wrap a0 = U0 at u0
  generalize hg1 : IntKind.u64.wrap a1 = U1 at u1
  obtain ⟨u00, u01⟩ := u0
  obtain ⟨u10, u11⟩ := u1
  obtain ⟨r, hr0, hr1⟩ : ∃ r : Nat, U0 % 64 = (r : Int) ∧ r < 64 := ⟨(U0 % 64).toNat, by omega⟩
  obtain ⟨n, hn0, hn1, hn2⟩ : ∃ n : Nat, 1 + U1 % 8 = (n : Int) ∧ 1 ≤ n ∧ n ≤ 8 := ⟨(1 + U1 % 8).toNat, by omega⟩
  have hz := secZ_zero w
  have H0 := Lib.hid (SL.new w (Ch.refl [] w) 25)
  go_enter Try.func4, Try.ntmps4
  go_wp2_with fail
  obtain ⟨b, hb⟩ : ∃ b, b = w.heap.size := ⟨_, rfl⟩
  obtain ⟨w1, hw1⟩ : ∃ W, W = w.alloc (.cells secZ 25) := ⟨_, rfl⟩
  rw [← hw1, ← hb] at H0 ⊢
  clear hz hw1 hb hg0 hg1 hr0 hn0 u00 u01 u10 u11
  go_loopw [6] (fun i wr => ∃ (k : Nat) (x : SS), k ≤ n ∧ i = .int .i64 (k : Int) ∧ SL w wr b x ∧ x.d r = (k : Int) ∧ ((k = 0 ∧ x.n = 0) ∨ (k ≠ 0 ∧ x.n = 1 ∧ x.s r = 1))) (fun i _ => n - (intOf i).toNat)
  case atStart => exact ⟨0, SS.zero, Nat.zero_le _, rfl, H0.out, rfl, .inl ⟨rfl, rfl⟩⟩
  case round =>
    obtain ⟨k, x, hk, rfl, hl, hd, hx⟩ := hrel
    clear H0
    by_cases hlt : k < n
    · obtain ⟨f1, f2, f3, f4⟩ := enter_facts hr1 hd (by omega)
      have hxn : (enterS x (r : Int)).n = 1 ∧ (enterS x (r : Int)).s r = 1 := by
        rcases hx with ⟨h0, h1⟩ | ⟨h0, h1, h2⟩
        · have := f3 h0; rw [h1] at this; exact this
        · have := f4 h0; rw [h1, h2] at this; exact this
      have hxb : x.n ≤ 100000 := by rcases hx with ⟨_, h1⟩ | ⟨_, h1, _⟩ <;> omega
      have C1 := Lib.hid (hl.enter (r : Int) hxb f1 3)
      have HF := Lib.hid (And.intro f2 hxn)
      clear hl hd hx f1 f2 f3 f4 hxn hxb
      go_wp2_with fail
      with_reducible refine C1.out.mono ?_
      rintro e w2 ⟨rfl, h2, -⟩
      have hr64 : 0 ≤ (r : Int) ∧ (r : Int) < 64 := by omega
      have C2 := Lib.hid (h2.since (r : Int) (v := 1) (by unfold sOf; rw [if_pos hr64, Int.toNat_natCast]; exact HF.out.2.2))
      have C3 := Lib.hid (h2.depth (r : Int) (v := ((k + 1 : Nat) : Int)) (by unfold dOf; rw [if_pos hr64, Int.toNat_natCast]; exact HF.out.1))
      have H2 := Lib.hid h2
      clear h2 C1 hr64
      go_wp2_with fail
      with_reducible refine C2.out.mono ?_
      rintro e w' ⟨rfl, rfl⟩
      go_wp2_with fail
      with_reducible refine C3.out.mono ?_
      rintro e w' ⟨rfl, rfl⟩
      go_wp2_with fail
      go_roundw
      case rel => exact ⟨k + 1, enterS x (r : Int), by omega, by go_num, H2.out, HF.out.1, .inr ⟨by omega, HF.out.2⟩⟩
      case measure => simp [intOf]; omega
    · obtain rfl : k = n := by omega
      have hxn : x.n = 1 := by rcases hx with ⟨h1, _⟩ | ⟨_, h1, _⟩ <;> omega
      have hr64 : 0 ≤ (r : Int) ∧ (r : Int) < 64 := by omega
      have hk2 : (k : Int) ≤ 8 := by omega
      have h8 : ((k : Int) == 8) = true ∨ ((k : Int) == 8) = false := by cases ((k : Int) == 8) <;> simp
      have HD := Lib.hid (And.intro hd hxn)
      have H1 := Lib.hid hl
      clear hd hx hxn hl
      rcases h8 with h8 | h8
      · have hfull : enterE x (r : Int) = 3 := by
          have : (k : Int) = 8 := by simpa using h8
          unfold enterE
          rw [if_pos hr64, Int.toNat_natCast, HD.out.1, if_pos (by omega)]
        have C1 := Lib.hid (H1.out.enter (r : Int) (by rw [HD.out.2]; decide) hfull 3)
        rw [show enterS x (r : Int) = x from if_neg (by rw [hfull]; decide)] at C1
        clear hfull hr64 H1
        go_wp2_with fail
        with_reducible refine C1.out.mono ?_
        rintro e w2 ⟨rfl, h2, -⟩
        have H2 := Lib.hid h2
        clear h2 C1 h8
        go_wp2_with fail
        go_loopw [7] (fun i wq => ∃ (j : Nat) (y : SS), j ≤ k ∧ i = .int .i64 (j : Int) ∧ SL w wq b y ∧ y.d r = ((k - j : Nat) : Int) ∧ y.n = 1) (fun i _ => k - (intOf i).toNat)
        case atStart => exact ⟨0, x, Nat.zero_le _, rfl, H2.out, HD.out.1, HD.out.2⟩
        case round =>
          rename_i wq
          obtain ⟨j, y, hj, rfl, hly, hdy, hny⟩ := hrel
          clear H2 HD
          by_cases hlt2 : j < k
          · obtain ⟨f1, f2, f3, f4⟩ := exit_facts hr1 hdy (by omega)
            obtain ⟨u, hu, heq⟩ : ∃ u, exitB y (r : Int) = u ∧ ((j : Int) == (k : Int) - 1) = u := by
              rw [f4]
              refine ⟨_, rfl, ?_⟩
              rw [Bool.eq_iff_iff, decide_eq_true_eq, beq_iff_eq]
              omega
            have C1 := Lib.hid (hly.exit (r : Int) hu f1)
            have hin : inP (exitS y (r : Int)) r = !u := by
              rw [← hu, f4, inP, f2, ← decide_not, decide_eq_decide]
              omega
            have hws : IntKind.i64.wrap ((k : Int) - 1) = (k : Int) - 1 := IntWalk.i64_in _ (by omega)
            have HF := Lib.hid (And.intro f2 (f3.trans hny))
            have HIn := Lib.hid hin
            clear hly hdy hny f1 f2 f3 f4 hu hin
            cases u
            all_goals
              go_wp2_with fail
              with_reducible refine C1.out.mono ?_
              rintro e w3 ⟨rfl, h3, -⟩
              have C2 := Lib.hid (h3.in (m := mskN (inP (exitS y (r : Int)))) rfl)
              clear h3 C1
              go_wp2_with fail
              with_reducible refine C2.out.mono ?_
              rintro e w4 ⟨rfl, h4, -⟩
              have C3 := Lib.hid (Mk.has_any (mskN (inP (exitS y (r : Int)))) (r : Int) (mskN_lt _) w4)
              rw [msk_has _ r hr1, HIn.out] at C3
              have H4 := Lib.hid h4
              generalize mskN (inP (exitS y (r : Int))) = mm at *
              clear h4 C2 HIn
              go_wp2_with fail
              with_reducible refine C3.out.mono ?_
              rintro e w' ⟨rfl, rfl⟩
              go_wp2_with fail
              go_roundw
              case rel => exact ⟨j + 1, exitS y (r : Int), by omega, by go_num, H4.out, by rw [HF.out.1, Nat.sub_sub], HF.out.2⟩
              case measure => simp [intOf]; omega
          · have hd0 : y.d r = 0 := by rw [hdy]; omega
            have hE : exitE y (r : Int) = 6 := by unfold exitE; rw [if_pos (by omega), Int.toNat_natCast, if_pos hd0]
            have C1 := Lib.hid (hly.exit (r : Int) (u := false) (by unfold exitB; rw [hE]; rfl) hE)
            rw [show exitS y (r : Int) = y from if_neg (by rw [hE]; decide)] at C1
            have HN := Lib.hid hny
            clear hly hdy hny hd0 hE
            go_wp2_with fail
            with_reducible refine C1.out.mono ?_
            rintro e w3 ⟨rfl, h3, -⟩
            have H3 := Lib.hid h3
            clear h3 C1
            go_wp2_with fail
            with_reducible refine (known_any _).mono ?_
            rintro e w4 ⟨rfl, h4⟩
            have H4 := Lib.hid (H3.out.quiet h4)
            have C2 := Lib.hid (H4.out.stamp HN.out)
            clear h4 H3
            go_wp2_with fail
            with_reducible refine C2.out.mono ?_
            rintro e w' ⟨rfl, rfl⟩
            go_wp2_with fail
            go_ret
            exact ⟨rfl, H4.out.ch.below _ (by simp) (Nat.le_refl _)⟩
      · obtain ⟨w2, hw2⟩ : ∃ w2, w2 = wr := ⟨_, rfl⟩
        have H2 : Hid (SL w w2 b x) := by rw [hw2]; exact H1
        rw [← hw2]
        clear hw2 H1 hr64
        go_wp2_with fail
        clear h8
        go_loopw [7] (fun i wq => ∃ (j : Nat) (y : SS), j ≤ k ∧ i = .int .i64 (j : Int) ∧ SL w wq b y ∧ y.d r = ((k - j : Nat) : Int) ∧ y.n = 1) (fun i _ => k - (intOf i).toNat)
        case atStart => exact ⟨0, x, Nat.zero_le _, rfl, H2.out, HD.out.1, HD.out.2⟩
        case round =>
          rename_i wq
          obtain ⟨j, y, hj, rfl, hly, hdy, hny⟩ := hrel
          clear H2 HD
          by_cases hlt2 : j < k
          · obtain ⟨f1, f2, f3, f4⟩ := exit_facts hr1 hdy (by omega)
            obtain ⟨u, hu, heq⟩ : ∃ u, exitB y (r : Int) = u ∧ ((j : Int) == (k : Int) - 1) = u := by
              rw [f4]
              refine ⟨_, rfl, ?_⟩
              rw [Bool.eq_iff_iff, decide_eq_true_eq, beq_iff_eq]
              omega
            have C1 := Lib.hid (hly.exit (r : Int) hu f1)
            have hin : inP (exitS y (r : Int)) r = !u := by
              rw [← hu, f4, inP, f2, ← decide_not, decide_eq_decide]
              omega
            have hws : IntKind.i64.wrap ((k : Int) - 1) = (k : Int) - 1 := IntWalk.i64_in _ (by omega)
            have HF := Lib.hid (And.intro f2 (f3.trans hny))
            have HIn := Lib.hid hin
            clear hly hdy hny f1 f2 f3 f4 hu hin
            cases u
            all_goals
              go_wp2_with fail
              with_reducible refine C1.out.mono ?_
              rintro e w3 ⟨rfl, h3, -⟩
              have C2 := Lib.hid (h3.in (m := mskN (inP (exitS y (r : Int)))) rfl)
              clear h3 C1
              go_wp2_with fail
              with_reducible refine C2.out.mono ?_
              rintro e w4 ⟨rfl, h4, -⟩
              have C3 := Lib.hid (Mk.has_any (mskN (inP (exitS y (r : Int)))) (r : Int) (mskN_lt _) w4)
              rw [msk_has _ r hr1, HIn.out] at C3
              have H4 := Lib.hid h4
              generalize mskN (inP (exitS y (r : Int))) = mm at *
              clear h4 C2 HIn
              go_wp2_with fail
              with_reducible refine C3.out.mono ?_
              rintro e w' ⟨rfl, rfl⟩
              go_wp2_with fail
              go_roundw
              case rel => exact ⟨j + 1, exitS y (r : Int), by omega, by go_num, H4.out, by rw [HF.out.1, Nat.sub_sub], HF.out.2⟩
              case measure => simp [intOf]; omega
          · have hd0 : y.d r = 0 := by rw [hdy]; omega
            have hE : exitE y (r : Int) = 6 := by unfold exitE; rw [if_pos (by omega), Int.toNat_natCast, if_pos hd0]
            have C1 := Lib.hid (hly.exit (r : Int) (u := false) (by unfold exitB; rw [hE]; rfl) hE)
            rw [show exitS y (r : Int) = y from if_neg (by rw [hE]; decide)] at C1
            have HN := Lib.hid hny
            clear hly hdy hny hd0 hE
            go_wp2_with fail
            with_reducible refine C1.out.mono ?_
            rintro e w3 ⟨rfl, h3, -⟩
            have H3 := Lib.hid h3
            clear h3 C1
            go_wp2_with fail
            with_reducible refine (known_any _).mono ?_
            rintro e w4 ⟨rfl, h4⟩
            have H4 := Lib.hid (H3.out.quiet h4)
            have C2 := Lib.hid (H4.out.stamp HN.out)
            clear h4 H3
            go_wp2_with fail
            with_reducible refine C2.out.mono ?_
            rintro e w' ⟨rfl, rfl⟩
            go_wp2_with fail
            go_ret
            exact ⟨rfl, H4.out.ch.below _ (by simp) (Nat.le_refl _)⟩
end Go.Proofs.Yticdlknlihogcaa
