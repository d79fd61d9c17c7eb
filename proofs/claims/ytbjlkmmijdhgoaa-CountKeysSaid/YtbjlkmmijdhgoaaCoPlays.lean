/-
  The law CountPlays, walked.
-/
import Derived.Test.YtbjlkmmijdhgoaaCoB
namespace Go.Proofs.Ytbjlkmmijdhgoaa
open Go.RowKit

attribute [local go_sem] Oper.semAt_some

theorem rget_at {n top : Nat} {s : Bool} (w : World) (ht : top ≤ 65535) (hn : n ≤ top) (hs : s = true → n = top) {m : Nat} {t : Bool} {e : Int} (he : getN n top s = (m, t, e)) :
    Calls Try.prog 12 #[.agg #[.int .i64 (n : Int), .int .i64 (top : Int), .bool s]] w fun r w' => r = .returned (.tuple #[.agg #[.int .i64 (m : Int), .int .i64 (top : Int), .bool t], .int .i64 e]) ∧ Ch [] w w' := by
  have := rget_any n top s w ht hn hs
  rw [he] at this
  exact this
theorem rput_at {n top : Nat} {s : Bool} (w : World) (ht : top ≤ 65535) (hn : n ≤ top) (hs : s = true → n = top) {m : Nat} {t : Bool} {e : Int} (he : putN n s = (m, t, e)) :
    Calls Try.prog 14 #[.agg #[.int .i64 (n : Int), .int .i64 (top : Int), .bool s]] w fun r w' => r = .returned (.tuple #[.agg #[.int .i64 (m : Int), .int .i64 (top : Int), .bool s], .bool t, .int .i64 e]) ∧ Ch [] w w' := by
  have := rput_any n top s w ht hn hs
  rw [he] at this
  exact this

set_option maxHeartbeats 2000000 in
theorem plays_law (a0 a1 : Int) (ab : Option Addr) (len cap : Nat) (w : World) (hl : len ≤ 9223372036854775807) (hb : BoolsAt w ab len) :
    Calls Try.prog 3 #[.int .i64 a0, .int .i64 a1, .slice ab len cap] w fun e w' => e = .returned (.bool true) ∧ Below w.heap.size w w' := by
  by_cases hbad : a1 < 1 ∨ 65535 < a1 ∨ a0 < 0 ∨ a1 < a0
  · have HN := Lib.hid (new_bad a0 a1 w hbad)
    have HE := Lib.hid (show newE a0 a1 = 2 by unfold newE; rw [if_pos hbad])
    clear hbad
    go_enter Try.func3, Try.ntmps3
    go_wp2_with fail
    with_reducible refine HN.out.mono ?_
    rintro e w1 ⟨rfl, rfl⟩
    go_wp2_with fail
    with_reducible refine (rnew_any a0 a1 w1).mono ?_
    rintro e w2 ⟨rfl, rfl⟩
    rw [HE.out]
    go_wp2_with fail
    with_reducible refine (known_any _).mono ?_
    rintro e w5 ⟨rfl, hc5⟩
    have HC5 := Lib.hid hc5
    clear hc5
    go_wp2
    go_ret
    exact ⟨rfl, HC5.out.below _ (by simp) (Nat.le_refl _)⟩
  · obtain ⟨n, rfl⟩ : ∃ n : Nat, a0 = (n : Int) := ⟨a0.toNat, by omega⟩
    obtain ⟨top, rfl⟩ : ∃ top : Nat, a1 = (top : Int) := ⟨a1.toNat, by omega⟩
    obtain ⟨S, hS⟩ : ∃ S, w.heap.size = S := ⟨_, rfl⟩
    have HNew := Lib.hid (new_ok n top w S hS (by omega) (by omega) (by omega))
    have HE := Lib.hid (show newE n top = 0 by unfold newE; rw [if_neg hbad])
    have HS := Lib.hid hS
    have HBo := Lib.hid hb
    have HL := Lib.hid hl
    clear hS hb hl hbad
    go_enter Try.func3, Try.ntmps3
    go_wp2_with fail
    with_reducible refine HNew.out.mono ?_
    rintro e w1 ⟨rfl, hx1, hc1, hz1⟩
    have HX1 := Lib.hid hx1
    have HC1 := Lib.hid hc1
    have HZ1 := Lib.hid hz1
    clear hx1 hc1 hz1 HNew
    go_wp2_with fail
    with_reducible refine (rnew_any n top w1).mono ?_
    rintro e w2 ⟨rfl, rfl⟩
    rw [HE.out]
    obtain ⟨M, hM⟩ : ∃ M, M = w2.heap.size := ⟨_, rfl⟩
    have HB1 := Lib.hid (Box3.new w2 n top false 30)
    have HC2 := Lib.hid (HC1.out.alloc (.cells #[.int .i64 (n : Int), .int .i64 (top : Int), .bool false] 30))
    have HX2 := Lib.hid (HX1.out.ch ((Ch.refl [] w2).alloc (.cells #[.int .i64 (n : Int), .int .i64 (top : Int), .bool false] 30)) (by simp))
    rw [← hM] at HB1
    have HM := Lib.hid (show S < M by rw [hM, HZ1.out]; omega)
    have HMe := Lib.hid hM
    clear hM HC1 HX1
    go_wp2_with fail
    rw [← HMe.out]
    generalize w2.alloc (.cells #[.int .i64 (n : Int), .int .i64 (top : Int), .bool false] 30) = w3 at *
    clear HMe
    go_wp2_with fail
    go_loopw [11] (fun iv wr => ∃ (k m : Nat) (s : Bool), k ≤ len ∧ k ≤ 100 ∧ iv = .int .i64 (k : Int) ∧ Box3 wr M m top s ∧ Cnt wr S m top s ∧ Ch [] w wr) (fun iv _ => 100 - (intOf iv).toNat)
    case atStart => exact ⟨0, n, false, Nat.zero_le _, Nat.zero_le _, rfl, HB1.out, HX2.out, HC2.out⟩
    case round =>
      obtain ⟨k, m, s, hk, hk2, rfl, hbx, hx, hc⟩ := hrel
      have HX := Lib.hid hx
      have HC := Lib.hid hc
      have HB := Lib.hid hbx
      clear hx hc hbx HX2 HC2 HB1
      have HE := Lib.hid (show (k < len ∧ k < 100) ∨ ¬ (k < len ∧ k < 100) by omega)
      rcases HE.out with h | h
      · obtain ⟨h1, h2⟩ := h
        have hd1 : decide ((k : Int) < (len : Int)) = true := by simpa using h1
        have hd2 : decide ((k : Int) < 100) = true := by simp; omega
        obtain ⟨b, off, rfl, hcells⟩ := (HBo.out.below HC.out).resolve_left (by omega)
        obtain ⟨x, hx⟩ := hcells k h1
        have hb0 : (0 : Int) ≤ (k : Int) := by omega
        have hb1 : (k : Int) < (len : Int) := by omega
        have hL := HL.out
        have c0 := HB.out.c0
        have c1 := HB.out.c1
        have c2 := HB.out.c2
        clear hcells
        cases x with
        | true =>
          obtain ⟨m', s', E, hG⟩ : ∃ m' s' E, getN m top s = (m', s', E) := ⟨_, _, _, rfl⟩
          have HG := Lib.hid hG
          clear hG
          go_wp2_with fail
          with_reducible refine (rget_at wr HX.out.ht HX.out.hn HX.out.hs HG.out).mono ?_
          rintro e w4 ⟨rfl, hc4⟩
          obtain ⟨T, hT⟩ : ∃ T, T = w4.heap.size := ⟨_, rfl⟩
          have hc5 := hc4.alloc (.cells #[.int .i64 (m' : Int), .int .i64 (top : Int), .bool s'] 30)
          have HX4 := Lib.hid (HX.out.ch hc5 (by simp))
          have HB4 := Lib.hid (HB.out.ch hc5 (by simp))
          have HC4 := Lib.hid (HC.out.trans hc5)
          have HT4 := Lib.hid (Box3.new w4 m' top s' 30)
          have HST := Lib.hid (show S < T by rw [hT]; exact (HX.out.ch hc4 (by simp)).lt)
          rw [← hT] at HT4
          have HTe := Lib.hid hT
          clear hc4 hc5 hT HX HC HB hx c0 c1 c2
          go_wp2_with fail
          rw [← HTe.out]
          generalize w4.alloc (.cells #[.int .i64 (m' : Int), .int .i64 (top : Int), .bool s'] 30) = w5 at *
          clear HTe
          with_reducible refine (get_at HX4.out HG.out).mono ?_
          rintro e w6 ⟨rfl, hx6, hc6, -⟩
          have HXS := Lib.hid hx6
          have hB6 := HB4.out.ch hc6 (by have := HM.out; simp; omega)
          have hT6 := HT4.out.ch hc6 (by have := HST.out; simp; omega)
          have HC6 := Lib.hid (ch_own HC4.out hc6 (by rw [HS.out]; exact Nat.le_refl _))
          have t0 := hT6.c0
          have t1 := hT6.c1
          have t2 := hT6.c2
          have m0 := hB6.c0
          have m1 := hB6.c1
          have m2 := hB6.c2
          have f0 := hB6.f0
          have f1 := hB6.f1
          have f2 := hB6.f2
          have HB7 := Lib.hid (hB6.set m' top s')
          have hch := (Ch.refl [M] w6).setCell (p := ⟨M, 0, none⟩) (by simp) (.int .i64 (m' : Int))
          have hch := hch.setCell (p := ⟨M, 1, none⟩) (by simp) (.int .i64 (top : Int))
          have hch := hch.setCell (p := ⟨M, 2, none⟩) (by simp) (.bool s')
          have HX7 := Lib.hid (hx6.ch hch (by have := HM.out; simp; omega))
          have HC7 := Lib.hid (ch_own HC6.out hch (by have := HM.out; rw [HS.out]; omega))
          clear hx6 hc6 hB6 hT6 hch HX4 HB4 HC4 HT4
          go_wp2_with fail
          generalize ((w6.setCell ⟨M, 0, none⟩ (.int .i64 (m' : Int))).setCell ⟨M, 1, none⟩ (.int .i64 (top : Int))).setCell ⟨M, 2, none⟩ (.bool s') = w7 at *
          clear t0 t1 t2 f0 f1 f2 m0 m1 m2
          have d0 := HB7.out.c0
          have d2 := HB7.out.c2
          go_quiet (first
            | (go_at_call 16; exact Calls.quiet_of_same (value_any (HX7.out.drewN _)))
            | (go_at_call 17; exact Calls.quiet_of_same (stuck_any (HX7.out.drewN _))))
          clear d0 d2
          go_wp2_with fail
          go_roundw
          case rel => exact ⟨k + 1, m', s', by omega, by omega, by go_num, HB7.out.ch (S := []) ((Ch.refl _ _).drewN _) (by simp), HX7.out.drewN _, HC7.out.drewN _⟩
          case measure => simp [intOf]; omega
        | false =>
          obtain ⟨m', t', E, hG⟩ : ∃ m' t' E, putN m s = (m', t', E) := ⟨_, _, _, rfl⟩
          have HG := Lib.hid hG
          clear hG
          go_wp2_with fail
          with_reducible refine (rput_at wr HX.out.ht HX.out.hn HX.out.hs HG.out).mono ?_
          rintro e w4 ⟨rfl, hc4⟩
          obtain ⟨T, hT⟩ : ∃ T, T = w4.heap.size := ⟨_, rfl⟩
          have hc5 := hc4.alloc (.cells #[.int .i64 (m' : Int), .int .i64 (top : Int), .bool s] 30)
          have HX4 := Lib.hid (HX.out.ch hc5 (by simp))
          have HB4 := Lib.hid (HB.out.ch hc5 (by simp))
          have HC4 := Lib.hid (HC.out.trans hc5)
          have HT4 := Lib.hid (Box3.new w4 m' top s 30)
          have HST := Lib.hid (show S < T by rw [hT]; exact (HX.out.ch hc4 (by simp)).lt)
          rw [← hT] at HT4
          have HTe := Lib.hid hT
          clear hc4 hc5 hT HX HC HB hx c0 c1 c2
          go_wp2_with fail
          rw [← HTe.out]
          generalize w4.alloc (.cells #[.int .i64 (m' : Int), .int .i64 (top : Int), .bool s] 30) = w5 at *
          clear HTe
          with_reducible refine (put_at HX4.out HG.out).mono ?_
          rintro e w6 ⟨rfl, hx6, hc6, -⟩
          have HXS := Lib.hid hx6
          have hB6 := HB4.out.ch hc6 (by have := HM.out; simp; omega)
          have hT6 := HT4.out.ch hc6 (by have := HST.out; simp; omega)
          have HC6 := Lib.hid (ch_own HC4.out hc6 (by rw [HS.out]; exact Nat.le_refl _))
          have t0 := hT6.c0
          have t1 := hT6.c1
          have t2 := hT6.c2
          have m0 := hB6.c0
          have m1 := hB6.c1
          have m2 := hB6.c2
          have f0 := hB6.f0
          have f1 := hB6.f1
          have f2 := hB6.f2
          have HB7 := Lib.hid (hB6.set m' top s)
          have hch := (Ch.refl [M] w6).setCell (p := ⟨M, 0, none⟩) (by simp) (.int .i64 (m' : Int))
          have hch := hch.setCell (p := ⟨M, 1, none⟩) (by simp) (.int .i64 (top : Int))
          have hch := hch.setCell (p := ⟨M, 2, none⟩) (by simp) (.bool s)
          have HX7 := Lib.hid (hx6.ch hch (by have := HM.out; simp; omega))
          have HC7 := Lib.hid (ch_own HC6.out hch (by have := HM.out; rw [HS.out]; omega))
          clear hx6 hc6 hB6 hT6 hch HX4 HB4 HC4 HT4
          go_wp2_with fail
          generalize ((w6.setCell ⟨M, 0, none⟩ (.int .i64 (m' : Int))).setCell ⟨M, 1, none⟩ (.int .i64 (top : Int))).setCell ⟨M, 2, none⟩ (.bool s) = w7 at *
          clear t0 t1 t2 f0 f1 f2 m0 m1 m2
          have d0 := HB7.out.c0
          have d2 := HB7.out.c2
          go_quiet (first
            | (go_at_call 16; exact Calls.quiet_of_same (value_any (HX7.out.drewN _)))
            | (go_at_call 17; exact Calls.quiet_of_same (stuck_any (HX7.out.drewN _))))
          clear d0 d2
          go_wp2_with fail
          go_roundw
          case rel => exact ⟨k + 1, m', s, by omega, by omega, by go_num, HB7.out.ch (S := []) ((Ch.refl _ _).drewN _) (by simp), HX7.out.drewN _, HC7.out.drewN _⟩
          case measure => simp [intOf]; omega
      · have hcase : ¬ k < len ∨ (k < len ∧ ¬ k < 100) := by omega
        rcases hcase with h1 | ⟨h1, h2⟩
        · have hd1 : decide ((k : Int) < (len : Int)) = false := by simpa using h1
          go_wp2_with fail
          with_reducible refine (known_any _).mono ?_
          rintro e w5 ⟨rfl, hc5⟩
          have HC5 := Lib.hid (HC.out.trans hc5)
          clear hc5
          go_wp2
          go_ret
          exact ⟨rfl, HC5.out.below _ (by simp) (Nat.le_refl _)⟩
        · have hd1 : decide ((k : Int) < (len : Int)) = true := by simpa using h1
          have hd2 : decide ((k : Int) < 100) = false := by simp; omega
          go_wp2_with fail
          with_reducible refine (known_any _).mono ?_
          rintro e w5 ⟨rfl, hc5⟩
          have HC5 := Lib.hid (HC.out.trans hc5)
          clear hc5
          go_wp2
          go_ret
          exact ⟨rfl, HC5.out.below _ (by simp) (Nat.le_refl _)⟩
end Go.Proofs.Ytbjlkmmijdhgoaa
