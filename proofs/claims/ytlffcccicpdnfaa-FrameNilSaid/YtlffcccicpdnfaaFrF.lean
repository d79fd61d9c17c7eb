/-
  Is there a reference among some things? What stands beside a register.
-/
import Derived.Test.YtlffcccicpdnfaaFrE
namespace Go.Proofs.Ytlffcccicpdnfaa
open Go.RowKit Go.BigFrame

attribute [local go_sem] Oper.semAt_some

theorem isref_any (x : V5) (w : World) : Calls Try.prog 44 #[vv x] w fun e w' => e = .returned (.bool x.r) ∧ Ch [] w w' := by
  have HC := Lib.hid ((Ch.refl [] w).alloc (.cells #[.bool x.r, .int .i64 x.m, .int .i64 x.s, .int .i64 x.g, .int .u64 (x.n : Int)] 38))
  unfold vv
  go_enter Try.func44, Try.ntmps44
  go_wp2
  go_ret
  exact ⟨rfl, HC.out⟩

set_option maxHeartbeats 2000000 in
theorem index_any {w : World} {a : Option Addr} {n cap : Nat} {L : List V5} (hL : L.length = n) (hn : n ≤ 1000) (hV : ValsAt w a L) :
    Calls Try.prog 54 #[.slice a n cap, .func (.func 44) #[] #[]] w fun e w' => ∃ z : Int, e = .returned (.int .i64 z) ∧ (0 ≤ z ↔ L.any (·.r) = true) ∧ Ch [] w w' := by
  have HL := Lib.hid hL
  have HV := Lib.hid hV
  have HN := Lib.hid hn
  obtain ⟨q, hq⟩ : ∃ q, L.any (·.r) = q := ⟨_, rfl⟩
  rw [hq]
  have HQ := Lib.hid hq
  clear hL hV hn hq
  go_enter Try.func54, Try.ntmps54
  go_wp2_with fail
  go_loopw [8] (fun i wr => ∃ j : Nat, i = .int .i64 (j : Int) ∧ j ≤ n ∧ (∀ k (_ : k < j) (hk : k < L.length), L[k].r = false) ∧ Ch [] w wr) (fun i _ => n - (intOf i).toNat)
  case atStart => exact ⟨0, rfl, Nat.zero_le _, fun k h => by omega, Ch.refl _ _⟩
  case round =>
    obtain ⟨j, rfl, hj, hno, hc⟩ := hrel
    have HNo := Lib.hid hno
    have HC := Lib.hid hc
    clear hno
    by_cases h1 : j < n
    · have h1' : (j : Int) < (n : Int) := by omega
      have hjL : j < L.length := by rw [HL.out]; exact h1
      rcases HV.out with h0 | ⟨b, off, rfl, hk⟩
      · exfalso; rw [h0] at hjL; simp at hjL
      · obtain ⟨c0, c1, c2, c3, c4⟩ := (hk j hjL).ch hc (by simp)
        have HI := Lib.hid (fun w => isref_any L[j] w)
        have HX := Lib.hid (show L[j].r = true → q = true from fun h => HQ.out ▸ List.any_eq_true.2 ⟨L[j], List.getElem_mem hjL, h⟩)
        have HY := Lib.hid (show L[j].r = false → ∀ k (_ : k < j + 1) (hk : k < L.length), L[k].r = false from fun h k hk1 hk2 => by
          by_cases e : k = j
          · subst e; exact h
          · exact HNo.out k (by omega) hk2)
        have hw : IntKind.i64.wrap ((j : Int) + 1) = ((j + 1 : Nat) : Int) := by rw [IntKind.wrap_i64]; have := HN.out; omega
        unfold vv at HI
        generalize L[j] = x at *
        clear hk hc hjL h1
        go_wp2_with fail
        with_reducible refine (HI.out _).mono ?_
        rintro e w1 ⟨rfl, hc1⟩
        have HC1 := Lib.hid (HC.out.trans hc1)
        clear hc1
        cases hr : x.r
        · have HZ := Lib.hid (HY.out hr)
          go_wp2_with fail
          go_roundw
          case rel => exact ⟨j + 1, rfl, by omega, HZ.out, HC1.out⟩
          case measure => simp [intOf]; omega
        · have HZ := Lib.hid (HX.out hr)
          go_wp2_with fail
          go_ret
          exact ⟨_, rfl, ⟨fun _ => HZ.out, fun _ => by omega⟩, HC1.out⟩
    · have h1' : ¬ (j : Int) < (n : Int) := by omega
      have HZ := Lib.hid (show ¬ q = true from by
        rw [← HQ.out, List.any_eq_true]
        rintro ⟨x, hx, hr⟩
        obtain ⟨k, hk, rfl⟩ := List.mem_iff_getElem.1 hx
        rw [HNo.out k (by have := HL.out; omega) hk] at hr; cases hr)
      clear h1 hc
      go_wp2_with fail
      go_ret
      exact ⟨_, rfl, ⟨fun h => by omega, fun h => absurd h HZ.out⟩, HC.out⟩
theorem contains_any {w : World} {a : Option Addr} {n cap : Nat} {L : List V5} (hL : L.length = n) (hn : n ≤ 1000) (hV : ValsAt w a L) :
    Calls Try.prog 43 #[.slice a n cap, .func (.func 44) #[] #[]] w fun e w' => e = .returned (.bool (L.any (·.r))) ∧ Ch [] w w' := by
  have C := Lib.hid (index_any (cap := cap) hL hn hV)
  clear hL hn hV
  generalize L.any (·.r) = q at *
  go_enter Try.func43, Try.ntmps43
  go_wp2_with fail
  with_reducible refine C.out.mono ?_
  rintro e w1 ⟨z, rfl, hz, hc⟩
  have HC := Lib.hid hc
  have HZ := Lib.hid (show decide (z ≥ 0) = q from by cases q <;> simp at hz ⊢ <;> omega)
  clear hc hz C
  go_wp2_with fail
  go_ret
  refine ⟨?_, HC.out⟩
  rw [← HZ.out]
  rfl
theorem hasref_any {w : World} {a : Option Addr} {n cap : Nat} {L : List V5} (hL : L.length = n) (hn : n ≤ 1000) (hV : ValsAt w a L) :
    Calls Try.prog 36 #[.slice a n cap] w fun e w' => e = .returned (.bool (L.any (·.r))) ∧ Ch [] w w' := by
  have C := Lib.hid (contains_any (cap := cap) hL hn hV)
  clear hL hn hV
  generalize L.any (·.r) = q at *
  go_enter Try.func36, Try.ntmps36
  go_wp2_with fail
  with_reducible refine C.out.mono ?_
  rintro e w1 ⟨rfl, hc⟩
  have HC := Lib.hid hc
  clear hc C
  go_wp2_with fail
  go_ret
  exact ⟨rfl, HC.out⟩

/-- What stands beside a register. -/
def oth (F : FV) (x : I5) (last : Int) : V5 := if last < x.op then F x.s.toNat else num (wdN x.i)
theorem oth_fw {F : FV} (h : FW F) (x : I5) (last : Int) : W64 (oth F x last).n := by
  unfold oth; split
  · exact h _
  · exact wdN_lt _
theorem operand_any {w : World} {b : Nat} {F : FV} (h : FR w b F) {x : I5} (hs : 0 ≤ x.s ∧ x.s ≤ 9) (last : Int) :
    Calls Try.prog 42 #[.pointer (some ⟨b, 0, none⟩), iv x, .int .i64 last] w fun e w' => e = .returned (vv (oth F x last)) ∧ Ch [] w w' := by
  obtain ⟨op, d, s, o, i⟩ := x
  obtain ⟨k, rfl⟩ : ∃ k : Nat, s = (k : Int) := ⟨s.toNat, by simp at hs; omega⟩
  have hk : k < 10 := by simp at hs; omega
  have hk' : (k : Int) < 10 := by omega
  unfold oth
  simp only [Int.toNat_natCast]
  obtain ⟨w2, hw2⟩ : ∃ W, W = (w.alloc (.cells #[.int .i64 op, .int .i64 d, .int .i64 (k : Int), .int .i64 o, .int .i64 i] 63)).alloc (.cells #[.bool false, .int .i64 0, .int .i64 0, .int .i64 0, .int .u64 0] 38) := ⟨_, rfl⟩
  have hc : Ch [] w w2 := by rw [hw2]; exact ((Ch.refl [] w).alloc _).alloc _
  have hY : B5 w2 (w.heap.size + 1) (num 0) := by have := B5.new (w.alloc (.cells #[.int .i64 op, .int .i64 d, .int .i64 (k : Int), .int .i64 o, .int .i64 i] 63)) (num 0) 38; rw [World.size_alloc] at this; rw [hw2]; exact this
  have hI : Five w2 w.heap.size ⟨op, d, k, o, i⟩ := by rw [hw2]; exact (Five.new w ⟨op, d, k, o, i⟩ 63).ch ((Ch.refl [] _).alloc _) (by simp)
  obtain ⟨a0, a1, a2, a3, a4⟩ := hI
  obtain ⟨c0, c1, c2, c3, c4⟩ := (h.quiet hc).reg hk
  have HY := Lib.hid hY
  obtain ⟨⟨y0, y1, y2, y3, y4⟩, yf⟩ := hY
  have HW := Lib.hid hw2
  have HC := Lib.hid hc
  have HWd := Lib.hid (fun w => word_any i w)
  have HNu := Lib.hid (fun w => num_any (wdN i) w)
  have HE := Lib.hid (fun x => hc.fresh (st5_ch w2 (w.heap.size + 1) 0 x) (by simp))
  simp only at a0 a1 a2 a3 a4
  unfold iv
  clear h hc hw2 hs hk
  by_cases hop : last < op
  · rw [if_pos hop]
    generalize F k = x at *
    have HZ := Lib.hid (HY.out.set x)
    unfold vv
    go_enter Try.func42, Try.ntmps42
    go_wp2_with fail
    rw [← HW.out]
    clear HW
    go_region
    go_wp2_with fail
    obtain ⟨⟨z0, z1, z2, z3, z4⟩, -⟩ := HZ.out
    unfold st5 at z0 z1 z2 z3 z4
    simp only [Nat.zero_add] at z0 z1 z2 z3 z4
    refine bodyPost_ret (v := .agg #[.bool x.r, .int .i64 x.m, .int .i64 x.s, .int .i64 x.g, .int .u64 (x.n : Int)]) ?_ rfl ?_
    · simp [results, Try.f42, go_sem, z0, z1, z2, z3, z4]
    · exact ⟨rfl, (HE.out x).drew⟩
  · rw [if_neg hop]
    obtain ⟨x, hx⟩ : ∃ x, num (wdN i) = x := ⟨_, rfl⟩
    rw [hx] at HNu ⊢
    clear hx
    unfold vv
    go_enter Try.func42, Try.ntmps42
    go_wp2_with fail
    rw [← HW.out]
    with_reducible refine (HWd.out _).mono ?_
    rintro e w3 ⟨rfl, rfl⟩
    go_wp2_with fail
    with_reducible refine (HNu.out _).mono ?_
    rintro e w4 ⟨rfl, hc4⟩
    have HC4 := Lib.hid (HC.out.trans hc4)
    have HB4 := Lib.hid (HY.out.quiet hc4)
    have hb4 := HB4.out
    generalize num 0 = y at *
    obtain ⟨⟨q0, q1, q2, q3, q4⟩, qf⟩ := hb4
    clear y0 y1 y2 y3 y4 yf c0 c1 c2 c3 c4 a0 a1 a2 a3 a4 HW HWd HNu hc4
    unfold vv
    go_wp2_with fail
    obtain ⟨⟨z0, z1, z2, z3, z4⟩, -⟩ := HB4.out.set x
    unfold st5 at z0 z1 z2 z3 z4
    simp only [Nat.zero_add] at z0 z1 z2 z3 z4
    refine bodyPost_ret (v := .agg #[.bool x.r, .int .i64 x.m, .int .i64 x.s, .int .i64 x.g, .int .u64 (x.n : Int)]) ?_ rfl ?_
    · simp [results, Try.f42, go_sem, z0, z1, z2, z3, z4]
    · exact ⟨rfl, HC4.out.fresh (st5_ch w4 (w.heap.size + 1) 0 x) (by simp)⟩
end Go.Proofs.Ytlffcccicpdnfaa
