/-
  The document's answer for counts by keys: Drop.
-/
import Derived.Test.YtbjlkmmijdhgoaaCoRC
namespace Go.Proofs.Ytbjlkmmijdhgoaa
open Go.RowKit

attribute [local go_sem] Oper.semAt_some

theorem rdrop_not {w : World} {D top : Nat} {v : Value} {m : List (Ct Int)} {k : Int} (h : RK w D v top m) (hA : ∀ x ∈ m, x.1 ≠ k) (hl : m.length ≤ 64) :
    Calls Try.prog 21 #[v, .int .i64 k] w fun e w' => e = .returned (.tuple #[v, .bool false, .int .i64 4]) ∧ w' = w := by
  have HF := Lib.hid (rfind_not h hA hl)
  obtain ⟨a, cap, rfl⟩ := own_form h
  generalize m.length = L at *
  clear h hA hl
  go_enter Try.func21, Try.ntmps21
  go_wp2_with fail
  with_reducible refine HF.out.mono ?_
  rintro e w1 ⟨rfl, rfl⟩
  go_wp2
  refine bodyPost_ret (v := .tuple #[.slice a L cap, .bool false, .int .i64 4]) ?_ rfl ?_
  · simp [results, Try.f21, go_sem]
  · exact ⟨rfl, rfl⟩

/-- What Drop has put together behind i of the list. -/
def outD (A mid B : List (Ct Int)) (i : Nat) : List (Ct Int) := if i ≤ A.length then A.take i else A ++ (mid ++ B.take (i - A.length - 1))
theorem outD_zero (A mid B : List (Ct Int)) : outD A mid B 0 = [] := by simp [outD]
theorem outD_other {A mid B : List (Ct Int)} {z x : Ct Int} {i : Nat} (hx : (A ++ z :: B)[i]? = some x) (hne : i ≠ A.length) : outD A mid B (i + 1) = outD A mid B i ++ [x] := by
  unfold outD
  by_cases h1 : i < A.length
  · rw [if_pos (by omega), if_pos (by omega)]
    rw [List.getElem?_append_left h1] at hx
    rw [List.take_add_one, hx]; rfl
  · rw [if_neg (by omega), if_neg (by omega)]
    rw [List.getElem?_append_right (by omega), show i - A.length = (i - A.length - 1) + 1 by omega, List.getElem?_cons_succ] at hx
    rw [show i + 1 - A.length - 1 = (i - A.length - 1) + 1 by omega, List.take_add_one, hx]
    simp
theorem outD_at (A mid B : List (Ct Int)) : outD A mid B (A.length + 1) = outD A mid B A.length ++ mid := by
  unfold outD
  rw [if_neg (by omega), if_pos (Nat.le_refl _), List.take_length, show A.length + 1 - A.length - 1 = 0 by omega]
  simp
theorem outD_end (A mid B : List (Ct Int)) (z : Ct Int) : outD A mid B (A ++ z :: B).length = A ++ (mid ++ B) := by
  unfold outD
  rw [if_neg (by simp), List.length_append, List.length_cons, show A.length + (B.length + 1) - A.length - 1 = B.length by omega, List.take_length]
theorem outD_len {A mid B : List (Ct Int)} (h : mid.length ≤ 1) (i : Nat) : (outD A mid B i).length ≤ i := by
  unfold outD
  split
  · simp; omega
  · simp; omega

set_option maxRecDepth 4000 in
set_option maxHeartbeats 2000000 in
theorem rdrop_in {w : World} {D top : Nat} {v : Value} {A B : List (Ct Int)} {k : Int} {n n' : Nat} {s t : Bool} {E : Int} (h : RK w D v top (A ++ (k, n, s) :: B)) (hA : ∀ x ∈ A, x.1 ≠ k) (hl : (A ++ (k, n, s) :: B).length ≤ 64) (ht : top ≤ 65535) (hok : okC top (k, n, s))
    (hP : putN n s = (n', t, E)) :
    Calls Try.prog 21 #[v, .int .i64 k] w fun e w' => ∃ v', e = .returned (.tuple #[v', .bool t, .int .i64 E]) ∧ RK w' w.heap.size v' top (A ++ ((if t then [] else [(k, n', s)]) ++ B)) ∧ Ch [] w w' := by
  obtain ⟨i0, hI, hz0, hz1, hz2⟩ := info_parts infoY
  have HF := Lib.hid (rfind_in h hA hl)
  obtain ⟨mid, hmid⟩ : ∃ mid : List (Ct Int), mid = if t then [] else [(k, n', s)] := ⟨_, rfl⟩
  rw [← hmid]
  have hml : mid.length ≤ 1 := by rw [hmid]; split <;> simp
  obtain ⟨m, hm⟩ : ∃ m, m = A ++ (k, n, s) :: B := ⟨_, rfl⟩
  obtain ⟨a, hla⟩ : ∃ a, a = A.length := ⟨_, rfl⟩
  rw [← hm] at h hl
  rw [← hla] at HF
  have hma : m[a]? = some (k, n, s) := by rw [hm, hla]; simp
  obtain ⟨g, cap, rfl, hDg, hgl, hlc, hcm, c0, c1, c2, c3, hf⟩ := h.cells hma
  obtain ⟨L, hL⟩ : ∃ L, L = m.length := ⟨_, rfl⟩
  have haL : a < L := by rw [hL]; exact (List.getElem?_eq_some_iff.1 hma).1
  have H := Lib.hid h
  have HM := Lib.hid hm
  have HL := Lib.hid hL
  have HLa := Lib.hid hla
  have HMid := Lib.hid hmid
  have HMl := Lib.hid hml
  have HG := Lib.hid (fun W => rput_at W ht hok.2.1 hok.2.2 hP)
  rw [← hL] at hl hlc HF ⊢
  have hb0 : (0 : Int) ≤ (a : Int) := by omega
  have hb1 : (a : Int) < (L : Int) := by omega
  have htn : ((a : Int)).toNat = a := rfl
  have c2' : w.cell? ⟨g, a * 4 + 1 + 1, none⟩ = some (.int .i64 (top : Int)) := c2
  have c3' : w.cell? ⟨g, a * 4 + 1 + 2, none⟩ = some (.bool s) := c3
  clear h hm hla hma hL hA hok hP hf hmid hml
  go_enter Try.func21, Try.ntmps21
  go_wp2_with fail
  with_reducible refine HF.out.mono ?_
  rintro e w1 ⟨rfl, rfl⟩
  go_wp2_with fail
  with_reducible refine (HG.out w1).mono ?_
  rintro e w2 ⟨rfl, hc2⟩
  have hc3 := hc2.alloc (.cells #[.int .i64 (n' : Int), .int .i64 (top : Int), .bool s] 30)
  have HX := Lib.hid (Box3.new w2 n' top s 30)
  have HC3 := Lib.hid hc3
  obtain ⟨X, hX⟩ : ∃ X, X = w2.heap.size := ⟨_, rfl⟩
  rw [← hX] at HX
  have HXe := Lib.hid hX
  have HSz := Lib.hid hc2.size
  clear hc2 hc3 hX c0 c1 c2 c3 c2' c3' hb0 hb1 htn
  go_wp2_with fail
  rw [← HXe.out]
  generalize w2.alloc (.cells #[.int .i64 (n' : Int), .int .i64 (top : Int), .bool s] 30) = w3 at *
  obtain ⟨T3, hT3⟩ : ∃ T3, T3 = w3.heap.size := ⟨_, rfl⟩
  have HT3 := Lib.hid hT3
  have HTl := Lib.hid (show w1.heap.size ≤ T3 by rw [hT3]; exact HC3.out.size)
  clear hT3
  go_wp2_with fail
  go_loopw [11, 12] (fun ov iv wr => ∃ (i : Nat) (vo : Value), i ≤ L ∧ iv = .int .i64 (i : Int) ∧ vo = ov ∧ RK wr T3 vo top (outD A mid B i) ∧ Ch [] w1 wr ∧ Ch [] w3 wr) (fun _ iv _ => L - (intOf iv).toNat)
  case atStart => exact ⟨0, _, Nat.zero_le _, rfl, rfl, by rw [outD_zero]; exact World.ownsRow_nil w3 _ _ _, HC3.out, Ch.refl _ _⟩
  case round =>
    obtain ⟨i, vo, hi, rfl, rfl, ho, hc, hcx⟩ := hrel
    have HO := Lib.hid ho
    have HC := Lib.hid hc
    have HCx := Lib.hid hcx
    clear ho hc hcx
    have hb0 : (0 : Int) ≤ (i : Int) := by omega
    have hol : (outD A mid B i).length ≤ i := outD_len HMl.out i
    obtain ⟨q, hq⟩ : ∃ q, q = (outD A mid B i).length := ⟨_, rfl⟩
    have HO1 := Lib.hid (show wr.ownsRow T3 59 4 vo q (rk top (outD A mid B i)) by have := HO.out; unfold RK at this; rw [← hq] at this; exact this)
    rw [← hq] at hol
    have HQ := Lib.hid hq
    have hsz := HCx.out.size
    rw [← HT3.out] at hsz
    clear HO hq
    by_cases hlt : i < L
    · have hb1 : (i : Int) < (L : Int) := by omega
      obtain ⟨x, hx⟩ : ∃ x, m[i]? = some x := ⟨_, List.getElem?_eq_getElem (by rw [← HL.out]; exact hlt)⟩
      by_cases hia : i = a
      · have hd3 : ((i : Int) != (a : Int)) = false := by simp [hia]
        have HAt := Lib.hid (show outD A mid B (i + 1) = outD A mid B i ++ mid by rw [hia, HLa.out]; exact outD_at A mid B)
        have hbx := HX.out.ch HCx.out (by simp)
        have x0 := hbx.c0
        have x1 := hbx.c1
        have x2 := hbx.c2
        clear hbx hx hia
        cases t with
        | true =>
          have HE4 := Lib.hid (HAt.out.trans ((congrArg (outD A mid B i ++ ·) HMid.out).trans (List.append_nil _)))
          have HR4 := Lib.hid (show RK wr T3 vo top (outD A mid B (i + 1)) by rw [HE4.out]; unfold RK; rw [← HQ.out]; exact HO1.out)
          go_wp2_with fail
          go_roundw
          case rel => exact ⟨i + 1, vo, by omega, by go_num, rfl, HR4.out, HC.out, HCx.out⟩
          case measure => simp [intOf]; omega
        | false =>
          have HN := Lib.hid (cells4_new wr (.int .i64 k) (.int .i64 (n' : Int)) (.int .i64 (top : Int)) (.bool s) 59)
          go_wp2_with (at_builtin; go_must (refine wpList_append_own _ rfl _ _ 47 rfl T3 59 i0 (.agg #[.int .i64 0, .int .i64 0, .int .i64 0, .bool false]) 4 32 Try.underlying47 hI hz0 hz1 hz2 rfl (by decide) vo q (rk top (outD A mid B i)) rfl (HO1.out.alloc _) ⟨wr.heap.size, 0, none⟩ 1 1 [.int .i64 k, .int .i64 (n' : Int), .int .i64 (top : Int), .bool s] rfl rfl HN.out ?c1 (by unfold maxLen; omega) (by omega) ?c2 ?_))
          case c1 =>
            intro u hu
            simp at hu
            rcases hu with rfl | rfl | rfl | rfl <;> rfl
          case c2 => simp; omega
          intro v' w4 hown4 hg4 hne4
          have HR4 := Lib.hid (show RK w4 T3 v' top (outD A mid B (i + 1)) by
            have e4 : outD A mid B (i + 1) = outD A mid B i ++ [(k, n', s)] := HAt.out.trans (congrArg (outD A mid B i ++ ·) HMid.out)
            unfold RK
            rw [e4, rk_append, List.length_append, ← HQ.out]
            exact hown4)
          have hch := (Ch.refl [] wr).alloc (.cells #[.int .i64 k, .int .i64 (n' : Int), .int .i64 (top : Int), .bool s] 59)
          have HC4 := Lib.hid ((HC.out.trans hch).kept hg4 (fun r e => Nat.le_trans HTl.out (World.ownsRow.lt HO1.out r e).1))
          have HCx4 := Lib.hid ((HCx.out.trans hch).kept hg4 (fun r e => by rw [← HT3.out]; exact (World.ownsRow.lt HO1.out r e).1))
          clear hown4 hg4 hne4 hch
          go_wp2_with fail
          go_roundw
          case rel => exact ⟨i + 1, v', by omega, by go_num, rfl, HR4.out, HC4.out, HCx4.out⟩
          case measure => simp [intOf]; omega
      · have hd3 : ((i : Int) != (a : Int)) = true := by simp; omega
        have HAt := Lib.hid (show outD A mid B (i + 1) = outD A mid B i ++ [x] from outD_other (z := (k, n, s)) (by rw [← HM.out]; exact hx) (by rw [← HLa.out]; exact hia))
        obtain ⟨g', cap', e, _, _, _, _, c0, c1, c2, c3, _⟩ := (H.out.quiet HC.out).cells hx
        rw [← HL.out] at e
        obtain ⟨rfl, rfl⟩ : g = g' ∧ cap = cap' := by simpa using e
        obtain ⟨x1, x2, x3⟩ := x
        have HN := Lib.hid (cells4_new wr (.int .i64 x1) (.int .i64 (x2 : Int)) (.int .i64 (top : Int)) (.bool x3) 59)
        simp only at c0 c1 c2 c3
        clear e hx
        go_wp2_with (at_builtin; go_must (refine wpList_append_own _ rfl _ _ 47 rfl T3 59 i0 (.agg #[.int .i64 0, .int .i64 0, .int .i64 0, .bool false]) 4 32 Try.underlying47 hI hz0 hz1 hz2 rfl (by decide) vo q (rk top (outD A mid B i)) rfl (HO1.out.alloc _) ⟨wr.heap.size, 0, none⟩ 1 1 [.int .i64 x1, .int .i64 (x2 : Int), .int .i64 (top : Int), .bool x3] rfl rfl HN.out ?c1 (by unfold maxLen; omega) (by omega) ?c2 ?_))
        case c1 =>
          intro u hu
          simp at hu
          rcases hu with rfl | rfl | rfl | rfl <;> rfl
        case c2 => simp; omega
        intro v' w4 hown4 hg4 hne4
        have HR4 := Lib.hid (show RK w4 T3 v' top (outD A mid B (i + 1)) by
          unfold RK
          rw [HAt.out, rk_append, List.length_append, ← HQ.out]
          exact hown4)
        have hch := (Ch.refl [] wr).alloc (.cells #[.int .i64 x1, .int .i64 (x2 : Int), .int .i64 (top : Int), .bool x3] 59)
        have HC4 := Lib.hid ((HC.out.trans hch).kept hg4 (fun r e => Nat.le_trans HTl.out (World.ownsRow.lt HO1.out r e).1))
        have HCx4 := Lib.hid ((HCx.out.trans hch).kept hg4 (fun r e => by rw [← HT3.out]; exact (World.ownsRow.lt HO1.out r e).1))
        clear hown4 hg4 hne4 hch c0 c1 c2 c3 hia
        go_wp2_with fail
        go_roundw
        case rel => exact ⟨i + 1, v', by omega, by go_num, rfl, HR4.out, HC4.out, HCx4.out⟩
        case measure => simp [intOf]; omega
    · obtain rfl : i = L := by omega
      have HR4 := Lib.hid (show RK wr w1.heap.size vo top (A ++ (mid ++ B)) by
        have e4 : outD A mid B i = A ++ (mid ++ B) := by rw [HL.out, HM.out]; exact outD_end A mid B (k, n, s)
        rw [← e4]
        unfold RK
        rw [← HQ.out]
        exact own_mono HO1.out HTl.out)
      go_wp2
      refine bodyPost_ret (v := .tuple #[vo, .bool t, .int .i64 E]) ?_ rfl ?_
      · simp [results, Try.f21, go_sem]
      · exact ⟨_, rfl, HR4.out, HC.out⟩
end Go.Proofs.Ytbjlkmmijdhgoaa
