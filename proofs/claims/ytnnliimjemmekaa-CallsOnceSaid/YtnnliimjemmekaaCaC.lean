/-
  give, Close.
-/
import Derived.Test.YtnnliimjemmekaaCaB
namespace Go.Proofs.Ytnnliimjemmekaa
open Go.RowKit Go.Shelf
open rC (Th RL flat tv)

attribute [local go_sem] Oper.semAt_some

/-- A callback behind a closing. -/
def giveT (gen : Int) (x : Th) : Th := if x.2 = 0 then (x.1, gen) else x
/-- How many have no generation. -/
def zc (xs : List Th) : Nat := xs.countP fun x => decide (x.2 = 0)
theorem zc_snoc (xs : List Th) (x : Th) : zc (xs ++ [x]) = zc xs + if x.2 = 0 then 1 else 0 := by
  unfold zc
  rw [List.countP_append, List.countP_cons, List.countP_nil]
  simp
theorem zc_le (xs : List Th) : zc xs ≤ xs.length := List.countP_le_length

theorem to_any (x : Th) (w : World) :
    Calls Try.prog 26 #[tv x] w fun e w' => e = .returned (.bool (decide (x.2 = 0))) ∧ Ch [] w w' := by
  have hc := (Box2.new w (.int .i64 x.1) (.int .i64 x.2) 51).c1
  unfold tv
  go_enter Try.func26, Try.ntmps26
  go_wp2
  go_ret
  exact ⟨by rfl, (Ch.refl [] w).alloc _⟩

theorem drop_cons {xs : List Th} {k : Nat} (h : k < xs.length) : xs.drop k = xs[k]?.getD (0, 0) :: xs.drop (k + 1) := by
  rw [List.drop_eq_getElem_cons h]
  simp [h]
theorem take_snoc {xs : List Th} {k : Nat} (h : k < xs.length) : xs.take (k + 1) = xs.take k ++ [xs[k]?.getD (0, 0)] := by
  rw [List.take_succ_eq_append_getElem h]
  simp [h]

theorem push_new {W : World} {R Q : Nat} {ys : List Th} (h : RL W R Q 64 ys) (hl : ys.length < 64) (p q : Int) {s : Nat} (hs : s = W.heap.size) :
    Calls Try.prog 24 #[.pointer (some ⟨R, 0, none⟩), .slice (some ⟨s, 0, none⟩) 1 1] (W.alloc (.cells #[.int .i64 p, .int .i64 q] 51)) fun e w' =>
      e = .returned (.int .i64 1) ∧ RL w' R Q 64 (ys ++ [(p, q)]) ∧ Ch [R, Q] W w' := by
  subst hs
  have hRl := h.lt
  refine (rC.push_l1 (h.ch ((Ch.refl [] W).alloc (.cells #[.int .i64 p, .int .i64 q] 51)) (by simp) (by simp)) hl W.heap.size (p, q) (by omega) (by omega) (Box2.new W (.int .i64 p) (.int .i64 q) 51)).mono ?_
  rintro e w' ⟨rfl, hr, hc⟩
  exact ⟨rfl, hr, ((Ch.refl [R, Q] W).alloc _).trans hc⟩

set_option maxHeartbeats 1000000 in
theorem give_any {w : World} {R Q : Nat} {xs : List Th} (h : RL w R Q 64 xs) (gen : Int) :
    Calls Try.prog 25 #[.pointer (some ⟨R, 0, none⟩), .int .i64 gen, .func (.func 26) #[] #[]] w fun e w' =>
      e = .returned (.int .i64 (zc xs : Int)) ∧ RL w' R Q 64 (xs.map (giveT gen)) ∧ Ch [R, Q] w w' := by
  have hle := h.le.1
  have HLen := Lib.hid (rC.len_l h)
  have HR := Lib.hid h
  obtain ⟨m, hm⟩ : ∃ m, m = xs.length := ⟨_, rfl⟩
  have HM := Lib.hid hm
  rw [← hm] at HLen hle
  clear h hm
  go_enter Try.func25, Try.ntmps25
  go_wp2_with (first | (go_at_call 31; with_reducible refine HLen.out.mono ?_; rintro e w' ⟨rfl, rfl⟩) | fail)
  go_loopw [12, 7] (fun r q wr => ∃ k : Nat, k ≤ m ∧ r = .int .i64 (k : Int) ∧ q = .int .i64 (zc (xs.take k) : Int) ∧ RL wr R Q 64 (xs.drop k ++ (xs.take k).map (giveT gen)) ∧ Ch [R, Q] w wr) (fun r _ _ => m - (intOf r).toNat)
  case atStart => exact ⟨0, Nat.zero_le _, rfl, rfl, by simpa using HR.out, Ch.refl _ _⟩
  case round =>
    obtain ⟨k, hk, rfl, rfl, hRk, hPk⟩ := hrel
    have HPk := Lib.hid hPk
    by_cases hkm : k < m
    · have hkz : k < xs.length := by rw [← HM.out]; exact hkm
      obtain ⟨x, hx⟩ : ∃ x, x = xs[k]?.getD (0, 0) := ⟨_, rfl⟩
      have HT := Lib.hid (show xs.take (k + 1) = xs.take k ++ [x] by rw [take_snoc hkz, hx])
      rw [drop_cons hkz, ← hx, List.cons_append] at hRk
      have hRl := hRk.lt
      have hz := zc_le (xs.take k)
      simp at hz
      obtain ⟨ys, hys⟩ : ∃ ys, ys = xs.drop (k + 1) ++ (xs.take k).map (giveT gen) := ⟨_, rfl⟩
      have HY := Lib.hid (show ys.length < 64 ∧ ys ++ [giveT gen x] = xs.drop (k + 1) ++ (xs.take (k + 1)).map (giveT gen) from by
        refine ⟨?_, ?_⟩
        · have := HM.out; rw [hys]; simp; omega
        · rw [HT.out, hys]; simp)
      rw [← hys] at hRk
      have HP := Lib.hid (rC.pop_l hRk)
      obtain ⟨q, hq⟩ : ∃ q, q = zc (xs.take k) := ⟨_, rfl⟩
      have HQ := Lib.hid (show zc (xs.take (k + 1)) = q + if x.2 = 0 then 1 else 0 by rw [HT.out, zc_snoc, hq])
      rw [← hq] at hz ⊢
      have hcap' : (k : Int) < (m : Int) := by omega
      have hw1 : IntKind.i64.wrap ((q : Int) + 1) = (q : Int) + 1 := IntWalk.i64_in _ (by omega)
      clear hRk hPk hx hys hkz hq
      go_wp2_with fail
      with_reducible refine HP.out.mono ?_
      rintro e w3 ⟨rfl, hr3, hc3⟩
      have hsz3 := hc3.size
      have HC3 := Lib.hid hc3
      have HR3 := Lib.hid hr3
      clear hr3 hc3
      go_frame
      go_wp2_with fail
      have hb := Box2.new w3 (.int .i64 x.1) (.int .i64 x.2) 51
      have hR4 := HR3.out.ch ((Ch.refl [] w3).alloc (.cells #[.int .i64 x.1, .int .i64 x.2] 51)) (by simp) (by simp)
      have hC4 := HC3.out.alloc (.cells #[.int .i64 x.1, .int .i64 x.2] 51)
      obtain ⟨b, hbe⟩ : ∃ b, b = w3.heap.size := ⟨_, rfl⟩
      rw [← hbe] at hb ⊢
      have hRb : wr.heap.size ≤ b := by omega
      clear hbe
      generalize w3.alloc (.cells #[.int .i64 x.1, .int .i64 x.2] 51) = w4 at *
      have hT := to_any x w4
      unfold tv at hT
      by_cases hx0 : x.2 = 0
      · have HG := Lib.hid (show giveT gen x = (x.1, gen) by unfold giveT; rw [if_pos hx0])
        have HZ := Lib.hid (show zc (xs.take (k + 1)) = q + 1 by rw [HQ.out, if_pos hx0])
        rw [decide_eq_true hx0] at hT
        with_reducible refine hT.mono ?_
        rintro e w5 ⟨rfl, hc5⟩
        have HB5 := Lib.hid (hb.ch hc5 (by simp))
        have HR5 := Lib.hid (hR4.ch hc5 (by simp) (by simp))
        have HC5 := Lib.hid (hC4.trans (hc5.mono (T := [R, Q]) (by simp)))
        have k0 := HB5.out.c0
        have k1 := HB5.out.c1
        have k2 := HB5.out.f1
        clear hb hR4 hC4 hT hc5 HR3 HC3
        have hbR : R ∉ [b] ∧ Q ∉ [b] := by simp; omega
        have HbR := Lib.hid hbR
        clear hbR
        have hset : Ch [b] w5 (w5.setCell ⟨b, 1, none⟩ (.int .i64 gen)) := (Ch.refl [b] w5).setCell (p := ⟨b, 1, none⟩) (by simp) _
        have HP := Lib.hid (push_new (HR5.out.ch hset HbR.out.1 HbR.out.2) HY.out.1 x.1 gen (s := w5.heap.size) (by simp [World.setCell]))
        clear hx0 hset
        go_frame
        go_wp2_with fail
        with_reducible refine HP.out.mono ?_
        rintro e w7 ⟨rfl, hr7, hc7⟩
        have HR7 := Lib.hid hr7
        have HC7 := Lib.hid hc7
        clear hr7 hc7
        go_frame
        go_wp2
        go_roundw
        case rel =>
          refine ⟨k + 1, by omega, by go_num, by rw [HZ.out]; rfl, ?_, HPk.out.trans ?_⟩
          · rw [← HY.out.2, HG.out]; exact HR7.out
          · have h9 : Ch [R, Q] wr (w5.setCell ⟨b, 1, none⟩ (.int .i64 gen)) := chSetNew HC5.out (p := ⟨b, 1, none⟩) hRb _
            exact h9.trans HC7.out
        case measure => simp [intOf]; omega
      · have HG := Lib.hid (show giveT gen x = (x.1, x.2) by unfold giveT; rw [if_neg hx0])
        have HZ := Lib.hid (show zc (xs.take (k + 1)) = q by rw [HQ.out, if_neg hx0, Nat.add_zero])
        rw [decide_eq_false hx0] at hT
        with_reducible refine hT.mono ?_
        rintro e w5 ⟨rfl, hc5⟩
        have HB5 := Lib.hid (hb.ch hc5 (by simp))
        have HR5 := Lib.hid (hR4.ch hc5 (by simp) (by simp))
        have HC5 := Lib.hid (hC4.trans (hc5.mono (T := [R, Q]) (by simp)))
        have k0 := HB5.out.c0
        have k1 := HB5.out.c1
        have k2 := HB5.out.f1
        clear hb hR4 hC4 hT hc5 HR3 HC3
        have hbR : R ∉ [b] ∧ Q ∉ [b] := by simp; omega
        have HbR := Lib.hid hbR
        clear hbR
        have HP := Lib.hid (push_new HR5.out HY.out.1 x.1 x.2 rfl)
        clear hx0
        go_frame
        go_wp2_with fail
        with_reducible refine HP.out.mono ?_
        rintro e w7 ⟨rfl, hr7, hc7⟩
        have HR7 := Lib.hid hr7
        have HC7 := Lib.hid hc7
        clear hr7 hc7
        go_frame
        go_wp2
        go_roundw
        case rel =>
          refine ⟨k + 1, by omega, by go_num, by rw [HZ.out], ?_, HPk.out.trans (HC5.out.trans HC7.out)⟩
          rw [← HY.out.2, HG.out]; exact HR7.out
        case measure => simp [intOf]; omega
    · have hkm' : ¬ (k : Int) < (m : Int) := by omega
      clear hPk
      go_wp2
      go_ret
      obtain rfl : k = m := by omega
      have e1 : xs.take k = xs := List.take_of_length_le (by rw [← HM.out]; exact Nat.le_refl _)
      have e2 : xs.drop k = [] := List.drop_eq_nil_of_le (by rw [← HM.out]; exact Nat.le_refl _)
      rw [e1, e2] at hRk
      rw [e1]
      exact ⟨rfl, hRk, HPk.out⟩
end Go.Proofs.Ytnnliimjemmekaa
