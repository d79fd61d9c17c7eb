/-
  The fronts of a ring, that are done: the iterator.
-/
import Derived.Test.YtnnliimjemmekaaCaD
import Derived.WalkMore
namespace Go.Proofs.Ytnnliimjemmekaa
open Go.RowKit Go.Shelf
open rC (Th RL flat tv)

attribute [local go_sem] Oper.semAt_some

/-- Is a callback of such a generation? -/
def up (gen : Int) (x : Th) : Bool := decide (1 ≤ x.2 ∧ x.2 ≤ gen)
/-- What the fronts turn between their yields: the ring's blocks. -/
def StF (R Q : Nat) (A B : World) : Prop := ChP (fun k => (k = R ∨ k = Q) ∧ ∃ o : Obj, A.heap[k]? = some o ∧ o.isCells = true) A B
theorem StF.objs {R Q : Nat} {A B : World} (h : StF R Q A B) (k : Nat) (o : Obj) (hk : A.heap[k]? = some o) (hc : o.isCells = false) : B.heap[k]? = some o :=
  (h.block k (Array.getElem?_eq_some_iff.1 hk).1 (fun e => by
    obtain ⟨_, o', h1, h2⟩ := e
    rw [hk] at h1; cases h1; rw [hc] at h2; cases h2)).trans hk
theorem StF.chP {R Q : Nat} {A B : World} (h : StF R Q A B) : ChP (fun k => k = R ∨ k = Q) A B := h.mono fun _ e => e.1
theorem StF.quiet {R Q : Nat} {A B : World} (h : Ch [] A B) : StF R Q A B := ChP.quiet h
theorem StF.ring {R Q room : Nat} {A B : World} {xs : List Th} (hr : RL A R Q room xs) (h : Ch [R, Q] A B) : StF R Q A B := by
  obtain ⟨first, L, hr, _⟩ := hr
  have h1 := cell_obj hr.c0
  have h2 := cell_obj (hr.cs 0 (by have := hr.r1; omega))
  refine ⟨h.os, h.tape, h.output, h.size, fun k hk hn => h.block k hk (fun hm => hn ?_)⟩
  simp at hm
  rcases hm with rfl | rfl
  · exact ⟨.inl rfl, h1⟩
  · exact ⟨.inr rfl, h2⟩

theorem fronts_in (n : Nat) (p : Option Addr) (gen : Int) (w : World) :
    CallsIn Fence.wide n Try.prog 27 #[.pointer p, .int .i64 gen] w fun e w' => e = .returned (.func (.func 34) #[] #[.pointer (some ⟨w.heap.size, 0, none⟩), .pointer (some ⟨w.heap.size + 1, 0, none⟩)]) ∧
      w' = (w.alloc (.cells #[.pointer p] 63)).alloc (.cells #[.int .i64 gen] 3) := by
  refine callsIn_of_wp Try.func27 rfl trivial ?_ rfl
  simp only [Try.ntmps27, List.size_toArray, List.length_cons, List.length_nil, Nat.reduceAdd, Nat.reduceSub, Array.replicate_succ, Array.replicate_zero, List.push_toArray, List.append_toArray, List.nil_append, List.cons_append]
  gi_wp2
  go_ret
  exact ⟨rfl, rfl⟩

theorem cons_up {gen : Int} {pre ys : List Th} {x : Th} (h : up gen x = true) : pre ++ (x :: ys).takeWhile (up gen) = (pre ++ [x]) ++ ys.takeWhile (up gen) := by
  rw [List.takeWhile_cons, h]; simp
theorem cons_no {gen : Int} {pre ys : List Th} {x : Th} (h : up gen x = false) : pre ++ (x :: ys).takeWhile (up gen) = pre ∧ (x :: ys).dropWhile (up gen) = x :: ys := by
  rw [List.takeWhile_cons, List.dropWhile_cons, h]; simp

/-- How many a ring holds, by its cell. -/
def heldOf (R : Nat) (w : World) : Nat := (intOf ((w.cell? ⟨R, 2, none⟩).getD undef)).toNat
theorem held_is {w : World} {R Q room : Nat} {xs : List Th} (h : RL w R Q room xs) : heldOf R w = xs.length := by
  obtain ⟨first, L, h, _⟩ := h
  unfold heldOf
  rw [h.c2]
  simp [intOf]

set_option maxRecDepth 100000 in
set_option maxHeartbeats 2000000 in
theorem fronts1_in (n : Nat) (l B1 B2 R Q : Nat) (gen : Int) (xs : List Th) (S : Nat → Prop) (s1 : S B1) (s2 : S B2) (sR : S R) (sQ : S Q) (hBR : B1 ≠ R ∧ B1 ≠ Q ∧ B2 ≠ R ∧ B2 ≠ Q) (J Jx : List Th → World → Prop) (hJ : ∀ s A A', J s A → StF R Q A A' → J s A')
    (hY : ∀ pre x W, J pre W → pre ++ [x] <+: xs.takeWhile (up gen) → YieldAt Fence.wide (n - 1) Try.prog l #[tv x] W fun e W' =>
      (e = .returned (.bool true) ∧ J (pre ++ [x]) W' ∧ Keep S W W') ∨ (e = .returned (.bool false) ∧ Jx (pre ++ [x]) W'))
    (W : World) (hb1 : W.cell? ⟨B1, 0, none⟩ = some (.pointer (some ⟨R, 0, none⟩))) (hb2 : W.cell? ⟨B2, 0, none⟩ = some (.int .i64 gen)) (hL : RL W R Q 64 xs) (h0 : J [] W) :
    CallsIn Fence.wide n Try.prog 34 #[.func (.yield l) #[] #[], .pointer (some ⟨B1, 0, none⟩), .pointer (some ⟨B2, 0, none⟩)] W fun e W' => (∃ v, e = .returned v) ∧
      ((∃ ys, (ys = xs.takeWhile (up gen) ∧ RL W' R Q 64 (xs.dropWhile (up gen))) ∧ J ys W') ∨ (∃ pre, pre <+: xs.takeWhile (up gen) ∧ Jx pre W')) := by
  have HY := Lib.hid hY
  have HL := Lib.hid hL
  have HJ := Lib.hid hJ
  have HJ0 := Lib.hid h0
  have HB1 := Lib.hid hb1
  have HB2 := Lib.hid hb2
  have HN := Lib.hid hBR
  clear hY hL hJ h0 hb1 hb2 hBR
  refine callsIn_of_wp Try.func34 rfl trivial ?_ rfl
  simp only [Try.ntmps34, List.size_toArray, List.length_cons, List.length_nil, Nat.reduceAdd, Nat.reduceSub, Array.replicate_succ, Array.replicate_zero, List.push_toArray, List.append_toArray, List.nil_append, List.cons_append]
  have hw : ∀ f, Fence.wide.fn f := fun _ => trivial
  have hd : Fence.wide.depth = none := rfl
  gi_wp2
  gi_loopw [5] (fun _ wr => ∃ pre ys : List Th, xs.takeWhile (up gen) = pre ++ ys.takeWhile (up gen) ∧ xs.dropWhile (up gen) = ys.dropWhile (up gen) ∧ J pre wr ∧ RL wr R Q 64 ys ∧ wr.cell? ⟨B1, 0, none⟩ = some (.pointer (some ⟨R, 0, none⟩)) ∧ wr.cell? ⟨B2, 0, none⟩ = some (.int .i64 gen))
    (fun _ wr => heldOf R wr)
  case atStart =>
    exact ⟨[], xs, rfl, rfl, HJ0.out, HL.out, HB1.out, HB2.out⟩
  case round =>
    obtain ⟨pre, ys, hT, hD, hJk, hRk, hc1, hc2⟩ := hrel
    have HT := Lib.hid hT
    have HD := Lib.hid hD
    have HJk := Lib.hid hJk
    have HRk := Lib.hid hRk
    have HC1 := Lib.hid hc1
    have HC2 := Lib.hid hc2
    have HH := Lib.hid (held_is hRk)
    have hl1 := cell_lt hc1
    have hl2 := cell_lt hc2
    simp only at hl1 hl2
    clear hT hD hJk hRk hc2
    cases ys with
    | nil =>
      have HA := Lib.hid (rC.at0_out HRk.out)
      gi_wp2_with fail
      with_reducible refine (callsIn_wide.2 HA.out).mono ?_
      rintro e w3 ⟨rfl, hc3⟩
      have HC3 := Lib.hid hc3
      clear hc3
      go_frame
      gi_wp2
      refine bodyPost_ret (results_none rfl _ _ _) rfl ?_
      have hall := HC3.out.alloc (.cells #[.int .i64 0, .int .i64 0] 51)
      refine ⟨⟨_, rfl⟩, .inl ⟨pre, ⟨by rw [HT.out]; simp, ?_⟩, HJ.out _ _ _ HJk.out (.quiet hall)⟩⟩
      rw [HD.out]
      exact HRk.out.ch hall (by simp) (by simp)
    | cons x ys =>
      have HA := Lib.hid (rC.at0_l HRk.out)
      gi_wp2_with fail
      with_reducible refine (callsIn_wide.2 HA.out).mono ?_
      rintro e w3 ⟨rfl, hc3⟩
      have hall := hc3.alloc (.cells #[.int .i64 x.1, .int .i64 x.2] 51)
      have hb := Box2.new w3 (.int .i64 x.1) (.int .i64 x.2) 51
      have hs3 := hc3.size
      have HA4 := Lib.hid hall
      have HR4 := Lib.hid (HRk.out.ch hall (by simp) (by simp))
      have hd1 := (hall.cell (p := ⟨B1, 0, none⟩) hl1 (by simp)).trans HC1.out
      have hd2 := (hall.cell (p := ⟨B2, 0, none⟩) hl2 (by simp)).trans HC2.out
      have HJ4 := Lib.hid (HJ.out _ _ _ HJk.out (.quiet hall))
      have k0 := hb.c0
      have k1 := hb.c1
      have HBx := Lib.hid hb
      have HSb := Lib.hid hs3
      clear hall hc3 hb hs3 hc1 hl1 hl2
      by_cases hx1 : x.2 < 1
      · have hup := cons_no (pre := pre) (ys := ys) (show up gen x = false by unfold up; exact decide_eq_false (by omega))
        have HU := Lib.hid hup
        have dx : decide (x.2 < 1) = true := decide_eq_true hx1
        clear hup
        go_frame
        gi_wp2
        refine bodyPost_ret (results_none rfl _ _ _) rfl ?_
        exact ⟨⟨_, rfl⟩, .inl ⟨pre, ⟨by rw [HT.out, HU.out.1], by rw [HD.out, HU.out.2]; exact HR4.out⟩, HJ4.out⟩⟩
      · by_cases hx2 : gen < x.2
        · have hup := cons_no (pre := pre) (ys := ys) (show up gen x = false by unfold up; exact decide_eq_false (by omega))
          have HU := Lib.hid hup
          have dx : decide (x.2 < 1) = false := decide_eq_false hx1
          have dx2 : decide (gen < x.2) = true := decide_eq_true hx2
          clear hup
          go_frame
          gi_wp2
          refine bodyPost_ret (results_none rfl _ _ _) rfl ?_
          exact ⟨⟨_, rfl⟩, .inl ⟨pre, ⟨by rw [HT.out, HU.out.1], by rw [HD.out, HU.out.2]; exact HR4.out⟩, HJ4.out⟩⟩
        · have hux : up gen x = true := by unfold up; exact decide_eq_true (by omega)
          have HU := Lib.hid (cons_up (pre := pre) (ys := ys) hux)
          have HU2 := Lib.hid (show (x :: ys).dropWhile (up gen) = ys.dropWhile (up gen) by rw [List.dropWhile_cons, hux]; simp)
          have dx : decide (x.2 < 1) = false := decide_eq_false hx1
          have dx2 : decide (gen < x.2) = false := decide_eq_false hx2
          have HP := Lib.hid (rC.pop_l HR4.out)
          clear hux
          go_frame
          gi_wp2_with fail
          with_reducible refine (callsIn_wide.2 HP.out).mono ?_
          rintro e w5 ⟨rfl, hr5, hc5⟩
          have HR5 := Lib.hid hr5
          have HJ5 := Lib.hid (HJ.out _ _ _ HJ4.out (.ring HR4.out hc5))
          have hRb : w3.heap.size ∉ [R, Q] := by
            have := HRk.out.lt
            have := HSb.out
            simp; omega
          have hb5 := HBx.out.ch hc5 hRb
          have m0 := hb5.c0
          have m1 := hb5.c1
          have HE1 := Lib.hid ((hc5.cell (p := ⟨B1, 0, none⟩) (cell_lt hd1) (by have := HN.out; simp; omega)).trans hd1)
          have HE2 := Lib.hid ((hc5.cell (p := ⟨B2, 0, none⟩) (cell_lt hd2) (by have := HN.out; simp; omega)).trans hd2)
          have HPx := Lib.hid (show pre ++ [x] <+: xs.takeWhile (up gen) by rw [HT.out, HU.out]; exact List.prefix_append _ _)
          obtain ⟨fn, tmps, assign, body, hy, hR⟩ := HY.out pre x w5 HJ5.out HPx.out
          unfold tv at hy
          clear hr5 hc5 hb5 hRb k0 k1 hd1 hd2
          go_frame
          gi_wp2
          refine hR.mono ?_
          rintro e W3 (⟨rfl, hJ3, hk3⟩ | ⟨rfl, hJx3⟩)
          · have HK3 := Lib.hid hk3
            have HJ3 := Lib.hid hJ3
            clear hk3 hJ3 hy hR
            go_frame
            gi_wp2
            go_roundw
            case rel =>
              exact ⟨pre ++ [x], ys, by rw [HT.out, HU.out], by rw [HD.out, HU2.out], HJ3.out, HR5.out.keep HK3.out sR sQ, HK3.out.cell s1 HE1.out, HK3.out.cell s2 HE2.out⟩
            case measure =>
              rw [held_is (HR5.out.keep HK3.out sR sQ), HH.out]
              simp
          · have HJx := Lib.hid hJx3
            clear hJx3 hy hR
            go_frame
            gi_wp2
            refine bodyPost_ret (results_none rfl _ _ _) rfl ?_
            exact ⟨⟨_, rfl⟩, .inr ⟨_, HPx.out, HJx.out⟩⟩
theorem fronts_seq (n : Nat) {B1 B2 R Q : Nat} {gen : Int} {xs : List Th} {S : Nat → Prop} (s1 : S B1) (s2 : S B2) (sR : S R) (sQ : S Q) (hBR : B1 ≠ R ∧ B1 ≠ Q ∧ B2 ≠ R ∧ B2 ≠ Q) (w : World)
    (hb1 : w.cell? ⟨B1, 0, none⟩ = some (.pointer (some ⟨R, 0, none⟩))) (hb2 : w.cell? ⟨B2, 0, none⟩ = some (.int .i64 gen)) (hL : RL w R Q 64 xs) :
    SeqP Fence.wide n Try.prog 34 #[.pointer (some ⟨B1, 0, none⟩), .pointer (some ⟨B2, 0, none⟩)] (fun x : Th => #[tv x]) (StF R Q) (Keep S) (fun ys W => ys = xs.takeWhile (up gen) ∧ RL W R Q 64 (xs.dropWhile (up gen))) (fun pre => pre <+: xs.takeWhile (up gen)) w := fun l J Jx W hW hJ hY h0 =>
  fronts1_in n l B1 B2 R Q gen xs S s1 s2 sR sQ hBR J Jx hJ hY W ((hW.cell (p := ⟨B1, 0, none⟩) (cell_lt hb1)).trans hb1) ((hW.cell (p := ⟨B2, 0, none⟩) (cell_lt hb2)).trans hb2) (hL.same (hW.block R hL.lt.1) (hW.block Q hL.lt.2)) h0
end Go.Proofs.Ytnnliimjemmekaa
