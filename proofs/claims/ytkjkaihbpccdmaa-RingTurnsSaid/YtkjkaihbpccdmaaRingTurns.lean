/-
  The law RingTurns, walked.
-/
import Derived.Test.YtkjkaihbpccdmaaRIK
import Derived.Test.YtkjkaihbpccdmaaRUL
namespace Go.Proofs.Ytkjkaihbpccdmaa
open Go.RowKit

attribute [local go_sem] Oper.semAt_some

def vN (x : Int) (i : Nat) : Int := IntKind.u64.wrap (x + (i : Int))
def vs (x : Int) (i n : Nat) : List Int := (List.range n).map fun j => vN x (i + j)
theorem vs_len (x : Int) (i n : Nat) : (vs x i n).length = n := by simp [vs]
theorem vs_snoc (x : Int) (i n : Nat) : vs x i (n + 1) = vs x i n ++ [vN x (i + n)] := by simp [vs, List.range_succ]
theorem vs_cons (x : Int) (i n : Nat) : vs x i (n + 1) = vN x i :: vs x (i + 1) n := by
  simp only [vs, List.range_succ_eq_map, List.map_cons, List.map_map, Nat.add_zero]
  congr 1
  apply List.map_congr_left
  intro a _
  simp [Function.comp, Nat.add_assoc, Nat.add_comm 1]
theorem vN_add (x : Int) (i k : Nat) : IntKind.u64.wrap (vN x i + (k : Int)) = vN x (i + k) := by
  unfold vN
  rw [IntKind.wrap_u64, IntKind.wrap_u64, IntKind.wrap_u64]
  omega

theorem push1 {w : World} {R G room : Nat} {xs : List Int} (h : rU.RL w R G room xs) (hr : xs.length < room) (z : Int) :
    Calls Try.prog 24 #[.pointer (some ⟨R, 0, none⟩), .slice (some ⟨w.heap.size, 0, none⟩) 1 1] (w.alloc (.cells #[.int .u64 z] 31)) fun e w' =>
      e = .returned (.int .i64 1) ∧ rU.RL w' R G room (xs ++ [z]) ∧ Ch [R, G] w w' := by
  have h1 := rU.push_lit h [z] (by simp)
  have e : min 1 (room - xs.length) = 1 := by omega
  have e2 : [z].take (room - xs.length) = [z] := List.take_of_length_le (by simp; omega)
  simp only [List.length_singleton, e, e2] at h1
  exact h1
theorem push0 {w : World} {R G room : Nat} {xs : List Int} (h : rU.RL w R G room xs) (hr : xs.length = room) (z : Int) :
    Calls Try.prog 24 #[.pointer (some ⟨R, 0, none⟩), .slice (some ⟨w.heap.size, 0, none⟩) 1 1] (w.alloc (.cells #[.int .u64 z] 31)) fun e w' =>
      e = .returned (.int .i64 0) ∧ rU.RL w' R G room xs ∧ Ch [R, G] w w' := by
  have h1 := rU.push_lit h [z] (by simp)
  have e : room - xs.length = 0 := by omega
  simp only [List.length_singleton, e, List.take_zero, List.append_nil, Nat.min_zero] at h1
  exact h1

theorem popT {w : World} {R G room : Nat} {X : Int} {k : Nat} (h : rU.RL w R G room (vs X k room)) (hr : 1 ≤ room) :
    Calls Try.prog 25 #[.pointer (some ⟨R, 0, none⟩)] w fun e w' =>
      e = .returned (.tuple #[.int .u64 (IntKind.u64.wrap (X + (k : Int))), .bool true]) ∧ rU.RL w' R G room (vs X (k + 1) (room - 1)) ∧ Ch [R, G] w w' := by
  have e := vs_cons X k (room - 1)
  rw [Nat.sub_add_cancel hr] at e
  rw [e] at h
  exact rU.pop_l h
theorem vsT (X : Int) (k room : Nat) (hr : 1 ≤ room) : vs X (k + 1) (room - 1) ++ [IntKind.u64.wrap (IntKind.u64.wrap (X + (k : Int)) + (room : Int))] = vs X (k + 1) room := by
  have e := vs_snoc X (k + 1) (room - 1)
  rw [Nat.sub_add_cancel hr] at e
  rw [e, show IntKind.u64.wrap (IntKind.u64.wrap (X + (k : Int)) + (room : Int)) = vN X (k + room) from vN_add X k room, show k + 1 + (room - 1) = k + room by omega]
theorem lenT {w : World} {R G room : Nat} {X : Int} {k : Nat} (h : rU.RL w R G room (vs X k room)) :
    Calls Try.prog 26 #[.pointer (some ⟨R, 0, none⟩)] w fun e w' => e = .returned (.int .i64 (room : Int)) ∧ w = w' := by
  have h1 := rU.len_l h
  rw [vs_len] at h1
  exact h1

set_option maxHeartbeats 2000000 in
theorem turns_law (a0 a1 a2 : Int) (w : World) :
    Calls Try.prog 5 #[.int .i64 a0, .int .i64 a1, .int .i64 a2] w fun e w' => e = .returned (.bool true) ∧ Below w.heap.size w w' := by
  have u0 : 0 ≤ IntKind.u64.wrap a0 ∧ IntKind.u64.wrap a0 < 18446744073709551616 := by rw [IntKind.wrap_u64]; omega
  have u1 : 0 ≤ IntKind.u64.wrap a1 ∧ IntKind.u64.wrap a1 < 18446744073709551616 := by rw [IntKind.wrap_u64]; omega
  generalize hg0 : IntKind.u64.wrap a0 = U0 at u0
  generalize hg1 : IntKind.u64.wrap a1 = U1 at u1
  generalize hg2 : IntKind.u64.wrap a2 = X
  obtain ⟨u00, u01⟩ := u0
  obtain ⟨u10, u11⟩ := u1
  obtain ⟨room, hr0, hr1, hr2⟩ : ∃ room : Nat, 1 + U0 % 256 = (room : Int) ∧ 1 ≤ room ∧ room ≤ 256 := ⟨(1 + U0 % 256).toNat, by omega⟩
  obtain ⟨n, hn0, hn1⟩ : ∃ n : Nat, U1 % 300 = (n : Int) ∧ n ≤ 300 := ⟨(U1 % 300).toNat, by omega⟩
  obtain ⟨S, hS⟩ : ∃ S, S = w.heap.size := ⟨_, rfl⟩
  have HNew := Lib.hid (rU.new_l room w hr1 hr2)
  rw [← hS] at HNew ⊢
  clear hS
  go_enter Try.func5, Try.ntmps5
  go_wp2_with fail
  refine HNew.out.mono ?_
  rintro e w1 ⟨R, rfl, hl1, hb1, hR1, hR2⟩
  have HL1 := Lib.hid hl1
  have HB1 := Lib.hid hb1
  have HSz := Lib.hid (show S ≤ w1.heap.size by omega)
  have HSR := Lib.hid (show ∀ k ∈ [R, S], S ≤ k by simp; omega)
  clear hl1 hb1 hR1 hR2 hg0 hg1
  go_wp2_with fail
  go_loopw [10] (fun x wr => ∃ k : Nat, k ≤ room ∧ x = .int .i64 (k : Int) ∧ rU.RL wr R S room (vs X 0 k) ∧ Below S w wr ∧ S ≤ wr.heap.size) (fun x _ => room - (intOf x).toNat)
  case atStart => exact ⟨0, Nat.zero_le _, rfl, HL1.out, HB1.out, HSz.out⟩
  case round =>
    obtain ⟨k, hk, rfl, hl, hb, hsz⟩ := hrel
    have HL := Lib.hid hl
    have HB := Lib.hid hb
    have HZ := Lib.hid hsz
    clear hl hb hsz
    by_cases hlt : k < room
    · have hcv : IntKind.u64.wrap (k : Int) = (k : Int) := by rw [IntKind.wrap_u64]; omega
      go_wp2_with fail
      refine (push1 HL.out (by rw [vs_len]; omega) _).mono ?_
      rintro e w2 ⟨rfl, hl2, hc2⟩
      have HL2 := Lib.hid hl2
      have HC2 := Lib.hid hc2
      clear hl2 hc2
      go_wp2_with fail
      go_roundw
      case rel => 
        refine ⟨k + 1, by omega, by go_num, ?_, HB.out.trans (HC2.out.below S HSR.out HZ.out), Nat.le_trans HZ.out HC2.out.size⟩
        rw [vs_snoc, Nat.zero_add]
        exact HL2.out
      case measure => simp [intOf]; omega
    · obtain rfl : room = k := by omega
      clear hlt hk
      have hcr : IntKind.u64.wrap (room : Int) = (room : Int) := by rw [IntKind.wrap_u64]; omega
      go_wp2_with fail
      go_loopw [11] (fun x wr => ∃ k : Nat, k ≤ n ∧ x = .int .i64 (k : Int) ∧ rU.RL wr R S room (vs X k room) ∧ Below S w wr ∧ S ≤ wr.heap.size) (fun x _ => n - (intOf x).toNat)
      case atStart => exact ⟨0, Nat.zero_le _, rfl, HL.out, HB.out, HZ.out⟩
      case round =>
        obtain ⟨wo, rfl⟩ : ∃ wo : World, wo = wr := ⟨_, rfl⟩
        obtain ⟨k, hk, rfl, hl, hb, hsz⟩ := hrel
        clear HL HB HZ
        have HL := Lib.hid hl
        have HB := Lib.hid hb
        have HZ := Lib.hid hsz
        clear hl hb hsz
        by_cases hlt : k < n
        · have hcv : IntKind.u64.wrap (k : Int) = (k : Int) := by rw [IntKind.wrap_u64]; omega
          go_wp2_with fail
          refine (popT HL.out hr1).mono ?_
          rintro e w2 ⟨rfl, hl2, hc2⟩
          have HL2 := Lib.hid hl2
          have HC2 := Lib.hid hc2
          clear hl2 hc2
          go_wp2_with fail
          refine (push1 HL2.out (by rw [vs_len]; omega) _).mono ?_
          rintro e w3 ⟨rfl, hl3, hc3⟩
          rw [vsT X k room hr1] at hl3
          have HL3 := Lib.hid hl3
          have HC3 := Lib.hid (HC2.out.trans hc3)
          clear hl3 hc3 HL2 HC2
          go_wp2_with fail
          refine (push0 HL3.out (by rw [vs_len]) _).mono ?_
          rintro e w4 ⟨rfl, hl4, hc4⟩
          have HL4 := Lib.hid hl4
          have HC4 := Lib.hid (HC3.out.trans hc4)
          clear hl4 hc4 HL3 HC3
          go_wp2_with fail
          go_roundw
          case rel => exact ⟨k + 1, by omega, by go_num, HL4.out, HB.out.trans (HC4.out.below S HSR.out HZ.out), Nat.le_trans HZ.out HC4.out.size⟩
          case measure => simp [intOf]; omega
        · go_wp2_with fail
          refine (rI.known_any _).mono ?_
          rintro e w2 ⟨rfl, hb2⟩
          have HL2 := Lib.hid (lenT (HL.out.ch (S := []) (Ch.of_below hb2) (by simp) (by simp)))
          have HB2 := Lib.hid (HB.out.trans (hb2.mono HZ.out))
          clear hb2
          go_wp2_with fail
          refine HL2.out.mono ?_
          rintro e w' ⟨rfl, rfl⟩
          go_wp2
          go_ret
          exact ⟨rfl, HB2.out⟩
end Go.Proofs.Ytkjkaihbpccdmaa
