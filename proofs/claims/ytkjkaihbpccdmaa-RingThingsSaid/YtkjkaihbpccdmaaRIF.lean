/-
  Contracts of a ring of int: the iterator over its things, List.
-/
import Derived.RangeFuncNested
import Derived.RangeFuncBound
import Derived.RangeFuncBox
import Derived.RangeFuncCalls
import Derived.RangeFuncLeaves
import Derived.Shelf.Abstract
import Derived.Shelf.RegionOpen
import Derived.OwnWalkIn
import Derived.TacticsInMore
import Derived.LoopNIn
import Derived.LoopIn
import Derived.Maps.AppendAt
import Derived.Test.YtkjkaihbpccdmaaRIE
namespace Go.Proofs.Ytkjkaihbpccdmaa.rI
open Go.RowKit Go.Shelf

attribute [local go_sem] Oper.semAt_some

/-- What a ring holds, in order. -/
def cont (held : Nat) (L : Nat → Int) : List Int := (List.range held).map L
theorem cont_len (held : Nat) (L : Nat → Int) : (cont held L).length = held := by simp [cont]
theorem cont_take (held k : Nat) (L : Nat → Int) (h : k < held) : (cont held L).take (k + 1) = (cont held L).take k ++ [L k] := by
  rw [List.take_succ_eq_append_getElem (by rw [cont_len]; exact h)]
  simp [cont]
theorem cont_full (held : Nat) (L : Nat → Int) : (cont held L).take held = cont held L := List.take_of_length_le (by rw [cont_len]; exact Nat.le_refl _)
theorem cont_prefix (held k : Nat) (L : Nat → Int) (h : k < held) : (cont held L).take k ++ [L k] <+: cont held L := by
  rw [← cont_take held k L h]; exact List.take_prefix _ _

/-- A ring that is nil, or lies below n₀. -/
def LR (n₀ : Nat) (W : World) (p : Option Addr) (held : Nat) (L : Nat → Int) : Prop :=
  (p = none ∧ held = 0) ∨ ∃ R G room first, p = some ⟨R, 0, none⟩ ∧ R < n₀ ∧ G < n₀ ∧ RC W R G room first held L

theorem LR.below {n₀ : Nat} {W W' : World} {p : Option Addr} {held : Nat} {L : Nat → Int} (h : LR n₀ W p held L) (hB : Below n₀ W W') : LR n₀ W' p held L := by
  rcases h with h | ⟨R, G, room, first, rfl, hR, hG, h⟩
  · exact .inl h
  · refine .inr ⟨R, G, room, first, rfl, hR, hG, ⟨h.ne, h.r1, h.r2, h.fr, h.hr, (hB.cell (p := ⟨R, 0, none⟩) hR).trans h.c0, (hB.cell (p := ⟨R, 1, none⟩) hR).trans h.c1, (hB.cell (p := ⟨R, 2, none⟩) hR).trans h.c2,
      (hB.frozen (p := ⟨R, 1, none⟩) hR).trans h.f1, (hB.frozen (p := ⟨R, 2, none⟩) hR).trans h.f2,
      fun j hj => (hB.cell (p := ⟨G, at' room first j, none⟩) hG).trans (h.cs j hj), fun j hj => (hB.frozen (p := ⟨G, at' room first j, none⟩) hG).trans (h.fs j hj)⟩⟩
theorem LR.len {n₀ : Nat} {W : World} {p : Option Addr} {held : Nat} {L : Nat → Int} (h : LR n₀ W p held L) :
    Calls Try.prog 15 #[.pointer p] W fun e w' => e = .returned (.int .i64 (held : Int)) ∧ W = w' := by
  rcases h with ⟨rfl, rfl⟩ | ⟨R, G, room, first, rfl, hR, hG, h⟩
  · exact len_nil W
  · exact len_any h
theorem LR.place {n₀ : Nat} {W : World} {p : Option Addr} {held : Nat} {L : Nat → Int} (h : LR n₀ W p held L) (k : Nat) (hk : k < held) :
    ∃ a, W.cell? a = some (.int .i64 (L k)) ∧ Calls Try.prog 27 #[.pointer p, .int .i64 (k : Int)] W fun e w' => e = .returned (.pointer (some a)) ∧ ∃ n, w' = W.drewN n := by
  rcases h with ⟨rfl, rfl⟩ | ⟨R, G, room, first, rfl, hR, hG, h⟩
  · omega
  · have := h.hr
    exact ⟨_, h.cs k (by omega), place_any h k (by omega)⟩
theorem LR.le {n₀ : Nat} {W : World} {p : Option Addr} {held : Nat} {L : Nat → Int} (h : LR n₀ W p held L) : held ≤ 256 := by
  rcases h with ⟨rfl, rfl⟩ | ⟨R, G, room, first, rfl, hR, hG, h⟩
  · omega
  · have := h.hr; have := h.r2; omega

/-- What a round keeps: all below n₀, and the box of the captured ring. -/
def Kb (n₀ Bn : Nat) (A A' : World) : Prop := Below n₀ A A' ∧ ∀ v, Boxed A Bn 23 v → Boxed A' Bn 23 v
theorem kb_t {n₀ Bn : Nat} {A B C : World} (h : Kb n₀ Bn A B) (k : Kb n₀ Bn B C) : Kb n₀ Bn A C := ⟨h.1.trans k.1, fun v hv => k.2 v (h.2 v hv)⟩
theorem kb_r {n₀ Bn : Nat} (A : World) : Kb n₀ Bn A A := ⟨Below.refl _ _, fun _ h => h⟩
theorem kb_b {n₀ Bn : Nat} {w : World} (hn : n₀ ≤ w.heap.size) (W : World) (l : Nat) (o o' : Obj) (hl : w.heap.size ≤ l) (h : W.heap[l]? = some o) (hc : o.isCells = false) (hw : o.isWalk = false) : Kb n₀ Bn W (W.putObj l o') :=
  ⟨belowK_b hn W l o o' hl h hc hw, fun v hv => hv.kept (grownBy_putObj' W l o') (fun e => by
    cases e
    rw [show W.heap[Bn]? = _ from hv] at h
    cases h
    cases hc)⟩

set_option maxRecDepth 100000 in
set_option maxHeartbeats 1000000 in
theorem things1_in (n : Nat) (l Bn n₀ : Nat) (p : Option Addr) (held : Nat) (L : Nat → Int) (J Jx : List Int → World → Prop) (hJ : ∀ pre W m, J pre W → J pre (W.drewN m))
    (hY : ∀ pre x W, J pre W → pre.length < held → YieldAt Fence.wide (n - 1) Try.prog l #[.int .i64 x] W fun e W' =>
      (e = .returned (.bool true) ∧ J (pre ++ [x]) W' ∧ Kb n₀ Bn W W') ∨ (e = .returned (.bool false) ∧ Jx (pre ++ [x]) W'))
    (W : World) (hb : Boxed W Bn 23 (.pointer p)) (hL : LR n₀ W p held L) (h0 : J [] W) :
    CallsIn Fence.wide n Try.prog 35 #[.func (.yield l) #[] #[], .pointer (some ⟨Bn, 0, none⟩)] W fun e W' => (∃ v, e = .returned v) ∧
      ((∃ ys, ys = cont held L ∧ J ys W') ∨ (∃ pre, pre <+: cont held L ∧ Jx pre W')) := by
  have h256 := hL.le
  have HY := Lib.hid hY
  have HL := Lib.hid hL
  have HJ := Lib.hid hJ
  have HX := Lib.hid hb
  have hc := hb.cell
  clear hY hL hJ hb
  refine callsIn_of_wp Try.func35 rfl trivial ?_ rfl
  simp only [Try.ntmps35, List.size_toArray, List.length_cons, List.length_nil, Nat.reduceAdd, Nat.reduceSub, Array.replicate_succ, Array.replicate_zero, List.push_toArray, List.append_toArray, List.nil_append, List.cons_append]
  have hw : ∀ f, Fence.wide.fn f := fun _ => trivial
  have hd : Fence.wide.depth = none := rfl
  gi_wp2_with (gi_at_call 15; refine (callsIn_wide.2 HL.out.len).mono ?_; rintro e w' ⟨rfl, rfl⟩)
  gi_loopw [6] (fun r wr => ∃ k : Nat, k ≤ held ∧ r = .int .i64 (k : Int) ∧ J ((cont held L).take k) wr ∧ LR n₀ wr p held L ∧ Boxed wr Bn 23 (.pointer p))
    (fun r _ => held - (intOf r).toNat)
  case atStart =>
    exact ⟨0, Nat.zero_le _, rfl, h0, HL.out, HX.out⟩
  case round =>
    obtain ⟨k, hk, rfl, hJk, hLk, hck⟩ := hrel
    have HJk := Lib.hid hJk
    have HLk := Lib.hid hLk
    have HK0 := Lib.hid hck
    have hcc := hck.cell
    clear hJk hLk hc hck
    by_cases hlt : k < held
    · obtain ⟨a, hca, hpl⟩ := HLk.out.place k hlt
      have HP := Lib.hid hpl
      clear hpl
      have HT := Lib.hid (cont_take held k L hlt)
      have HPr := Lib.hid (cont_prefix held k L hlt)
      have hlen : ((cont held L).take k).length < held := by rw [List.length_take, cont_len]; omega
      have HLen := Lib.hid hlen
      clear hlen
      generalize L k = x at hca HT HPr
      gi_wp2_with (gi_at_call 27; refine (callsIn_wide.2 HP.out).mono ?_; rintro e w' ⟨rfl, nq, rfl⟩; obtain ⟨fn, tmps, assign, body, hy, hR⟩ := HY.out ((cont held L).take k) x (wr.drewN nq) (HJ.out _ _ _ HJk.out) HLen.out)
      refine hR.mono ?_
      rintro e W3 (⟨rfl, hJ3, hk3⟩ | ⟨rfl, hJx3⟩)
      · have HK := Lib.hid hk3
        clear hk3
        gi_wp2
        go_roundw
        case rel =>
          exact ⟨k + 1, by omega, by go_num, by rw [HT.out]; exact hJ3, (HLk.out.below (below_drewN (Below.refl _ _) nq)).below HK.out.1, HK.out.2 _ HK0.out⟩
        case measure => simp [intOf]; omega
      · gi_wp2
        refine bodyPost_ret (results_none rfl _ _ _) rfl ?_
        exact ⟨⟨_, rfl⟩, .inr ⟨_, HPr.out, hJx3⟩⟩
    · gi_wp2
      go_end0
      obtain rfl : k = held := by omega
      exact ⟨⟨_, rfl⟩, .inl ⟨_, rfl, by have := HJk.out; rwa [cont_full] at this⟩⟩

set_option maxHeartbeats 400000 in
theorem things_in (n : Nat) (p : Option Addr) (w : World) :
    CallsIn Fence.wide n Try.prog 28 #[.pointer p] w fun e w' => e = .returned (.func (.func 35) #[] #[.pointer (some ⟨w.heap.size, 0, none⟩)]) ∧ w' = w.alloc (.cells #[.pointer p] 23) := by
  refine callsIn_of_wp Try.func28 rfl trivial ?_ rfl
  simp only [Try.ntmps28, List.size_toArray, List.length_cons, List.length_nil, Nat.reduceAdd, Nat.reduceSub, Array.replicate_succ, Array.replicate_zero, List.push_toArray, List.append_toArray, List.nil_append, List.cons_append]
  gi_wp2
  go_ret
  exact ⟨rfl, rfl⟩

theorem things_stops (n : Nat) (Bn n₀ : Nat) (p : Option Addr) (held : Nat) (L : Nat → Int) (w : World) (hn₀ : n₀ ≤ w.heap.size)
    (hb : Boxed w Bn 23 (.pointer p)) (hL : LR n₀ w p held L) :
    SeqStopsK Fence.wide n Try.prog 35 #[.pointer (some ⟨Bn, 0, none⟩)] (fun x : Int => #[Value.int .i64 x]) (Kb n₀ Bn) (fun ys => ys = cont held L) (fun pre => pre <+: cont held L) held w := fun l J Jx W hW hJ _ hY h0 =>
  things1_in n l Bn n₀ p held L J Jx (fun pre W m h => hJ pre W _ none h (grownBy_drewN W m) (fun r e => by cases e)) hY W ((hW.block Bn hb.lt).trans hb) (hL.below (hW.mono hn₀)) h0
end Go.Proofs.Ytkjkaihbpccdmaa.rI
