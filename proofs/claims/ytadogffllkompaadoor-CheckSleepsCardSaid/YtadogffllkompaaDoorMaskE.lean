/-
  Contracts: the iterator over a mask's numbers.
-/
import Derived.RangeFuncNested
import Derived.RangeFuncBound
import Derived.RangeFuncCalls
import Derived.RangeFuncLeaves
import Derived.Shelf.Abstract
import Derived.Shelf.RegionOpen
import Derived.OwnWalkIn
import Derived.TacticsInMore
import Derived.LoopNIn
import Derived.LoopIn
import Derived.Test.YtadogffllkompaaDoorMaskD
import Derived.Test.YtadogffllkompaaDoorMaskO
namespace Go.Proofs.YtadogffllkompaaDoor.Mk
open Go.RowKit Go.Shelf

attribute [local go_sem] Oper.semAt_some

theorem Tab.below {w w' : World} {B : Nat} (h : Tab w) (hB : Below B w w') (h0 : 1 < B) : Tab w' :=
  fun j hj => (hB.cell (p := ⟨1, j, none⟩) h0).trans (h j hj)

set_option maxRecDepth 100000 in
set_option maxHeartbeats 1000000 in
theorem numbers1_in (n : Nat) (l Bn n₀ : Nat) (h0n : 1 < n₀) (m : Nat) (hm : m < 18446744073709551616) (J Jx : List Nat → World → Prop)
    (hY : ∀ pre x W, J pre W → pre.length < (Pl.ones m).length → YieldAt Fence.wide (n - 1) Tryd.prog l #[.int .i64 ((x : Nat) : Int)] W fun e W' =>
      (e = .returned (.bool true) ∧ J (pre ++ [x]) W' ∧ Below n₀ W W') ∨ (e = .returned (.bool false) ∧ Jx (pre ++ [x]) W'))
    (W : World) (hBn : W.cell? ⟨Bn, 0, none⟩ = some (.int .u64 (m : Int))) (hT : Tab W) (h0 : J [] W) :
    CallsIn Fence.wide n Tryd.prog 55 #[.func (.yield l) #[] #[], .pointer (some ⟨Bn, 0, none⟩)] W fun e W' => (∃ v, e = .returned v) ∧
      ((∃ ys, ys = Pl.ones m ∧ J ys W') ∨ (∃ pre, pre <+: Pl.ones m ∧ Jx pre W')) := by
  have HM := Lib.hid hm
  have HY := Lib.hid hY
  have HT := Lib.hid hT
  clear hm hY hT
  refine callsIn_of_wp Tryd.func55 rfl trivial ?_ rfl
  simp only [Tryd.ntmps55, List.size_toArray, List.length_cons, List.length_nil, Nat.reduceAdd, Nat.reduceSub, Array.replicate_succ, Array.replicate_zero, List.push_toArray, List.append_toArray, List.nil_append, List.cons_append]
  gi_wp2
  gi_loopw [3] (fun r wr => ∃ (pre : List Nat) (x : Nat), r = .int .u64 (x : Int) ∧ x < 18446744073709551616 ∧ Pl.ones m = pre ++ Pl.ones x ∧ J pre wr ∧ Tab wr)
    (fun r _ => (intOf r).toNat)
  case atStart =>
    exact ⟨[], m, rfl, HM.out, rfl, h0, HT.out⟩
  case round =>
    obtain ⟨pre, x, rfl, hx, hp, hJ, hTr⟩ := hrel
    have HX := Lib.hid hx
    have HP := Lib.hid hp
    have HTr := Lib.hid hTr
    clear hx hp hTr
    by_cases hx0 : x = 0
    · subst hx0
      gi_wp2
      go_end0
      exact ⟨⟨_, rfl⟩, .inl ⟨pre, by rw [HP.out, Pl.ones_zero]; simp, hJ⟩⟩
    · have hn1 := Pl.ones_next x hx0 HX.out
      have hlen : pre.length < (Pl.ones m).length := by rw [HP.out, hn1]; simp
      obtain ⟨fn, tmps, assign, body, hy, hR⟩ := HY.out pre (Lib.ctz 64 x) wr hJ hlen
      have HN := Lib.hid hn1
      have hb : ((x : Int) != 0) = true := by simp; omega
      have HX0 := Lib.hid hx0
      clear hn1 hlen hx0
      have hw : ∀ f, Fence.wide.fn f := fun _ => trivial
      have hd : Fence.wide.depth = none := rfl
      gi_wp2_with (gi_at_call 56; refine (callsIn_wide.2 (tz_any x HX.out HX0.out _ HTr.out)).mono ?_; rintro e w' ⟨rfl, rfl⟩)
      refine hR.mono ?_
      rintro e W3 (⟨rfl, hJ3, hk3⟩ | ⟨rfl, hJx3⟩)
      · have hwx : IntKind.u64.wrap ((x : Int) - 1) = (x : Int) - 1 := by have := HX.out; have := HX0.out; exact wu' _ (by omega)
        have ha : bits BinOp.and IntKind.u64 (x : Int) ((x : Int) - 1) = ((x &&& (x - 1) : Nat) : Int) := by
          have h1 := HX.out
          have h2 := HX0.out
          rw [show (x : Int) - 1 = ((x - 1 : Nat) : Int) by omega, u64_and_nat _ _ h1 (by omega)]
        have HK := Lib.hid hk3
        clear hk3
        gi_wp2
        go_roundw
        case rel =>
          have hlt := Pl.and_pred_lt x HX0.out
          exact ⟨pre ++ [Lib.ctz 64 x], x &&& (x - 1), rfl, Nat.lt_trans hlt HX.out, by rw [HP.out, HN.out]; simp, hJ3, HTr.out.below HK.out h0n⟩
        case measure =>
          have hlt := Pl.and_pred_lt x HX0.out
          simp only [intOf]
          omega
      · gi_wp2
        refine bodyPost_ret (results_none rfl _ _ _) rfl ?_
        exact ⟨⟨_, rfl⟩, .inr ⟨pre ++ [Lib.ctz 64 x], ⟨Pl.ones (x &&& (x - 1)), by rw [HP.out, HN.out]; simp⟩, hJx3⟩⟩

set_option maxHeartbeats 400000 in
theorem numbers_in (n : Nat) (m : Nat) (w : World) :
    CallsIn Fence.wide n Tryd.prog 53 #[.int .u64 (m : Int)] w fun e w' => e = .returned (.func (.func 55) #[] #[.pointer (some ⟨w.heap.size, 0, none⟩)]) ∧ w' = w.alloc (.cells #[.int .u64 (m : Int)] 37) := by
  refine callsIn_of_wp Tryd.func53 rfl trivial ?_ rfl
  simp only [Tryd.ntmps53, List.size_toArray, List.length_cons, List.length_nil, Nat.reduceAdd, Nat.reduceSub, Array.replicate_succ, Array.replicate_zero, List.push_toArray, List.append_toArray, List.nil_append, List.cons_append]
  gi_wp2
  go_ret
  exact ⟨rfl, rfl⟩

theorem numbers_stops (n : Nat) (Bn n₀ : Nat) (h0n : 1 < n₀) (m : Nat) (hm : m < 18446744073709551616) (w : World) (hBn : Bn < w.heap.size)
    (hc : w.cell? ⟨Bn, 0, none⟩ = some (.int .u64 (m : Int))) (hT : Tab w) :
    SeqStopsK Fence.wide n Tryd.prog 55 #[.pointer (some ⟨Bn, 0, none⟩)] (fun x : Nat => #[Value.int .i64 (x : Int)]) (Below n₀) (fun ys => ys = Pl.ones m) (fun pre => pre <+: Pl.ones m) (Pl.ones m).length w := fun l J Jx W hW _ _ hY h0 =>
  numbers1_in n l Bn n₀ h0n m hm J Jx hY W ((hW.cell (p := ⟨Bn, 0, none⟩) hBn).trans hc) (hT.below hW (by have h := hT 0 (by decide); apply Nat.lt_of_not_le; intro hle; simp [World.cell?, Array.getElem?_eq_none hle] at h)) h0
end Go.Proofs.YtadogffllkompaaDoor.Mk
