/-
  An arena of int: the iterator over such slots.
-/
import Derived.RangeFuncNested
import Derived.RangeFuncBound
import Derived.RangeFuncBox
import Derived.RangeFuncCalls
import Derived.RangeFuncLeaves
import Derived.Shelf.Abstract
import Derived.Shelf.RegionOpen
import Derived.OwnWalkIn
import Derived.TacticsInMore
import Derived.LoopNIn
import Derived.LoopIn
import Derived.Maps.AppendAt
import Derived.Test.YtdompamilgbnnaaAIB
namespace Go.Proofs.Ytdompamilgbnnaa.aI
open Go.RowKit Go.Shelf

attribute [local go_sem] Oper.semAt_some

/-- An arena that is nil, or lies below n₀. -/
def LA (n₀ : Nat) (W : World) (p : Option Addr) (G : Nat) (xs : List (Sl Int)) : Prop :=
  (p = none ∧ xs = []) ∨ ∃ R, p = some ⟨R, 0, none⟩ ∧ R < n₀ ∧ G < n₀ ∧ AC W R G xs
theorem LA.below {n₀ : Nat} {W W' : World} {p : Option Addr} {G : Nat} {xs : List (Sl Int)} (h : LA n₀ W p G xs) (hB : Below n₀ W W') : LA n₀ W' p G xs := by
  rcases h with h | ⟨R, rfl, hR, hG, h⟩
  · exact .inl h
  · exact .inr ⟨R, rfl, hR, hG, h.below hB hR hG⟩
theorem LA.le {n₀ : Nat} {W : World} {p : Option Addr} {G : Nat} {xs : List (Sl Int)} (h : LA n₀ W p G xs) : xs.length ≤ 64 := by
  rcases h with ⟨rfl, rfl⟩ | ⟨R, rfl, hR, hG, h⟩
  · simp
  · exact h.n2

/-- The number of a slot that is such. -/
abbrev Such (xs : List (Sl Int)) (q : Sl Int → Bool) := { k : Nat // k < xs.length ∧ q (at0 xs k) = true }
abbrev vals {xs : List (Sl Int)} {q : Sl Int → Bool} (l : List (Such xs q)) : List Nat := l.map (·.1)

/-- What a round keeps: all below n₀, and the two boxes. -/
def Kb (n₀ B1 B2 : Nat) (A A' : World) : Prop := Below n₀ A A' ∧ (∀ v, Boxed A B1 23 v → Boxed A' B1 23 v) ∧ ∀ v, Boxed A B2 77 v → Boxed A' B2 77 v
theorem kb_t {n₀ B1 B2 : Nat} {A B C : World} (h : Kb n₀ B1 B2 A B) (k : Kb n₀ B1 B2 B C) : Kb n₀ B1 B2 A C := ⟨h.1.trans k.1, fun v hv => k.2.1 v (h.2.1 v hv), fun v hv => k.2.2 v (h.2.2 v hv)⟩
theorem kb_r {n₀ B1 B2 : Nat} (A : World) : Kb n₀ B1 B2 A A := ⟨Below.refl _ _, fun _ h => h, fun _ h => h⟩
theorem kb_b {n₀ B1 B2 : Nat} {w : World} (hn : n₀ ≤ w.heap.size) (W : World) (l : Nat) (o o' : Obj) (hl : w.heap.size ≤ l) (h : W.heap[l]? = some o) (hc : o.isCells = false) (hw : o.isWalk = false) : Kb n₀ B1 B2 W (W.putObj l o') :=
  ⟨belowK_b hn W l o o' hl h hc hw, fun v hv => hv.kept (grownBy_putObj' W l o') (fun e => by
    cases e
    rw [show W.heap[B1]? = _ from hv] at h
    cases h
    cases hc), fun v hv => hv.kept (grownBy_putObj' W l o') (fun e => by
    cases e
    rw [show W.heap[B2]? = _ from hv] at h
    cases h
    cases hc)⟩

set_option maxRecDepth 100000 in
set_option maxHeartbeats 2000000 in
theorem those1_in (n : Nat) (F : Nat) (q : Sl Int → Bool) (hFe : ∀ args w, (callFunc F args).run Try.prog w = .ok (.enter F args) w) (hF : ∀ W G k s, SC W G k s → Calls Try.prog F #[.pointer (some ⟨G, k * 4, none⟩)] W fun e w' => e = .returned (.bool (q s)) ∧ W = w')
    (l B1 B2 n₀ : Nat) (p : Option Addr) (G : Nat) (xs : List (Sl Int)) (J Jx : List (Such xs q) → World → Prop) (hJ : ∀ pre W m, J pre W → J pre (W.drewN m))
    (hY : ∀ pre (x : Such xs q) W, J pre W → pre.length < xs.length → YieldAt Fence.wide (n - 1) Try.prog l #[.pointer (some ⟨G, x.1 * 4, none⟩)] W fun e W' =>
      (e = .returned (.bool true) ∧ J (pre ++ [x]) W' ∧ Kb n₀ B1 B2 W W') ∨ (e = .returned (.bool false) ∧ Jx (pre ++ [x]) W'))
    (W : World) (hb : Boxed W B1 23 (.pointer p)) (hb2 : Boxed W B2 77 (.func (.func F) #[] #[])) (hL : LA n₀ W p G xs) (h0 : J [] W) :
    CallsIn Fence.wide n Try.prog 38 #[.func (.yield l) #[] #[], .pointer (some ⟨B1, 0, none⟩), .pointer (some ⟨B2, 0, none⟩)] W fun e W' => (∃ v, e = .returned v) ∧
      ((∃ ys, vals ys = sel xs q ∧ J ys W') ∨ (∃ pre, vals pre <+: sel xs q ∧ Jx pre W')) := by
  have h64 := hL.le
  have HY := Lib.hid hY
  have HL := Lib.hid hL
  have HJ := Lib.hid hJ
  have HX := Lib.hid hb
  have HX2 := Lib.hid hb2
  have HF := Lib.hid hF
  have hc := hb.cell
  clear hY hL hJ hb hb2 hF
  have hw : ∀ f, Fence.wide.fn f := fun _ => trivial
  have hd : Fence.wide.depth = none := rfl
  rcases HL.out with ⟨rfl, rfl⟩ | ⟨R, rfl, hR, hG, hA⟩
  · refine callsIn_of_wp Try.func38 rfl trivial ?_ rfl
    simp only [Try.ntmps38, List.size_toArray, List.length_cons, List.length_nil, Nat.reduceAdd, Nat.reduceSub, Array.replicate_succ, Array.replicate_zero, List.push_toArray, List.append_toArray, List.nil_append, List.cons_append]
    gi_wp2
    refine bodyPost_ret (results_none rfl _ _ _) rfl ?_
    exact ⟨⟨_, rfl⟩, .inl ⟨[], rfl, h0⟩⟩
  have hc0 := hA.c
  have HR := Lib.hid hR
  have HG := Lib.hid hG
  have HA := Lib.hid hA
  clear hR hG hA HL
  refine callsIn_of_wp Try.func38 rfl trivial ?_ rfl
  simp only [Try.ntmps38, List.size_toArray, List.length_cons, List.length_nil, Nat.reduceAdd, Nat.reduceSub, Array.replicate_succ, Array.replicate_zero, List.push_toArray, List.append_toArray, List.nil_append, List.cons_append]
  gi_wp2
  gi_loopw [13] (fun r wr => ∃ (k : Nat) (ys : List (Such xs q)), k ≤ xs.length ∧ r = .int .i64 (k : Int) ∧ vals ys = selTo xs q k ∧ J ys wr ∧ AC wr R G xs ∧ Boxed wr B1 23 (.pointer (some ⟨R, 0, none⟩)) ∧ Boxed wr B2 77 (.func (.func F) #[] #[]))
    (fun r _ => xs.length - (intOf r).toNat)
  case atStart =>
    exact ⟨0, [], Nat.zero_le _, rfl, rfl, h0, HA.out, HX.out, HX2.out⟩
  case round =>
    obtain ⟨k, ys, hk, rfl, hys, hJk, hAk, hb1, hb2⟩ := hrel
    have HJk := Lib.hid hJk
    have HAk := Lib.hid hAk
    have HB1 := Lib.hid hb1
    have HB2 := Lib.hid hb2
    have HYs := Lib.hid hys
    have hcc := hb1.cell
    have hcc2 := hb2.cell
    have hca := hAk.c
    clear hJk hAk hc hc0 hb1 hb2 hys
    by_cases hlt : k < xs.length
    · have HSl := Lib.hid (HAk.out.sl k hlt)
      have hlen : ys.length < xs.length := by
        have := congrArg List.length HYs.out
        have h2 := selTo_len xs q k
        simp only [List.length_map] at this
        omega
      have HLen := Lib.hid hlen
      clear hlen
      have HLt := Lib.hid hlt
      cases hq : q (at0 xs k) with
      | false =>
        have HT := Lib.hid (selTo_no xs q k hq)
        have HC := Lib.hid (show Calls Try.prog F #[.pointer (some ⟨G, k * 4, none⟩)] wr fun e w' => e = .returned (.bool false) ∧ wr = w' from by rw [← hq]; exact HF.out wr G k _ HSl.out)
        gi_wp2_with (with_reducible refine (callsIn_wide.2 HC.out).mono ?_; rintro e w' ⟨rfl, rfl⟩)
        go_roundw
        case rel => exact ⟨k + 1, ys, by omega, by go_num, by rw [HT.out]; exact HYs.out, HJk.out, HAk.out, HB1.out, HB2.out⟩
        case measure => simp [intOf]; omega
      | true =>
        have HT := Lib.hid (selTo_yes xs q k hq)
        have HC := Lib.hid (show Calls Try.prog F #[.pointer (some ⟨G, k * 4, none⟩)] wr fun e w' => e = .returned (.bool true) ∧ wr = w' from by rw [← hq]; exact HF.out wr G k _ HSl.out)
        have hYx := HY.out ys ⟨k, hlt, hq⟩ wr HJk.out HLen.out
        have HYx := Lib.hid hYx
        clear hYx
        gi_wp2_with fail
        refine (callsIn_wide.2 HC.out).mono ?_
        rintro e w' ⟨rfl, rfl⟩
        obtain ⟨fn, tmps, assign, body, hy, hR⟩ := HYx.out
        gi_wp2_with fail
        refine hR.mono ?_
        rintro e W3 (⟨rfl, hJ3, hk3⟩ | ⟨rfl, hJx3⟩)
        · have HK := Lib.hid hk3
          clear hk3
          gi_wp2
          go_roundw
          case rel =>
            exact ⟨k + 1, ys ++ [⟨k, hlt, hq⟩], by omega, by go_num, by rw [HT.out, ← HYs.out]; simp [vals], hJ3, HAk.out.below HK.out.1 HR.out HG.out, HK.out.2.1 _ HB1.out, HK.out.2.2 _ HB2.out⟩
          case measure => simp [intOf]; omega
        · gi_wp2
          refine bodyPost_ret (results_none rfl _ _ _) rfl ?_
          refine ⟨⟨_, rfl⟩, .inr ⟨ys ++ [⟨k, hlt, hq⟩], ?_, hJx3⟩⟩
          have := selTo_prefix xs q (k + 1) xs.length (by omega)
          rw [HT.out, ← HYs.out] at this
          unfold sel
          simpa [vals] using this
    · gi_wp2
      go_end0
      obtain rfl : k = xs.length := by omega
      exact ⟨⟨_, rfl⟩, .inl ⟨ys, HYs.out, HJk.out⟩⟩

set_option maxHeartbeats 400000 in
theorem those_in (n : Nat) (p : Option Addr) (F : Nat) (w : World) :
    CallsIn Fence.wide n Try.prog 27 #[.pointer p, .func (.func F) #[] #[]] w fun e w' => e = .returned (.func (.func 38) #[] #[.pointer (some ⟨w.heap.size, 0, none⟩), .pointer (some ⟨w.heap.size + 1, 0, none⟩)]) ∧
      w' = (w.alloc (.cells #[.pointer p] 23)).alloc (.cells #[.func (.func F) #[] #[]] 77) := by
  refine callsIn_of_wp Try.func27 rfl trivial ?_ rfl
  simp only [Try.ntmps27, List.size_toArray, List.length_cons, List.length_nil, Nat.reduceAdd, Nat.reduceSub, Array.replicate_succ, Array.replicate_zero, List.push_toArray, List.append_toArray, List.nil_append, List.cons_append]
  gi_wp2
  go_ret
  exact ⟨rfl, rfl⟩

/-- What asks a slot: a function without variables of its own. -/
structure Asks (F : Nat) (q : Sl Int → Bool) : Prop where
  enter : ∀ args w, (callFunc F args).run Try.prog w = .ok (.enter F args) w
  calls : ∀ W G k s, SC W G k s → Calls Try.prog F #[.pointer (some ⟨G, k * 4, none⟩)] W fun e w' => e = .returned (.bool (q s)) ∧ W = w'
theorem asks_free : Asks 28 isFree := ⟨enters_of Try.func28 (by kernel_rfl) rfl, fun _ _ _ _ h => free_any h⟩
theorem asks_holds : Asks 31 isHeld := ⟨enters_of Try.func31 (by kernel_rfl) rfl, fun _ _ _ _ h => holds_any h⟩

theorem those_stops (n : Nat) {F : Nat} {q : Sl Int → Bool} (hq : Asks F q) (B1 B2 n₀ : Nat) (p : Option Addr) (G : Nat) (xs : List (Sl Int)) (w : World) (hn₀ : n₀ ≤ w.heap.size)
    (hb : Boxed w B1 23 (.pointer p)) (hb2 : Boxed w B2 77 (.func (.func F) #[] #[])) (hL : LA n₀ w p G xs) :
    SeqStopsK Fence.wide n Try.prog 38 #[.pointer (some ⟨B1, 0, none⟩), .pointer (some ⟨B2, 0, none⟩)] (fun x : Such xs q => #[Value.pointer (some ⟨G, x.1 * 4, none⟩)]) (Kb n₀ B1 B2)
      (fun ys => vals ys = sel xs q) (fun pre => vals pre <+: sel xs q) xs.length w := fun l J Jx W hW hJ _ hY h0 =>
  those1_in n F q hq.enter hq.calls l B1 B2 n₀ p G xs J Jx (fun pre W m h => hJ pre W _ none h (grownBy_drewN W m) (fun r e => by cases e)) hY W ((hW.block B1 hb.lt).trans hb) ((hW.block B2 hb2.lt).trans hb2) (hL.below (hW.mono hn₀)) h0
end Go.Proofs.Ytdompamilgbnnaa.aI
