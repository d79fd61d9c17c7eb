/-
  Sections: the iterator over the readers that are such; In, Open as masks.
-/
import Derived.RangeFuncNested
import Derived.RangeFuncBound
import Derived.RangeFuncBox
import Derived.RangeFuncCalls
import Derived.RangeFuncLeaves
import Derived.Shelf.Abstract
import Derived.Shelf.RegionOpen
import Derived.OwnWalkIn
import Derived.TacticsInMore
import Derived.LoopNIn
import Derived.LoopIn
import Derived.Test.YtlmepjpkaionbaaDoorSeC
import Derived.Test.YtlmepjpkaionbaaDoorSeL
namespace Go.Proofs.YtlmepjpkaionbaaDoor
open Go.RowKit Go.Shelf

attribute [local go_sem] Oper.semAt_some

theorem in1_any {w : World} {b B : Nat} {x : SS} (h : Sec w b x) (hB : w.cell? ⟨B, 0, none⟩ = some (.pointer (some ⟨b, 0, none⟩))) {i : Nat} (hi : i < 64) :
    Calls Tryd.prog 42 #[.int .i64 (i : Int), .pointer (some ⟨B, 0, none⟩)] w fun e w' => e = .returned (.bool (inP x i)) ∧ Ch [] w w' := by
  have c := h.d i hi
  have hi' : (i : Int) < 64 := by omega
  unfold inP
  clear h
  go_enter Tryd.func42, Tryd.ntmps42
  go_wp2
  go_ret
  exact ⟨rfl, Ch.refl _ _⟩
theorem open1_any {w : World} {b B T : Nat} {x : SS} {t : Int} (h : Sec w b x) (hB : w.cell? ⟨B, 0, none⟩ = some (.pointer (some ⟨b, 0, none⟩))) (hT : w.cell? ⟨T, 0, none⟩ = some (.int .i64 t)) {i : Nat} (hi : i < 64) :
    Calls Tryd.prog 38 #[.int .i64 (i : Int), .pointer (some ⟨B, 0, none⟩), .pointer (some ⟨T, 0, none⟩)] w fun e w' => e = .returned (.bool (openP x t i)) ∧ Ch [] w w' := by
  have c := h.d i hi
  have d := h.s i hi
  have hi' : (i : Int) < 64 := by omega
  unfold openP
  clear h
  by_cases hd : 0 < x.d i
  · have hgt : decide (x.d i > 0) = true := decide_eq_true hd
    rw [decide_eq_true hd, Bool.true_and]
    clear hd
    generalize x.d i = u at *
    generalize x.s i = v at *
    go_enter Tryd.func38, Tryd.ntmps38
    go_wp2_with fail
    go_quiet (fail)
    go_wp2
    go_ret
    exact ⟨rfl, (Ch.refl _ _).drewN _⟩
  · have hgt : decide (x.d i > 0) = false := decide_eq_false hd
    rw [decide_eq_false hd, Bool.false_and]
    clear hd
    generalize x.d i = u at *
    generalize x.s i = v at *
    go_enter Tryd.func38, Tryd.ntmps38
    go_wp2_with fail
    go_quiet (fail)
    go_wp2
    go_ret
    exact ⟨rfl, (Ch.refl _ _).drewN _⟩

/-- The readers that are such. -/
def selC (n : Nat) (q : Nat → Bool) : List Nat := (List.range n).filter q
theorem selC_yes {n : Nat} {q : Nat → Bool} (h : q n = true) : selC (n + 1) q = selC n q ++ [n] := by simp [selC, List.range_succ, h]
theorem selC_no {n : Nat} {q : Nat → Bool} (h : q n = false) : selC (n + 1) q = selC n q := by simp [selC, List.range_succ, h]
theorem selC_prefix (q : Nat → Bool) {k n : Nat} (h : k ≤ n) : selC k q <+: selC n q := by
  obtain ⟨d, rfl⟩ : ∃ d, n = k + d := ⟨n - k, by omega⟩
  rw [selC, selC, List.range_add, List.filter_append]
  exact ⟨_, rfl⟩
abbrev SuchC (q : Nat → Bool) := { k : Nat // k < 64 ∧ q k = true }
abbrev valsC {q : Nat → Bool} (l : List (SuchC q)) : List Nat := l.map (·.1)

/-- What the iterator needs of a world: its two boxes, and that the function tells which are such. -/
structure GoodB (Good : World → Prop) (p : Option Addr) (B1 B2 F : Nat) (lb : Array Value) (q : Nat → Bool) : Prop where
  enter : ∀ args w, (callFunc F args).run Tryd.prog w = .ok (.enter F args) w
  b1 : ∀ W, Good W → W.cell? ⟨B1, 0, none⟩ = some (.pointer p)
  b2 : ∀ W, Good W → W.cell? ⟨B2, 0, none⟩ = some (.func (.func F) #[] lb)
  nil : p = none → selC 64 q = []
  asks : ∀ a, p = some a → ∀ W, Good W → ∀ i, i < 64 → Calls Tryd.prog F (#[.int .i64 ((i : Nat) : Int)] ++ lb) W fun e w' => e = .returned (.bool (q i)) ∧ Ch [] W w'
  quiet : ∀ W W', Good W → Ch [] W W' → Good W'

set_option maxRecDepth 100000 in
set_option maxHeartbeats 2000000 in
theorem those1_in (m : Nat) {Good : World → Prop} {p : Option Addr} {B1 B2 F : Nat} {lb : Array Value} {q : Nat → Bool} (hG : GoodB Good p B1 B2 F lb q)
    (l : Nat) (J Jx : List (SuchC q) → World → Prop) (hJ : ∀ pre W W', J pre W → Ch [] W W' → J pre W')
    (hY : ∀ pre (x : SuchC q) W, J pre W → valsC (pre ++ [x]) <+: selC 64 q → YieldAt Fence.wide (m - 1) Tryd.prog l #[.int .i64 ((x.1 : Nat) : Int)] W fun e W' =>
      (e = .returned (.bool true) ∧ J (pre ++ [x]) W' ∧ (Good W → Good W')) ∨ (e = .returned (.bool false) ∧ Jx (pre ++ [x]) W'))
    (W : World) (hW : Good W) (h0 : J [] W) :
    CallsIn Fence.wide m Tryd.prog 53 #[.func (.yield l) #[] #[], .pointer (some ⟨B1, 0, none⟩), .pointer (some ⟨B2, 0, none⟩)] W fun e W' => (∃ v, e = .returned v) ∧
      ((∃ ys, valsC ys = selC 64 q ∧ J ys W') ∨ (∃ pre, valsC pre <+: selC 64 q ∧ Jx pre W')) := by
  have HY := Lib.hid hY
  have HJ := Lib.hid hJ
  have HG := Lib.hid hG
  have hFe := hG.enter
  have c1 := hG.b1 W hW
  have HGW := Lib.hid hW
  have HJ0 := Lib.hid h0
  clear hY hJ hG hW h0
  have hw : ∀ f, Fence.wide.fn f := fun _ => trivial
  have hd : Fence.wide.depth = none := rfl
  refine callsIn_of_wp Tryd.func53 rfl trivial ?_ rfl
  simp only [Tryd.ntmps53, List.size_toArray, List.length_cons, List.length_nil, Nat.reduceAdd, Nat.reduceSub, Array.replicate_succ, Array.replicate_zero, List.push_toArray, List.append_toArray, List.nil_append, List.cons_append]
  cases hp : p with
  | none =>
    rw [hp] at c1
    have HN := Lib.hid (HG.out.nil hp)
    clear hp
    gi_wp2
    refine bodyPost_ret (results_none rfl _ _ _) rfl ?_
    exact ⟨⟨_, rfl⟩, .inl ⟨[], HN.out.symm, HJ0.out⟩⟩
  | some pa =>
    rw [hp] at c1
    have HAs := Lib.hid (HG.out.asks pa hp)
    clear hp
    gi_wp2
    gi_loopw [7] (fun r wr => ∃ (k : Nat) (ys : List (SuchC q)), k ≤ 64 ∧ r = .int .i64 (k : Int) ∧ valsC ys = selC k q ∧ J ys wr ∧ Good wr)
      (fun r _ => 64 - (intOf r).toNat)
    case atStart =>
      exact ⟨0, [], Nat.zero_le _, rfl, rfl, HJ0.out, HGW.out⟩
    case round =>
      obtain ⟨k, ys, hk, rfl, hys, hJk, hGk⟩ := hrel
      have HJk := Lib.hid hJk
      have HGk := Lib.hid hGk
      have HYs := Lib.hid hys
      clear hJk hGk hys c1
      by_cases hlt : k < 64
      · have hlt' : (k : Int) < 64 := by omega
        have d2 := HG.out.b2 wr HGk.out
        have HLt := Lib.hid hlt
        have HA := Lib.hid (HAs.out wr HGk.out k hlt)
        cases hq : q k with
        | false =>
          have HT := Lib.hid (selC_no hq)
          rw [hq] at HA
          gi_wp2_with (with_reducible refine (callsIn_wide.2 HA.out).mono ?_; rintro e w' ⟨rfl, hc'⟩)
          go_roundw
          case rel => exact ⟨k + 1, ys, by omega, by go_num, by rw [HT.out]; exact HYs.out, HJ.out _ _ _ HJk.out hc', HG.out.quiet _ _ HGk.out hc'⟩
          case measure => simp [intOf]; omega
        | true =>
          have HT := Lib.hid (selC_yes hq)
          rw [hq] at HA
          gi_wp2_with fail
          refine (callsIn_wide.2 HA.out).mono ?_
          rintro e w' ⟨rfl, hc'⟩
          have HPx := Lib.hid (show valsC (ys ++ [⟨k, hlt, hq⟩]) <+: selC 64 q from by
            have := selC_prefix q (k := k + 1) (n := 64) (by omega)
            rw [HT.out, ← HYs.out] at this
            simpa [valsC] using this)
          have HYx := Lib.hid (HY.out ys ⟨k, hlt, hq⟩ w' (HJ.out _ _ _ HJk.out hc') HPx.out)
          have HGw := Lib.hid (HG.out.quiet _ _ HGk.out hc')
          clear hc'
          obtain ⟨fn, tmps, assign, body, hy, hR⟩ := HYx.out
          gi_wp2_with fail
          refine hR.mono ?_
          rintro e W3 (⟨rfl, hJ3, hk3⟩ | ⟨rfl, hJx3⟩)
          · have HK := Lib.hid (hk3 HGw.out)
            clear hk3
            gi_wp2
            go_roundw
            case rel =>
              exact ⟨k + 1, ys ++ [⟨k, hlt, hq⟩], by omega, by go_num, by rw [HT.out, ← HYs.out]; simp [valsC], hJ3, HK.out⟩
            case measure => simp [intOf]; omega
          · gi_wp2
            refine bodyPost_ret (results_none rfl _ _ _) rfl ?_
            exact ⟨⟨_, rfl⟩, .inr ⟨ys ++ [⟨k, hlt, hq⟩], HPx.out, hJx3⟩⟩
      · gi_wp2
        go_end0
        obtain rfl : k = 64 := by omega
        exact ⟨⟨_, rfl⟩, .inl ⟨ys, HYs.out, HJk.out⟩⟩

theorem those_stops (m : Nat) {Good : World → Prop} {p : Option Addr} {B1 B2 F : Nat} {lb : Array Value} {q : Nat → Bool} (hG : GoodB Good p B1 B2 F lb q) (w : World) (hGw : ∀ W, Below w.heap.size w W → Good W) :
    SeqP Fence.wide m Tryd.prog 53 #[.pointer (some ⟨B1, 0, none⟩), .pointer (some ⟨B2, 0, none⟩)] (fun x : SuchC q => #[.int .i64 ((x.1 : Nat) : Int)]) (Ch []) (fun A B => Good A → Good B)
      (fun ys => valsC ys = selC 64 q) (fun pre => valsC pre <+: selC 64 q) w := fun l J Jx W hW hJ hY h0 =>
  those1_in m hG l J Jx hJ hY W (hGw W hW) h0
theorem those_in (n : Nat) (p : Option Addr) (F : Nat) (lb : Array Value) (w : World) :
    CallsIn Fence.wide n Tryd.prog 47 #[.pointer p, .func (.func F) #[] lb] w fun e w' => e = .returned (.func (.func 53) #[] #[.pointer (some ⟨w.heap.size, 0, none⟩), .pointer (some ⟨w.heap.size + 1, 0, none⟩)]) ∧
      w' = (w.alloc (.cells #[.pointer p] 29)).alloc (.cells #[.func (.func F) #[] lb] 61) := by
  refine callsIn_of_wp Tryd.func47 rfl trivial ?_ rfl
  simp only [Tryd.ntmps47, List.size_toArray, List.length_cons, List.length_nil, Nat.reduceAdd, Nat.reduceSub, Array.replicate_succ, Array.replicate_zero, List.push_toArray, List.append_toArray, List.nil_append, List.cons_append]
  gi_wp2
  go_ret
  exact ⟨rfl, rfl⟩
end Go.Proofs.YtlmepjpkaionbaaDoor
