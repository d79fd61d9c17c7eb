/-
  The bank's small functions: CPUs, at, those; the iterator over the wheels that are such.
-/
import Derived.RangeFuncNested
import Derived.RangeFuncBound
import Derived.RangeFuncBox
import Derived.RangeFuncCalls
import Derived.RangeFuncLeaves
import Derived.Shelf.Abstract
import Derived.Shelf.RegionOpen
import Derived.OwnWalkIn
import Derived.TacticsInMore
import Derived.LoopNIn
import Derived.LoopIn
import Derived.Test.YtnndofeomakpiaaGreatDoorBkL
namespace Go.Proofs.YtnndofeomakpiaaGreatDoor
open Go.RowKit Go.Shelf

attribute [local go_sem] Oper.semAt_some

section
variable {w : World} {base K G cap n : Nat} {f : Nat → Wh}
theorem cpus_any (h : BK w base K G cap n f) :
    Calls Tryz.prog 5 #[.pointer (some ⟨K, 0, none⟩)] w fun e w' => e = .returned (.int .i64 (n : Int)) ∧ w' = w := by
  have c := h.c
  clear h
  go_enter Tryz.func5, Tryz.ntmps5
  go_wp2
  go_ret
  exact ⟨rfl, rfl⟩
theorem cpus_nil (w : World) :
    Calls Tryz.prog 5 #[.pointer none] w fun e w' => e = .returned (.int .i64 0) ∧ w' = w := by
  go_enter Tryz.func5, Tryz.ntmps5
  go_wp2
  go_ret
  exact ⟨rfl, rfl⟩
theorem at_in (h : BK w base K G cap n f) {c : Nat} (hc : c < n) :
    Calls Tryz.prog 27 #[.pointer (some ⟨K, 0, none⟩), .int .i64 (c : Int)] w fun e w' => e = .returned (.pointer (some ⟨(f c).B, 0, none⟩)) ∧ w' = w := by
  have c0 := h.c
  have c1 := h.row c hc
  have HC := Lib.hid (cpus_any h)
  have hn : (c : Int) < (n : Int) := by omega
  have hge : decide ((c : Int) ≥ (n : Int)) = false := decide_eq_false (by omega)
  have hlt : decide ((c : Int) < 0) = false := decide_eq_false (by omega)
  clear h hc
  go_enter Tryz.func27, Tryz.ntmps27
  go_wp2_with (with_reducible refine HC.out.mono ?_; rintro e w' ⟨rfl, rfl⟩)
  go_ret
  exact ⟨rfl, rfl⟩
theorem at_out (h : BK w base K G cap n f) {i : Int} (hi : i < 0 ∨ (n : Int) ≤ i) :
    Calls Tryz.prog 27 #[.pointer (some ⟨K, 0, none⟩), .int .i64 i] w fun e w' => e = .returned (.pointer none) ∧ w' = w := by
  have HC := Lib.hid (cpus_any h)
  clear h
  rcases Int.lt_or_le i 0 with h0 | h0
  · clear hi
    go_enter Tryz.func27, Tryz.ntmps27
    go_wp2_with (with_reducible refine HC.out.mono ?_; rintro e w' ⟨rfl, rfl⟩)
    go_ret
    exact ⟨rfl, rfl⟩
  · have h1 : (n : Int) ≤ i := by omega
    have hge : decide (i ≥ (n : Int)) = true := decide_eq_true (by omega)
    have hlt : decide (i < 0) = false := decide_eq_false (by omega)
    clear hi h0
    go_enter Tryz.func27, Tryz.ntmps27
    go_wp2_with (with_reducible refine HC.out.mono ?_; rintro e w' ⟨rfl, rfl⟩)
    go_ret
    exact ⟨rfl, rfl⟩
theorem at_nil (i : Int) (w : World) :
    Calls Tryz.prog 27 #[.pointer none, .int .i64 i] w fun e w' => e = .returned (.pointer none) ∧ w' = w := by
  rcases Int.lt_or_le i 0 with h0 | h0
  · go_enter Tryz.func27, Tryz.ntmps27
    go_wp2_with (with_reducible refine (cpus_nil _).mono ?_; rintro e w' ⟨rfl, rfl⟩)
    go_ret
    exact ⟨rfl, rfl⟩
  · have hge : decide (i ≥ 0) = true := decide_eq_true (by omega)
    have hlt : decide (i < 0) = false := decide_eq_false (by omega)
    go_enter Tryz.func27, Tryz.ntmps27
    go_wp2_with (with_reducible refine (cpus_nil _).mono ?_; rintro e w' ⟨rfl, rfl⟩)
    go_ret
    exact ⟨rfl, rfl⟩
end
theorem those_in (n : Nat) (p : Option Addr) (F : Nat) (lb : Array Value) (w : World) :
    CallsIn Fence.wide n Tryz.prog 35 #[.pointer p, .func (.func F) #[] lb] w fun e w' => e = .returned (.func (.func 56) #[] #[.pointer (some ⟨w.heap.size, 0, none⟩), .pointer (some ⟨w.heap.size + 1, 0, none⟩)]) ∧
      w' = (w.alloc (.cells #[.pointer p] 25)).alloc (.cells #[.func (.func F) #[] lb] 89) := by
  refine callsIn_of_wp Tryz.func35 rfl trivial ?_ rfl
  simp only [Tryz.ntmps35, List.size_toArray, List.length_cons, List.length_nil, Nat.reduceAdd, Nat.reduceSub, Array.replicate_succ, Array.replicate_zero, List.push_toArray, List.append_toArray, List.nil_append, List.cons_append]
  gi_wp2
  go_ret
  exact ⟨rfl, rfl⟩

theorem Ch.grown0 {w w' : World} (h : Ch [] w w') : w.grownBy w' none := ⟨h.os, h.tape, h.output, h.size, fun k hk _ => h.block k hk (by simp)⟩

/-- A bank that is nil, or whose wheels stand at Bs. -/
def BAt (W : World) (p : Option Addr) (n : Nat) (Bs : Nat → Nat) : Prop :=
  (p = none ∧ n = 0) ∨ ∃ K G cap, p = some ⟨K, 0, none⟩ ∧ n ≤ 64 ∧ W.cell? ⟨K, 0, none⟩ = some (.slice (some ⟨G, 0, none⟩) n cap) ∧ ∀ i, i < n → W.cell? ⟨G, i, none⟩ = some (.pointer (some ⟨Bs i, 0, none⟩))
theorem BAt.cpus {W : World} {p : Option Addr} {n : Nat} {Bs : Nat → Nat} (h : BAt W p n Bs) :
    Calls Tryz.prog 5 #[.pointer p] W fun e w' => e = .returned (.int .i64 (n : Int)) ∧ w' = W := by
  rcases h with ⟨rfl, rfl⟩ | ⟨K, G, cap, rfl, hn, c, _⟩
  · exact cpus_nil W
  · clear hn
    go_enter Tryz.func5, Tryz.ntmps5
    go_wp2
    go_ret
    exact ⟨rfl, rfl⟩
theorem BAt.le {W : World} {p : Option Addr} {n : Nat} {Bs : Nat → Nat} (h : BAt W p n Bs) : n ≤ 64 := by
  rcases h with ⟨rfl, rfl⟩ | ⟨K, G, cap, rfl, hn, c, _⟩
  · omega
  · exact hn

/-- The number of a CPU that is such. -/
abbrev SuchC (n : Nat) (q : Nat → Bool) := { k : Nat // k < n ∧ q k = true }
abbrev valsC {n : Nat} {q : Nat → Bool} (l : List (SuchC n q)) : List Nat := l.map (·.1)

/-- What the iterator needs of a world: its two boxes, the bank's row, and that the function tells which are such. -/
structure GoodB (Good : World → Prop) (p : Option Addr) (n : Nat) (Bs : Nat → Nat) (B1 B2 F : Nat) (lb : Array Value) (q : Nat → Bool) : Prop where
  enter : ∀ args w, (callFunc F args).run Tryz.prog w = .ok (.enter F args) w
  b1 : ∀ W, Good W → W.cell? ⟨B1, 0, none⟩ = some (.pointer p)
  b2 : ∀ W, Good W → W.cell? ⟨B2, 0, none⟩ = some (.func (.func F) #[] lb)
  row : ∀ W, Good W → BAt W p n Bs
  asks : ∀ W, Good W → ∀ i, i < n → Calls Tryz.prog F (#[.int .i64 ((i : Nat) : Int), .pointer (some ⟨Bs i, 0, none⟩)] ++ lb) W fun e w' => e = .returned (.bool (q i)) ∧ Ch [] W w'
  quiet : ∀ W W', Good W → Ch [] W W' → Good W'

set_option maxRecDepth 100000 in
set_option maxHeartbeats 2000000 in
theorem those1_in (m : Nat) {Good : World → Prop} {p : Option Addr} {n : Nat} {Bs : Nat → Nat} {B1 B2 F : Nat} {lb : Array Value} {q : Nat → Bool} (hG : GoodB Good p n Bs B1 B2 F lb q)
    (l : Nat) (J Jx : List (SuchC n q) → World → Prop) (hJ : ∀ pre W W', J pre W → Ch [] W W' → J pre W')
    (hY : ∀ pre (x : SuchC n q) W, J pre W → valsC (pre ++ [x]) <+: selC n q → YieldAt Fence.wide (m - 1) Tryz.prog l #[.int .i64 ((x.1 : Nat) : Int), .pointer (some ⟨Bs x.1, 0, none⟩)] W fun e W' =>
      (e = .returned (.bool true) ∧ J (pre ++ [x]) W' ∧ (Good W → Good W')) ∨ (e = .returned (.bool false) ∧ Jx (pre ++ [x]) W'))
    (W : World) (hW : Good W) (h0 : J [] W) :
    CallsIn Fence.wide m Tryz.prog 56 #[.func (.yield l) #[] #[], .pointer (some ⟨B1, 0, none⟩), .pointer (some ⟨B2, 0, none⟩)] W fun e W' => (∃ v, e = .returned v) ∧
      ((∃ ys, valsC ys = selC n q ∧ J ys W') ∨ (∃ pre, valsC pre <+: selC n q ∧ Jx pre W')) := by
  have h64 := (hG.row W hW).le
  have HY := Lib.hid hY
  have HJ := Lib.hid hJ
  have HG := Lib.hid hG
  have hFe := hG.enter
  have c1 := hG.b1 W hW
  have HC := Lib.hid (hG.row W hW).cpus
  have HGW := Lib.hid hW
  have HJ0 := Lib.hid h0
  clear hY hJ hG hW h0
  have hw : ∀ f, Fence.wide.fn f := fun _ => trivial
  have hd : Fence.wide.depth = none := rfl
  refine callsIn_of_wp Tryz.func56 rfl trivial ?_ rfl
  simp only [Tryz.ntmps56, List.size_toArray, List.length_cons, List.length_nil, Nat.reduceAdd, Nat.reduceSub, Array.replicate_succ, Array.replicate_zero, List.push_toArray, List.append_toArray, List.nil_append, List.cons_append]
  gi_wp2_with (with_reducible refine (callsIn_wide.2 HC.out).mono ?_; rintro e w' ⟨rfl, rfl⟩)
  gi_loopw [8] (fun r wr => ∃ (k : Nat) (ys : List (SuchC n q)), k ≤ n ∧ r = .int .i64 (k : Int) ∧ valsC ys = selC k q ∧ J ys wr ∧ Good wr)
    (fun r _ => n - (intOf r).toNat)
  case atStart =>
    exact ⟨0, [], Nat.zero_le _, rfl, rfl, HJ0.out, HGW.out⟩
  case round =>
    obtain ⟨k, ys, hk, rfl, hys, hJk, hGk⟩ := hrel
    have HJk := Lib.hid hJk
    have HGk := Lib.hid hGk
    have HYs := Lib.hid hys
    clear hJk hGk hys c1
    by_cases hlt : k < n
    · have hlt' : (k : Int) < (n : Int) := by omega
      have d1 := HG.out.b1 wr HGk.out
      have HRow := Lib.hid (HG.out.row wr HGk.out)
      obtain ⟨K, G, cap, rfl, cK, cG⟩ : ∃ K G cap, p = some ⟨K, 0, none⟩ ∧ wr.cell? ⟨K, 0, none⟩ = some (.slice (some ⟨G, 0, none⟩) n cap) ∧ wr.cell? ⟨G, k, none⟩ = some (.pointer (some ⟨Bs k, 0, none⟩)) := by
        rcases HRow.out with ⟨_, e⟩ | ⟨K, G, cap, e, _, h1, h2⟩
        · omega
        · exact ⟨K, G, cap, e, h1, h2 k hlt⟩
      have d2 := HG.out.b2 wr HGk.out
      have HLt := Lib.hid hlt
      have HA := Lib.hid (HG.out.asks wr HGk.out k hlt)
      cases hq : q k with
      | false =>
        have HT := Lib.hid (selC_no hq)
        rw [hq] at HA
        gi_wp2_with (with_reducible refine (callsIn_wide.2 HA.out).mono ?_; rintro e w' ⟨rfl, hc'⟩)
        go_roundw
        case rel => exact ⟨k + 1, ys, by omega, by go_num, by rw [HT.out]; exact HYs.out, HJ.out _ _ _ HJk.out hc', HG.out.quiet _ _ HGk.out hc'⟩
        case measure => simp [intOf]; omega
      | true =>
        have HT := Lib.hid (selC_yes hq)
        rw [hq] at HA
        gi_wp2_with fail
        refine (callsIn_wide.2 HA.out).mono ?_
        rintro e w' ⟨rfl, hc'⟩
        have HPx := Lib.hid (show valsC (ys ++ [⟨k, hlt, hq⟩]) <+: selC n q from by
          have := selC_prefix q (k := k + 1) (n := n) (by omega)
          rw [HT.out, ← HYs.out] at this
          simpa [valsC] using this)
        have HYx := Lib.hid (HY.out ys ⟨k, hlt, hq⟩ w' (HJ.out _ _ _ HJk.out hc') HPx.out)
        have HGw := Lib.hid (HG.out.quiet _ _ HGk.out hc')
        clear hc'
        obtain ⟨fn, tmps, assign, body, hy, hR⟩ := HYx.out
        gi_wp2_with fail
        refine hR.mono ?_
        rintro e W3 (⟨rfl, hJ3, hk3⟩ | ⟨rfl, hJx3⟩)
        · have HK := Lib.hid (hk3 HGw.out)
          clear hk3
          gi_wp2
          go_roundw
          case rel =>
            exact ⟨k + 1, ys ++ [⟨k, hlt, hq⟩], by omega, by go_num, by rw [HT.out, ← HYs.out]; simp [valsC], hJ3, HK.out⟩
          case measure => simp [intOf]; omega
        · gi_wp2
          refine bodyPost_ret (results_none rfl _ _ _) rfl ?_
          exact ⟨⟨_, rfl⟩, .inr ⟨ys ++ [⟨k, hlt, hq⟩], HPx.out, hJx3⟩⟩
    · gi_wp2
      go_end0
      obtain rfl : k = n := by omega
      exact ⟨⟨_, rfl⟩, .inl ⟨ys, HYs.out, HJk.out⟩⟩

theorem those_stops (m : Nat) {Good : World → Prop} {p : Option Addr} {n : Nat} {Bs : Nat → Nat} {B1 B2 F : Nat} {lb : Array Value} {q : Nat → Bool} (hG : GoodB Good p n Bs B1 B2 F lb q) (w : World) (hGw : ∀ W, Below w.heap.size w W → Good W) :
    SeqP Fence.wide m Tryz.prog 56 #[.pointer (some ⟨B1, 0, none⟩), .pointer (some ⟨B2, 0, none⟩)] (fun x : SuchC n q => #[.int .i64 ((x.1 : Nat) : Int), .pointer (some ⟨Bs x.1, 0, none⟩)]) (Ch []) (fun A B => Good A → Good B)
      (fun ys => valsC ys = selC n q) (fun pre => valsC pre <+: selC n q) w := fun l J Jx W hW hJ hY h0 =>
  those1_in m hG l J Jx hJ hY W (hGw W hW) h0
end Go.Proofs.YtnndofeomakpiaaGreatDoor
