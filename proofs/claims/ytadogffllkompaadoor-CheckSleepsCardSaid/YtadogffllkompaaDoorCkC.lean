/-
  The function that yields those that come behind an instruction.
-/
import Derived.RangeFuncLeaves
import Derived.RangeFuncNested
import Derived.Shelf.Abstract
import Derived.Shelf.RegionOpen
import Derived.OwnWalkIn
import Derived.TacticsInMore
import Derived.LoopNIn
import Derived.LoopIn
import Derived.RangeFuncBox
import Derived.RangeFuncCalls
import Derived.Test.YtadogffllkompaaDoorCkB
namespace Go.Proofs.YtadogffllkompaaDoor
open Go.RowKit Go.Shelf

attribute [local go_sem] Oper.semAt_some

/-- Those that come behind an instruction at any number. -/
def bhl (L : List I5) (z : Int) : List Nat := if inn L.length z = true then prL L.length (ia L z.toNat) z.toNat else []
theorem bhl_len (L : List I5) (z : Int) : (bhl L z).length ≤ 2 := by
  unfold bhl
  split
  · exact prL_len _ _ _
  · simp

/-- What a round keeps: all below n₀, and the two boxes. -/
def Kc (n₀ B1 B2 : Nat) (A A' : World) : Prop := Below n₀ A A' ∧ (∀ v, Boxed A B1 27 v → Boxed A' B1 27 v) ∧ ∀ v, Boxed A B2 3 v → Boxed A' B2 3 v
theorem kc_t {n₀ B1 B2 : Nat} {A B C : World} (h : Kc n₀ B1 B2 A B) (k : Kc n₀ B1 B2 B C) : Kc n₀ B1 B2 A C := ⟨h.1.trans k.1, fun v hv => k.2.1 v (h.2.1 v hv), fun v hv => k.2.2 v (h.2.2 v hv)⟩
theorem kc_r {n₀ B1 B2 : Nat} (A : World) : Kc n₀ B1 B2 A A := ⟨Below.refl _ _, fun _ h => h, fun _ h => h⟩
theorem kc_b {n₀ B1 B2 : Nat} {w : World} (hn : n₀ ≤ w.heap.size) (W : World) (l : Nat) (o o' : Obj) (hl : w.heap.size ≤ l) (h : W.heap[l]? = some o) (hc : o.isCells = false) (hw : o.isWalk = false) : Kc n₀ B1 B2 W (W.putObj l o') :=
  ⟨belowK_b hn W l o o' hl h hc hw, fun v hv => hv.kept (grownBy_putObj' W l o') (fun e => by
    cases e
    rw [show W.heap[B1]? = _ from hv] at h
    cases h
    cases hc), fun v hv => hv.kept (grownBy_putObj' W l o') (fun e => by
    cases e
    rw [show W.heap[B2]? = _ from hv] at h
    cases h
    cases hc)⟩

set_option maxHeartbeats 400000 in
theorem behind_in (n : Nat) (a : Option Addr) (len cap : Nat) (z : Int) (w : World) :
    CallsIn Fence.wide n Tryd.prog 24 #[.slice a len cap, .int .i64 z] w fun e w' => e = .returned (.func (.func 39) #[] #[.pointer (some ⟨w.heap.size, 0, none⟩), .pointer (some ⟨w.heap.size + 1, 0, none⟩)]) ∧ w' = (w.alloc (.cells #[.slice a len cap] 27)).alloc (.cells #[.int .i64 z] 3) := by
  refine callsIn_of_wp Tryd.func24 rfl trivial ?_ rfl
  simp only [Tryd.ntmps24, List.size_toArray, List.length_cons, List.length_nil, Nat.reduceAdd, Nat.reduceSub, Array.replicate_succ, Array.replicate_zero, List.push_toArray, List.append_toArray, List.nil_append, List.cons_append]
  gi_wp2
  go_ret
  exact ⟨rfl, rfl⟩

set_option maxRecDepth 100000 in
set_option maxHeartbeats 2000000 in
theorem behind1_none (n l B1 B2 : Nat) {a : Option Addr} {len cap : Nat} {z : Int} {J : Prop} (h : inn len z = false) (W : World) (hb1 : Boxed W B1 27 (.slice a len cap)) (hb2 : Boxed W B2 3 (.int .i64 z)) (h0 : J) :
    CallsIn Fence.wide n Tryd.prog 39 #[.func (.yield l) #[] #[], .pointer (some ⟨B1, 0, none⟩), .pointer (some ⟨B2, 0, none⟩)] W fun e W' => (∃ v, e = .returned v) ∧ W' = W ∧ J := by
  have HT := Lib.hid (fun W => there_any len cap a z W)
  rw [h] at HT
  have H0 := Lib.hid h0
  have c1 := hb1.cell
  have c2 := hb2.cell
  clear h h0 hb1 hb2
  have hw : ∀ f, Fence.wide.fn f := fun _ => trivial
  have hd : Fence.wide.depth = none := rfl
  refine callsIn_of_wp Tryd.func39 rfl trivial ?_ rfl
  simp only [Tryd.ntmps39, List.size_toArray, List.length_cons, List.length_nil, Nat.reduceAdd, Nat.reduceSub, Array.replicate_succ, Array.replicate_zero, List.push_toArray, List.append_toArray, List.nil_append, List.cons_append]
  gi_wp2_with (first
    | (gi_at_call 40; refine (callsIn_wide.2 (HT.out _)).mono ?_; rintro e w' ⟨rfl, rfl⟩)
    | fail)
  refine bodyPost_ret (results_none rfl _ _ _) rfl ?_
  exact ⟨⟨_, rfl⟩, rfl, H0.out⟩
theorem behind1_exit (n l B1 B2 : Nat) {b off : Nat} {len cap k : Nat} {J : Prop} {L : List I5} (hL : L.length = len) (hk : k < len) (h73 : (ia L k).op = 73) (W : World) (hI : ∀ i (hi : i < L.length), FiveO W b (off + i * 5) L[i]) (hb1 : Boxed W B1 27 (.slice (some ⟨b, off, none⟩) len cap)) (hb2 : Boxed W B2 3 (.int .i64 (k : Int))) (h0 : J) :
    CallsIn Fence.wide n Tryd.prog 39 #[.func (.yield l) #[] #[], .pointer (some ⟨B1, 0, none⟩), .pointer (some ⟨B2, 0, none⟩)] W fun e W' => (∃ v, e = .returned v) ∧ W' = W ∧ J := by
  have HT := Lib.hid (fun W => there_any len cap (some ⟨b, off, none⟩) (k : Int) W)
  have h : inn len (k : Int) = true := by unfold inn; simp; omega
  rw [h] at HT
  have H0 := Lib.hid h0
  have c1 := hb1.cell
  have c2 := hb2.cell
  have c3 := (hI k (by omega)).c0
  rw [ia_at (by omega), h73] at c3
  have hkn : (k : Int) < (len : Int) := by omega
  clear h h0 hb1 hb2 hI hL h73
  have hw : ∀ f, Fence.wide.fn f := fun _ => trivial
  have hd : Fence.wide.depth = none := rfl
  refine callsIn_of_wp Tryd.func39 rfl trivial ?_ rfl
  simp only [Tryd.ntmps39, List.size_toArray, List.length_cons, List.length_nil, Nat.reduceAdd, Nat.reduceSub, Array.replicate_succ, Array.replicate_zero, List.push_toArray, List.append_toArray, List.nil_append, List.cons_append]
  gi_wp2_with (first
    | (gi_at_call 40; refine (callsIn_wide.2 (HT.out _)).mono ?_; rintro e w' ⟨rfl, rfl⟩)
    | fail)
  refine bodyPost_ret (results_none rfl _ _ _) rfl ?_
  exact ⟨⟨_, rfl⟩, rfl, H0.out⟩
end Go.Proofs.YtadogffllkompaaDoor
