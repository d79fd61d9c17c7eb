/-
  An arena of int: count, Len, Room.
-/
import Derived.Test.YtdompamilgbnnaaAIC
namespace Go.Proofs.Ytdompamilgbnnaa.aI
open Go.RowKit Go.Shelf

attribute [local go_sem] Oper.semAt_some

set_option maxRecDepth 100000 in
set_option maxHeartbeats 2000000 in
theorem count_in (n : Nat) {F : Nat} {q : Sl Int → Bool} (hq : Asks F q) (p : Option Addr) (G : Nat) (xs : List (Sl Int)) (w : World) (hL : LA w.heap.size w p G xs) :
    CallsIn Fence.wide (n + 6) Try.prog 32 #[.pointer p, .func (.func F) #[] #[]] w fun e W' =>
      e = .returned (.int .i64 ((sel xs q).length : Int)) ∧ Below w.heap.size w W' := by
  have h64 := hL.le
  have HL := Lib.hid hL
  have HQ := Lib.hid hq
  have HLe := Lib.hid (sel_len xs q)
  clear hL hq
  have hw : ∀ f, Fence.wide.fn f := fun _ => trivial
  have hd : Fence.wide.depth = none := rfl
  have h1 : 1 ≤ n + 6 := by omega
  refine callsIn_of_wp_marks Try.func32 rfl trivial ?_ rfl
  simp only [Try.ntmps32, List.size_toArray, List.length_cons, List.length_nil, Nat.reduceAdd, Nat.reduceSub, Array.replicate_succ, Array.replicate_zero, List.push_toArray, List.append_toArray, List.nil_append, List.cons_append]
  gi_wp2_with (gi_at_call 27; refine (those_in _ _ _ _).mono ?_; rintro e w' ⟨rfl, rfl⟩)
  obtain ⟨W0, hW0⟩ : ∃ W0, W0 = ((w.alloc (.cells #[.int .i64 0] 3)).alloc (.cells #[.pointer p] 23)).alloc (.cells #[.func (.func F) #[] #[]] 77) := ⟨_, rfl⟩
  have b0 : Boxed W0 w.heap.size 3 (.int .i64 0) := by rw [hW0]; exact ((Boxed.new w 3 (.int .i64 0)).alloc _).alloc _
  have b1 : Boxed W0 (w.heap.size + 1) 23 (.pointer p) := by
    rw [hW0]; have := (Boxed.new (w.alloc (.cells #[.int .i64 0] 3)) 23 (.pointer p)).alloc (.cells #[.func (.func F) #[] #[]] 77)
    rwa [World.size_alloc] at this
  have b2 : Boxed W0 (w.heap.size + 1 + 1) 77 (.func (.func F) #[] #[]) := by
    rw [hW0]; have := Boxed.new ((w.alloc (.cells #[.int .i64 0] 3)).alloc (.cells #[.pointer p] 23)) 77 (.func (.func F) #[] #[])
    rwa [World.size_alloc, World.size_alloc] at this
  have hB0 : Below w.heap.size w W0 := by rw [hW0]; exact ((((Below.refl _ w).alloc (Nat.le_refl _) _).alloc (by simp) _).alloc (by simp; omega) _)
  have hsz : W0.heap.size = w.heap.size + 1 + 1 + 1 := by rw [hW0]; simp
  have hL0 : LA w.heap.size W0 p G xs := HL.out.below hB0
  rw [← hW0]
  clear hW0 HL
  refine wpIn_rangeFunc_ownF rfl h1 (gf := 38) (lb := #[.pointer (some ⟨w.heap.size + 1, 0, none⟩), .pointer (some ⟨w.heap.size + 1 + 1, 0, none⟩)]) rfl trivial (enters_of Try.func38 (by kernel_rfl) rfl)
    (those_stops (n + 6 - 1) HQ.out (w.heap.size + 1) (w.heap.size + 1 + 1) w.heap.size p G xs W0 (by omega) b1 b2 hL0) kb_t (kb_b (by omega)) (Below.refl _ _) (fun _ => rfl)
    (fun pre W => (Boxed W w.heap.size 3 (.int .i64 (pre.length : Int)) ∧ Boxed W (w.heap.size + 1) 23 (.pointer p) ∧ Boxed W (w.heap.size + 1 + 1) 77 (.func (.func F) #[] #[])) ∧ Below w.heap.size w W)
    (fun _ _ _ => False)
    (OwnFrom.and (OwnFrom.and (Own.from (boxed_own w.heap.size 3 (fun pre : List (Such xs q) => .int .i64 (pre.length : Int))) _) (OwnFrom.and (Own.from (boxed_own (w.heap.size + 1) 23 (fun _ : List (Such xs q) => .pointer p)) _) (Own.from (boxed_own (w.heap.size + 1 + 1) 77 (fun _ : List (Such xs q) => .func (.func F) #[] #[])) _))) (ownFrom_below (Nat.le_refl _) (by omega)))
    (fun _ _ _ _ _ hs _ _ => hs)
    ⟨⟨b0, b1, b2⟩, hB0⟩
    (fun x => { tmps := #[.pointer p, .func (.func F) #[] #[], undef, undef, .int .i64 0, .pointer (some ⟨w.heap.size, 0, none⟩), .pointer p, .func (.func F) #[] #[], .func (.func 38) #[] #[.pointer (some ⟨w.heap.size + 1, 0, none⟩), .pointer (some ⟨w.heap.size + 1 + 1, 0, none⟩)], .pointer (some ⟨G, x.1 * 4, none⟩), undef, undef, undef], defers := [] }) ?assign ?body ?done ?stop
  case assign =>
    intro l x W K hK
    exact wpIn_skip (by simpa [Exit.then] using hK)
  case body =>
    rintro l pre x W ⟨⟨c0, c1, c2⟩, hB⟩ hlt
    have hc := c0.cell
    have hf := c0.frozen
    have h64' : (pre.length : Int) < 64 := by omega
    gi_wp2
    refine ⟨KeepsOthers.setCell _ _ _, ⟨(Below.refl _ _).setCell (p := ⟨w.heap.size, 0, none⟩) (Nat.le_refl _) _, fun v hv => hv.other (by omega) _, fun v hv => hv.other (by omega) _⟩, ⟨?_, c1.other (by omega) _, c2.other (by omega) _⟩, hB.setCell (p := ⟨w.heap.size, 0, none⟩) (Nat.le_refl _) _⟩
    have := c0.set (.int .i64 ((pre.length : Int) + 1))
    simpa using this
  case done =>
    rintro D ys W hD hys ⟨⟨c0, c1, c2⟩, hB⟩ hK
    have hl : ys.length = (sel xs q).length := by rw [← hys]; simp
    rw [hl] at c0
    have hc := c0.cell
    gi_wp2
    refine ⟨by simp, .inl ⟨_, _, rfl, run_takeDeferred hK, ?_⟩⟩
    exact ⟨_, results_tmp rfl _ _ _, rfl, hB.trans (belowK_b (w := w) (Nat.le_refl _) W D _ _ (by omega) hK rfl rfl)⟩
  case stop =>
    rintro D c pre W _ _ h _
    exact h.elim

theorem count_any {F : Nat} {q : Sl Int → Bool} (hq : Asks F q) (p : Option Addr) (G : Nat) (xs : List (Sl Int)) (w : World) (hL : LA w.heap.size w p G xs) :
    Calls Try.prog 32 #[.pointer p, .func (.func F) #[] #[]] w fun e W' =>
      e = .returned (.int .i64 ((sel xs q).length : Int)) ∧ Below w.heap.size w W' :=
  callsIn_wide.1 (count_in 0 hq p G xs w hL)

theorem room_la (p : Option Addr) (G : Nat) (xs : List (Sl Int)) (w : World) (hL : LA w.heap.size w p G xs) :
    Calls Try.prog 21 #[.pointer p] w fun e W' => e = .returned (.int .i64 ((sel xs isFree).length : Int)) ∧ Below w.heap.size w W' := by
  have HC := Lib.hid (count_any asks_free p G xs w hL)
  clear hL
  go_enter Try.func21, Try.ntmps21
  go_wp2_with fail
  refine HC.out.mono ?_
  rintro e w' ⟨rfl, hB⟩
  go_wp2
  go_ret
  exact ⟨rfl, hB⟩
theorem len_la (p : Option Addr) (G : Nat) (xs : List (Sl Int)) (w : World) (hL : LA w.heap.size w p G xs) :
    Calls Try.prog 20 #[.pointer p] w fun e W' => e = .returned (.int .i64 ((sel xs isHeld).length : Int)) ∧ Below w.heap.size w W' := by
  have HC := Lib.hid (count_any asks_holds p G xs w hL)
  clear hL
  go_enter Try.func20, Try.ntmps20
  go_wp2_with fail
  refine HC.out.mono ?_
  rintro e w' ⟨rfl, hB⟩
  go_wp2
  go_ret
  exact ⟨rfl, hB⟩
end Go.Proofs.Ytdompamilgbnnaa.aI
