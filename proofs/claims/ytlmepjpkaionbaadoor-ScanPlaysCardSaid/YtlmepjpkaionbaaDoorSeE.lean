/-
  Sections: maskOf, In, Open; nil sections.
-/
import Derived.Test.YtlmepjpkaionbaaDoorSeD
namespace Go.Proofs.YtlmepjpkaionbaaDoor
open Go.RowKit Go.Shelf

attribute [local go_sem] Oper.semAt_some

/-- Of what there was nothing has turned; the iterator's two boxes are as they were. -/
structure GQ (w : World) (B1 B2 : Nat) (v1 v2 : Value) (W : World) : Prop where
  ch : Ch [] w W
  c1 : W.cell? ⟨B1, 0, none⟩ = some v1
  c2 : W.cell? ⟨B2, 0, none⟩ = some v2
theorem ch_row {w W W' : World} {row : Option Nat} (h : Ch [] w W) (hg : W.grownBy W' row) (hr : ∀ r, row = some r → w.heap.size ≤ r) : Ch [] w W' := h.kept hg hr
section
variable {w W W' : World} {B1 B2 : Nat} {v1 v2 : Value}
theorem GQ.quiet (h : GQ w B1 B2 v1 v2 W) (hc : Ch [] W W') : GQ w B1 B2 v1 v2 W' :=
  ⟨h.ch.trans hc, (hc.cell (p := ⟨B1, 0, none⟩) (cell_lt h.c1) (by simp)).trans h.c1, (hc.cell (p := ⟨B2, 0, none⟩) (cell_lt h.c2) (by simp)).trans h.c2⟩
theorem GQ.set (h : GQ w B1 B2 v1 v2 W) {X : Nat} (hX : w.heap.size ≤ X) (h1 : B1 ≠ X) (h2 : B2 ≠ X) (u : Value) : GQ w B1 B2 v1 v2 (W.setCell ⟨X, 0, none⟩ u) :=
  ⟨chSetNew h.ch hX u, setCell_other h.c1 (addr_ne_block (Ne.symm h1)), setCell_other h.c2 (addr_ne_block (Ne.symm h2))⟩
theorem ownFrom_gq {β : Type} {B : Nat} (hB : w.heap.size ≤ B) : OwnFrom B (fun (_ : β) W => GQ w B1 B2 v1 v2 W) := fun _ _ _ _ hs hg hr =>
  ⟨hs.ch.kept hg (fun r e => Nat.le_trans hB (hr r e).1), cell_kept hs.c1 hg (fun r e => (hr r e).2), cell_kept hs.c2 hg (fun r e => (hr r e).2)⟩
theorem gq_b (l : Nat) (o o' : Obj) (hl : w.heap.size ≤ l) (h : W.heap[l]? = some o) (hc : o.isCells = false) (hq : GQ w B1 B2 v1 v2 W) : GQ w B1 B2 v1 v2 (W.putObj l o') :=
  ownFrom_gq (β := Unit) (B := w.heap.size) (Nat.le_refl _) () W _ (some l) hq (grownBy_putObj' W l o') (fun r e => by cases e; exact ⟨hl, o, h, hc⟩)
end
theorem Ch.grown0 {w w' : World} (h : Ch [] w w') : w.grownBy w' none := ⟨h.os, h.tape, h.output, h.size, fun k hk _ => h.block k hk (by simp)⟩
theorem keeps_step {W W1 : World} {B X : Nat} (hc : Ch [] W W1) (hX : X < B) (u : Value) : KeepsFrom B W (W1.setCell ⟨X, 0, none⟩ u) :=
  ⟨by have := hc.size; simpa [World.setCell] using this, fun k o hB hk _ => by
    have hk2 : k < W.heap.size := (Array.getElem?_eq_some_iff.1 hk).1
    rw [Below.heap_setCell W1 ⟨X, 0, none⟩ u k (by simp only; omega), hc.block k hk2 (by simp), hk]⟩
theorem with_snoc (l : List Nat) (i : Nat) : Mk.withN (Mk.withN 0 (l.map fun (i : Nat) => (i : Int))) [(i : Int)] = Mk.withN 0 ((l ++ [i]).map fun (i : Nat) => (i : Int)) := by
  simp [Mk.withN, List.foldl_append]
theorem with_one {M : Nat} (hM : M < 18446744073709551616) (i : Nat) (W : World) (t : TypeId) :
    Calls Tryd.prog 48 #[.int .u64 (M : Int), .slice (some ⟨W.heap.size, 0, none⟩) 1 1] (W.alloc (.cells #[.int .i64 ((i : Nat) : Int)] t)) fun e w' => e = .returned (.int .u64 ((Mk.withN M [(i : Int)] : Nat) : Int)) ∧ (W.alloc (.cells #[.int .i64 ((i : Nat) : Int)] t)) = w' :=
  Mk.with_any M hM (some ⟨W.heap.size, 0, none⟩) 1 [(i : Int)] _ (by simp) (.inr ⟨W.heap.size, 0, rfl, fun j hj => by
    obtain rfl : j = 0 := by simpa using hj
    rw [World.cell?_alloc_at _ _ _ _ rfl]
    rfl⟩)

set_option maxRecDepth 100000 in
set_option maxHeartbeats 2000000 in
theorem maskOf_in (m : Nat) {w : World} {p : Option Addr} {F : Nat} {lb : Array Value} {q : Nat → Bool} (hFe : ∀ args w, (callFunc F args).run Tryd.prog w = .ok (.enter F args) w) (hn : p = none → selC 64 q = [])
    (hA : ∀ a, p = some a → ∀ W, Ch [] w W → ∀ i, i < 64 → Calls Tryd.prog F (#[.int .i64 ((i : Nat) : Int)] ++ lb) W fun e w' => e = .returned (.bool (q i)) ∧ Ch [] W w') :
    CallsIn Fence.wide (m + 6) Tryd.prog 37 #[.pointer p, .func (.func F) #[] lb] w fun e W' =>
      e = .returned (.int .u64 ((mskN q : Nat) : Int)) ∧ Ch [] w W' := by
  obtain ⟨ML, hML⟩ : ∃ ML, ML = mskN q := ⟨_, rfl⟩
  rw [← hML]
  have HML := Lib.hid (show ML = Mk.withN 0 ((selC 64 q).map fun (i : Nat) => (i : Int)) from hML)
  have HF := Lib.hid hFe
  have HN := Lib.hid hn
  have HA := Lib.hid hA
  clear hFe hn hA hML
  have hw : ∀ f, Fence.wide.fn f := fun _ => trivial
  have hd : Fence.wide.depth = none := rfl
  have h1 : 1 ≤ m + 6 := by omega
  refine callsIn_of_wp_marks Tryd.func37 rfl trivial ?_ rfl
  simp only [Tryd.ntmps37, List.size_toArray, List.length_cons, List.length_nil, Nat.reduceAdd, Nat.reduceSub, Array.replicate_succ, Array.replicate_zero, List.push_toArray, List.append_toArray, List.nil_append, List.cons_append]
  gi_wp2_with (gi_at_call 47; refine (those_in _ _ _ _ _).mono ?_; rintro e w' ⟨rfl, rfl⟩)
  obtain ⟨W1, hW1⟩ : ∃ W1, W1 = w.alloc (.cells #[.int .u64 0] 40) := ⟨_, rfl⟩
  obtain ⟨W2, hW2⟩ : ∃ W2, W2 = W1.alloc (.cells #[.pointer p] 29) := ⟨_, rfl⟩
  obtain ⟨W0, hW0⟩ : ∃ W0, W0 = W2.alloc (.cells #[.func (.func F) #[] lb] 61) := ⟨_, rfl⟩
  have s1 : W1.heap.size = w.heap.size + 1 := by rw [hW1]; simp
  have s2 : W2.heap.size = w.heap.size + 1 + 1 := by rw [hW2]; simp [s1]
  have hsz : W0.heap.size = w.heap.size + 1 + 1 + 1 := by rw [hW0]; simp [s2]
  have bm : Boxed W0 w.heap.size 40 (.int .u64 0) := by
    rw [hW0, hW2, hW1]; exact ((Boxed.new w _ _).alloc _).alloc _
  have b1 : Boxed W0 (w.heap.size + 1) 29 (.pointer p) := by
    rw [hW0, hW2, ← s1]; exact (Boxed.new W1 _ _).alloc _
  have b2 : Boxed W0 (w.heap.size + 1 + 1) 61 (.func (.func F) #[] lb) := by
    rw [hW0, ← s2]; exact Boxed.new W2 _ _
  have hc0 : Ch [] w W0 := by rw [hW0, hW2, hW1]; exact (((Ch.refl [] w).alloc _).alloc _).alloc _
  rw [← hW1, ← hW2, ← hW0]
  clear hW0 hW1 hW2 s1 s2
  have hq0 : GQ w (w.heap.size + 1) (w.heap.size + 1 + 1) (.pointer p) (.func (.func F) #[] lb) W0 := ⟨hc0, b1.cell, b2.cell⟩
  clear hc0 b1 b2
  refine wpIn_range_p rfl h1 (gf := 53) (lb := #[.pointer (some ⟨w.heap.size + 1, 0, none⟩), .pointer (some ⟨w.heap.size + 1 + 1, 0, none⟩)]) rfl trivial (enters_of Tryd.func53 (by kernel_rfl) rfl)
    (those_stops (m + 6 - 1) (Good := GQ w (w.heap.size + 1) (w.heap.size + 1 + 1) (.pointer p) (.func (.func F) #[] lb)) (p := p) (F := F) (lb := lb) (q := q)
      ⟨HF.out, fun W g => g.c1, fun W g => g.c2, HN.out, fun a ha W g i hi => HA.out a ha W g.ch i hi, fun W W' g hc => g.quiet hc⟩ W0 (fun W hB => hq0.quiet (.of_below hB)))
    (fun A B hAB k o hk _ _ => (hAB.block k (Array.getElem?_eq_some_iff.1 hk).1 (by simp)).trans hk)
    (fun h k g => k (h g)) (fun W l o o' hl ho hc _ _ g => gq_b l o o' (by omega) ho hc g) (fun _ => rfl)
    (fun pre W => GQ w (w.heap.size + 1) (w.heap.size + 1 + 1) (.pointer p) (.func (.func F) #[] lb) W ∧ Boxed W w.heap.size 40 (.int .u64 ((Mk.withN 0 ((valsC pre).map fun (i : Nat) => (i : Int)) : Nat) : Int)))
    (fun _ _ _ => False)
    (OwnFrom.and (ownFrom_gq (by omega)) (Own.from (boxed_own w.heap.size 40 (fun pre : List (SuchC q) => .int .u64 ((Mk.withN 0 ((valsC pre).map fun (i : Nat) => (i : Int)) : Nat) : Int))) _))
    (fun s A B hs hc => ⟨hs.1.quiet hc, hs.2.kept hc.grown0 (by simp)⟩)
    (fun _ _ _ _ _ hs _ _ => hs)
    ⟨hq0, bm⟩
    (fun x => { tmps := #[.pointer p, .func (.func F) #[] lb, undef, undef, .int .u64 0, .pointer (some ⟨w.heap.size, 0, none⟩), .int .i64 ((x.1 : Nat) : Int), .pointer p, .func (.func F) #[] lb, .func (.func 53) #[] #[.pointer (some ⟨w.heap.size + 1, 0, none⟩), .pointer (some ⟨w.heap.size + 1 + 1, 0, none⟩)], .int .i64 ((x.1 : Nat) : Int), undef, undef, undef, undef, undef], defers := [] }) ?assign ?body ?done ?stop
  case assign =>
    intro l x W K hK
    gi_wp2
    exact hK
  case body =>
    rintro l pre x W ⟨hq, hb⟩ _
    obtain ⟨i, hi⟩ : ∃ i, i = x.1 := ⟨_, rfl⟩
    obtain ⟨M, hM⟩ : ∃ M, M = Mk.withN 0 ((valsC pre).map fun (i : Nat) => (i : Int)) := ⟨_, rfl⟩
    have hM2 : M < 18446744073709551616 := by rw [hM]; exact Mk.withN_lt 0 _ (by decide)
    rw [← hM] at hb
    rw [← hi]
    have HC := Lib.hid (with_one hM2 i W 3)
    have hc := (hb.alloc (.cells #[.int .i64 ((i : Nat) : Int)] 3)).cell
    have hf := (hb.alloc (.cells #[.int .i64 ((i : Nat) : Int)] 3)).frozen
    have hc0 := hb.cell
    have HQ := Lib.hid hq
    have HB := Lib.hid (hb.alloc (.cells #[.int .i64 ((i : Nat) : Int)] 3))
    have HI := Lib.hid hi
    have HM := Lib.hid hM
    have HS := Lib.hid hsz
    clear hq hb hi hM hM2 hq0 bm
    gi_wp2_with (gi_at_call 48; with_reducible refine (CallsIn.inRound l (callsIn_wide.2 HC.out)).mono ?_; rintro e w' ⟨rfl, rfl⟩)
    have hal : Ch [] W (W.alloc (.cells #[.int .i64 ((i : Nat) : Int)] 3)) := (Ch.refl [] W).alloc _
    refine ⟨keeps_step hal (by omega) _, fun g => (g.quiet hal).set (Nat.le_refl _) (by omega) (by omega) _, (HQ.out.quiet hal).set (Nat.le_refl _) (by omega) (by omega) _, ?_⟩
    have := HB.out.set (.int .u64 ((Mk.withN M [(i : Int)] : Nat) : Int))
    rw [HM.out, with_snoc, HI.out] at this
    rw [HM.out, with_snoc, HI.out]
    simpa [valsC] using this
  case done =>
    rintro D ys W hD hys ⟨hq, hb⟩ hK
    rw [hys, ← HML.out] at hb
    have hc := hb.cell
    have HQ := Lib.hid hq
    clear hq hb hq0 bm hys
    gi_wp2
    refine ⟨by simp, .inl ⟨_, _, rfl, run_takeDeferred hK, ?_⟩⟩
    exact ⟨_, results_tmp rfl _ _ _, rfl, (gq_b D _ _ (by omega) hK rfl HQ.out).ch⟩
  case stop =>
    rintro D c pre W _ _ h _
    exact h.elim
theorem maskOf_any {w : World} {p : Option Addr} {F : Nat} {lb : Array Value} {q : Nat → Bool} (hFe : ∀ args w, (callFunc F args).run Tryd.prog w = .ok (.enter F args) w) (hn : p = none → selC 64 q = [])
    (hA : ∀ a, p = some a → ∀ W, Ch [] w W → ∀ i, i < 64 → Calls Tryd.prog F (#[.int .i64 ((i : Nat) : Int)] ++ lb) W fun e w' => e = .returned (.bool (q i)) ∧ Ch [] W w') :
    Calls Tryd.prog 37 #[.pointer p, .func (.func F) #[] lb] w fun e W' =>
      e = .returned (.int .u64 ((mskN q : Nat) : Int)) ∧ Ch [] w W' := callsIn_wide.1 (maskOf_in 0 hFe hn hA)

theorem app1 (a b : Value) : #[a] ++ #[b] = #[a, b] := rfl
theorem app2 (a b c : Value) : #[a] ++ #[b, c] = #[a, b, c] := rfl
theorem in_any {w : World} {b : Nat} {x : SS} (h : Sec w b x) :
    Calls Tryd.prog 29 #[.pointer (some ⟨b, 0, none⟩)] w fun e W' => e = .returned (.int .u64 ((mskN (inP x) : Nat) : Int)) ∧ Ch [] w W' := by
  have hal := (Ch.refl [] w).alloc (.cells #[.pointer (some ⟨b, 0, none⟩)] 29)
  have H := Lib.hid (maskOf_any (w := w.alloc (.cells #[.pointer (some ⟨b, 0, none⟩)] 29)) (p := some ⟨b, 0, none⟩) (F := 42) (lb := #[.pointer (some ⟨w.heap.size, 0, none⟩)]) (q := inP x)
    (enters_of Tryd.func42 (by kernel_rfl) rfl) (fun e => by cases e) (fun a _ W hW i hi => by
      rw [app1]
      exact in1_any (h.ch (hal.trans hW) (by simp)) ((hW.cell (p := ⟨w.heap.size, 0, none⟩) (by simp) (by simp)).trans (cell_new w _ _).1) hi))
  have HAl := Lib.hid hal
  clear h hal
  go_enter Tryd.func29, Tryd.ntmps29
  go_wp2_with fail
  with_reducible refine H.out.mono ?_
  rintro e w1 ⟨rfl, hc⟩
  go_wp2_with fail
  go_ret
  exact ⟨rfl, HAl.out.trans hc⟩
theorem open_any {w : World} {b : Nat} {x : SS} (h : Sec w b x) (t : Int) :
    Calls Tryd.prog 22 #[.pointer (some ⟨b, 0, none⟩), .int .i64 t] w fun e W' => e = .returned (.int .u64 ((mskN (openP x t) : Nat) : Int)) ∧ Ch [] w W' := by
  obtain ⟨w1, hw1⟩ : ∃ W, W = w.alloc (.cells #[.pointer (some ⟨b, 0, none⟩)] 29) := ⟨_, rfl⟩
  have s1 : w1.heap.size = w.heap.size + 1 := by rw [hw1]; simp
  have hal1 : Ch [] w w1 := by rw [hw1]; exact (Ch.refl [] w).alloc _
  have hal := hal1.alloc (.cells #[.int .i64 t] 3)
  have b1 : (w1.alloc (.cells #[.int .i64 t] 3)).cell? ⟨w.heap.size, 0, none⟩ = some (.pointer (some ⟨b, 0, none⟩)) := by
    rw [World.cell?_alloc_past _ _ _ (show w.heap.size < w1.heap.size by omega), hw1]; exact (cell_new w _ _).1
  have b2 : (w1.alloc (.cells #[.int .i64 t] 3)).cell? ⟨w.heap.size + 1, 0, none⟩ = some (.int .i64 t) := by
    rw [← s1]; exact (cell_new w1 _ _).1
  have H := Lib.hid (maskOf_any (w := w1.alloc (.cells #[.int .i64 t] 3)) (p := some ⟨b, 0, none⟩) (F := 38) (lb := #[.pointer (some ⟨w.heap.size, 0, none⟩), .pointer (some ⟨w.heap.size + 1, 0, none⟩)]) (q := openP x t)
    (enters_of Tryd.func38 (by kernel_rfl) rfl) (fun e => by cases e) (fun a _ W hW i hi => by
      rw [app2]
      exact open1_any (h.ch (hal.trans hW) (by simp)) ((hW.cell (p := ⟨w.heap.size, 0, none⟩) (by simp; omega) (by simp)).trans b1) ((hW.cell (p := ⟨w.heap.size + 1, 0, none⟩) (by simp; omega) (by simp)).trans b2) hi))
  have HAl := Lib.hid hal
  rw [hw1] at H HAl b1 b2
  clear h hal hal1 s1 b1 b2 hw1
  go_enter Tryd.func22, Tryd.ntmps22
  go_wp2_with fail
  with_reducible refine H.out.mono ?_
  rintro e w2 ⟨rfl, hc⟩
  go_wp2_with fail
  go_ret
  exact ⟨rfl, HAl.out.trans hc⟩
end Go.Proofs.YtlmepjpkaionbaaDoor
