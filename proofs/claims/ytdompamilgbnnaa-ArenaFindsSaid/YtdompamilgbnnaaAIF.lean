/-
  An arena of int: Live.
-/
import Derived.Test.YtdompamilgbnnaaAIE
import Derived.Test.YtdompamilgbnnaaAR
namespace Go.Proofs.Ytdompamilgbnnaa.aI
open Go.RowKit Go.Shelf

attribute [local go_sem] Oper.semAt_some

theorem infoH : (Try.prog.info? 33).map (fun i => (i.zero, i.size, i.bytes)) = some (some (.agg #[.int .i64 0, .int .i64 0]), 2, 16) := by kernel_rfl

/-- The handles of these slots, as cells. -/
def hcs (xs : List (Sl Int)) (l : List Nat) : List Value := l.flatMap fun k : Nat => [.int .i64 (k : Int), .int .i64 ((at0 xs k).gen : Int)]
theorem hcs_snoc (xs : List (Sl Int)) (l : List Nat) (k : Nat) : hcs xs (l ++ [k]) = hcs xs l ++ [.int .i64 (k : Int), .int .i64 ((at0 xs k).gen : Int)] := by simp [hcs]

theorem cell_two_new (w : World) (x y : Value) (t : TypeId) : ∀ j u, [x, y][j]? = some u → (w.alloc (.cells #[x, y] t)).cell? ((⟨w.heap.size, 0, none⟩ : Addr).add j) = some u := by
  intro j u hj
  rw [addr_add, Nat.zero_add, World.cell?_alloc_at _ _ _ _ rfl]
  match j, hj with
  | 0, hj => simpa using hj
  | 1, hj => simpa using hj

set_option maxRecDepth 100000 in
set_option maxHeartbeats 2000000 in
theorem live_in (n : Nat) (p : Option Addr) (G : Nat) (xs : List (Sl Int)) (w : World) (hL : LA w.heap.size w p G xs) :
    CallsIn Fence.wide (n + 6) Try.prog 19 #[.pointer p] w fun e W' =>
      ∃ v, e = .returned v ∧ W'.ownsRow w.heap.size 33 2 v (sel xs isHeld).length (hcs xs (sel xs isHeld)) ∧ Below w.heap.size w W' := by
  have h64 := hL.le
  have HL := Lib.hid hL
  have HLen := Lib.hid (len_la p G xs w hL)
  have hle := sel_len xs isHeld
  obtain ⟨m, hm⟩ : ∃ m, m = (sel xs isHeld).length := ⟨_, rfl⟩
  rw [← hm] at HLen hle
  have HM := Lib.hid hm
  clear hL hm
  have hw : ∀ f, Fence.wide.fn f := fun _ => trivial
  have hd : Fence.wide.depth = none := rfl
  have h1 : 1 ≤ n + 6 := by omega
  obtain ⟨i0, hi, hz0, hz1, hz2⟩ := info_parts infoH
  refine callsIn_of_wp_marks Try.func19 rfl trivial ?_ rfl
  simp only [Try.ntmps19, List.size_toArray, List.length_cons, List.length_nil, Nat.reduceAdd, Nat.reduceSub, Array.replicate_succ, Array.replicate_zero, List.push_toArray, List.append_toArray, List.nil_append, List.cons_append]
  gi_wp2_with fail
  refine (callsIn_wide.2 HLen.out).mono ?_
  rintro e w0 ⟨rfl, hB0⟩
  have HB0 := Lib.hid hB0
  clear hB0
  gi_wp2_with (first | (gi_at_make; refine wpListIn_make_own _ rfl _ _ 50 rfl w0.heap.size 33 i0 (.agg #[.int .i64 0, .int .i64 0]) 2 Try.underlying50 hi hz0 hz1 _ _ _ m rfl rfl rfl (by rw [hz2]; omega) (by unfold maxLen; omega) (Nat.le_refl _) ?_; intro w1 hown hgrow) | (gi_at_call 27; refine (those_in _ _ _ _).mono ?_; rintro e w' ⟨rfl, rfl⟩))
  have hB1 : Below w.heap.size w w1 := (HB0.out.grown hgrow HB0.out.size (fun k e => by cases e))
  have hown' : w1.ownsRow w.heap.size 33 2 (.slice (some ⟨w0.heap.size, 0, none⟩) 0 m) 0 [] := own_mono hown HB0.out.size
  obtain ⟨B, hB⟩ : ∃ B, B = w1.heap.size := ⟨_, rfl⟩
  obtain ⟨W0, hW0⟩ : ∃ W0, ((w1.alloc (.cells #[.slice (some ⟨w0.heap.size, 0, none⟩) 0 m] 50)).alloc (.cells #[.pointer p] 23)).alloc (.cells #[.func (.func 31) #[] #[]] 77) = W0 := ⟨_, rfl⟩
  have bO : Boxed W0 w1.heap.size 50 (.slice (some ⟨w0.heap.size, 0, none⟩) 0 m) := by rw [← hW0]; exact ((Boxed.new w1 50 _).alloc _).alloc _
  have b1 : Boxed W0 (w1.heap.size + 1) 23 (.pointer p) := by
    rw [← hW0]; have := (Boxed.new (w1.alloc (.cells #[.slice (some ⟨w0.heap.size, 0, none⟩) 0 m] 50)) 23 (.pointer p)).alloc (.cells #[.func (.func 31) #[] #[]] 77)
    rwa [World.size_alloc] at this
  have b2 : Boxed W0 (w1.heap.size + 1 + 1) 77 (.func (.func 31) #[] #[]) := by
    rw [← hW0]; have := Boxed.new ((w1.alloc (.cells #[.slice (some ⟨w0.heap.size, 0, none⟩) 0 m] 50)).alloc (.cells #[.pointer p] 23)) 77 (.func (.func 31) #[] #[])
    rwa [World.size_alloc, World.size_alloc] at this
  have hs1 := hB1.size
  have hB0 : Below w.heap.size w W0 := by rw [← hW0]; exact (((hB1.alloc hs1 _).alloc (by simp; omega) _).alloc (by simp; omega) _)
  have hown2 : W0.ownsRow w.heap.size 33 2 (.slice (some ⟨w0.heap.size, 0, none⟩) 0 m) 0 [] := by rw [← hW0]; exact ((hown'.alloc _).alloc _).alloc _
  have hsz : W0.heap.size = w1.heap.size + 1 + 1 + 1 := by rw [← hW0]; simp
  have hL0 := HL.out.below hB0
  rw [hW0]
  clear hW0 hown hown' hgrow hB1 HLen hB
  refine wpIn_rangeFunc_ownG_of_H rfl h1 (gf := 38) (lb := #[.pointer (some ⟨w1.heap.size + 1, 0, none⟩), .pointer (some ⟨w1.heap.size + 1 + 1, 0, none⟩)]) rfl trivial (enters_of Try.func38 (by kernel_rfl) rfl)
    (those_stops (n + 6 - 1) asks_holds (w1.heap.size + 1) (w1.heap.size + 1 + 1) w.heap.size p G xs W0 (by omega) b1 b2 hL0) kb_t (kb_b (by omega)) (Below.refl _ _) (fun _ => rfl)
    (fun pre W => ((∃ v, Boxed W w1.heap.size 50 v ∧ W.ownsRow w.heap.size 33 2 v pre.length (hcs xs (vals pre)) ∧ True) ∧ Boxed W (w1.heap.size + 1) 23 (.pointer p) ∧ Boxed W (w1.heap.size + 1 + 1) 77 (.func (.func 31) #[] #[])) ∧ Below w.heap.size w W)
    (fun _ _ _ => False)
    (OwnFrom.and (OwnFrom.and (Own.from (holdsRow_own w.heap.size w1.heap.size 50 33 2 (fun pre : List (Such xs isHeld) => pre.length) (fun pre => hcs xs (vals pre)) (fun _ _ => True)) _) (OwnFrom.and (Own.from (boxed_own (w1.heap.size + 1) 23 (fun _ : List (Such xs isHeld) => .pointer p)) _) (Own.from (boxed_own (w1.heap.size + 1 + 1) 77 (fun _ : List (Such xs isHeld) => .func (.func 31) #[] #[])) _))) (ownFrom_below (Nat.le_refl _) (by omega)))
    (fun _ _ _ _ _ hs _ _ => hs)
    ⟨⟨⟨_, bO, hown2, trivial⟩, b1, b2⟩, hB0⟩
    (fun x => { tmps := #[.pointer p, undef, .slice none 0 0, .pointer (some ⟨w1.heap.size, 0, none⟩), .pointer (some ⟨G, x.1 * 4, none⟩), .pointer p, .int .i64 (m : Int), .slice (some ⟨w0.heap.size, 0, none⟩) 0 m, .pointer p, .func (.func 38) #[] #[.pointer (some ⟨w1.heap.size + 1, 0, none⟩), .pointer (some ⟨w1.heap.size + 1 + 1, 0, none⟩)], .pointer (some ⟨G, x.1 * 4, none⟩), undef, undef, undef, undef, undef, undef, undef, undef], defers := [] }) ?assign ?body ?done ?stop kb_r
  case assign =>
    intro l x W K hK
    gi_wp2
    exact hK
  case body =>
    rintro l pre x W ⟨⟨⟨v, hv, hrow, _⟩, c1, c2⟩, hB⟩ hlt
    have hc := hv.cell
    obtain ⟨k, hk⟩ : ∃ k, k = x.1 := ⟨_, rfl⟩
    rcases HL.out.below hB with ⟨_, rfl⟩ | ⟨R, _, _, _, hA⟩
    · exact absurd x.2.1 (by simp)
    have hS := hA.sl x.1 x.2.1
    have hG := hA.lt.2
    obtain ⟨d0, d1, _, _, _, _, _⟩ := hS
    have hbs := hB.size
    have HX := Lib.hid hk
    rw [← hk] at d0 d1 ⊢
    obtain ⟨g, hg⟩ : ∃ g, g = (at0 xs k).gen := ⟨_, rfl⟩
    rw [← hg] at d1
    have HG := Lib.hid hg
    have hcd := (Boxed.alloc hv (.cells #[.int .i64 (k : Int), .int .i64 (g : Int)] 33)).cell
    have hvD : Boxed W.drew w1.heap.size 50 v := hv
    have hrowD : W.drew.ownsRow w.heap.size 33 2 v pre.length (hcs xs (vals pre)) := hrow
    have hsD : w.heap.size ≤ W.drew.heap.size := hbs
    have HN := Lib.hid (cell_two_new W.drew (.int .i64 (k : Int)) (.int .i64 (g : Int)) 33)
    have HAp := Lib.hid (fun (v' : Value) (w2 : World) (hown' : w2.ownsRow w.heap.size 33 2 v' (pre.length + 1) (hcs xs (vals pre) ++ [.int .i64 (k : Int), .int .i64 (g : Int)])) (hgrow : (W.drew.alloc (.cells #[.int .i64 (k : Int), .int .i64 (g : Int)] 33)).grownBy w2 v.ownBlock) =>
      hvD.appended (by decide) hrowD hsD hs1 hown' hgrow)
    have hxs : hcs xs (vals pre) ++ [.int .i64 (k : Int), .int .i64 (g : Int)] = hcs xs (vals (pre ++ [x])) := by
      have e : vals (pre ++ [x]) = vals pre ++ [k] := by simp [vals, hk]
      rw [e, hcs_snoc, ← hg]
    have HFin := Lib.hid (fun (g' cap' : Nat) (w2 : World) (hown' : w2.ownsRow w.heap.size 33 2 (.slice (some ⟨g', 0, none⟩) (pre.length + 1) cap') (pre.length + 1) (hcs xs (vals pre) ++ [.int .i64 (k : Int), .int .i64 (g : Int)])) (hgrow : (W.drew.alloc (.cells #[.int .i64 (k : Int), .int .i64 (g : Int)] 33)).grownBy w2 v.ownBlock) =>
      (show KeepsFrom W0.heap.size W (w2.setCell ⟨w1.heap.size, 0, none⟩ (.slice (some ⟨g', 0, none⟩) (pre.length + 1) cap')) ∧ Kb w.heap.size (w1.heap.size + 1) (w1.heap.size + 1 + 1) W (w2.setCell ⟨w1.heap.size, 0, none⟩ (.slice (some ⟨g', 0, none⟩) (pre.length + 1) cap')) ∧
        (((∃ u, Boxed (w2.setCell ⟨w1.heap.size, 0, none⟩ (.slice (some ⟨g', 0, none⟩) (pre.length + 1) cap')) w1.heap.size 50 u ∧ (w2.setCell ⟨w1.heap.size, 0, none⟩ (.slice (some ⟨g', 0, none⟩) (pre.length + 1) cap')).ownsRow w.heap.size 33 2 u (pre ++ [x]).length (hcs xs (vals (pre ++ [x]))) ∧ True) ∧
          Boxed (w2.setCell ⟨w1.heap.size, 0, none⟩ (.slice (some ⟨g', 0, none⟩) (pre.length + 1) cap')) (w1.heap.size + 1) 23 (.pointer p) ∧ Boxed (w2.setCell ⟨w1.heap.size, 0, none⟩ (.slice (some ⟨g', 0, none⟩) (pre.length + 1) cap')) (w1.heap.size + 1 + 1) 77 (.func (.func 31) #[] #[])) ∧
          Below w.heap.size w (w2.setCell ⟨w1.heap.size, 0, none⟩ (.slice (some ⟨g', 0, none⟩) (pre.length + 1) cap'))) from by
        obtain ⟨_, hv2, hr2, hk2, hb2⟩ := HAp.out _ _ hown' hgrow
        have hb2' : Below w.heap.size W _ := ⟨hb2.os, hb2.tape, hb2.output, hb2.size, hb2.block⟩
        have hk2' : KeepsOthers W _ := ⟨hk2.size, hk2.same⟩
        have q1 : ∀ u, Boxed W (w1.heap.size + 1) 23 u → Boxed (w2.setCell ⟨w1.heap.size, 0, none⟩ (.slice (some ⟨g', 0, none⟩) (pre.length + 1) cap')) (w1.heap.size + 1) 23 u := fun u hu =>
          ((Boxed.alloc (W := W.drew) hu _).kept hgrow (Boxed.not_row (W := W.drew) hu (by decide) hrowD)).other (by omega) _
        have q2 : ∀ u, Boxed W (w1.heap.size + 1 + 1) 77 u → Boxed (w2.setCell ⟨w1.heap.size, 0, none⟩ (.slice (some ⟨g', 0, none⟩) (pre.length + 1) cap')) (w1.heap.size + 1 + 1) 77 u := fun u hu =>
          ((Boxed.alloc (W := W.drew) hu _).kept hgrow (Boxed.not_row (W := W.drew) hu (by decide) hrowD)).other (by omega) _
        refine ⟨hk2'.from _, ⟨hb2', q1, q2⟩, ⟨⟨_, hv2, ?_, trivial⟩, q1 _ c1, q2 _ c2⟩, hB.trans hb2'⟩
        rw [← hxs, List.length_append]
        exact hr2))
    clear hA hk hg hxs
    gi_wp2
    refine wpIn_region_any (by kernel_rfl) ?_
    change wpAnyIn _ _ _ _ _ _ _ _ _ (World.drew _)
    refine wpAnyIn_ready (rs := [0, 1]) (by kernel_rfl) (by simp) ?_
    refine AllReadyIn.cons rfl (fun K hK => ?_) (AllReadyIn.cons rfl (fun K hK => ?_) AllReadyIn.nil)
    · go_simp
      refine hK _ _ ?_
      clear hK K
      refine wpAnyIn_ready (rs := [1]) (by kernel_rfl) (by simp) ?_
      refine AllReadyIn.cons rfl (fun K hK => ?_) AllReadyIn.nil
      go_simp
      refine hK _ _ ?_
      clear hK K
      refine wpAnyIn_ready (rs := [2]) (by kernel_rfl) (by simp) ?_
      refine AllReadyIn.cons rfl (fun K hK => ?_) AllReadyIn.nil
      go_simp
      refine hK _ _ ?_
      clear hK K
      refine wpAnyIn_ready (rs := [3]) (by kernel_rfl) (by simp) ?_
      refine AllReadyIn.cons rfl (fun K hK => ?_) AllReadyIn.nil
      go_simp
      refine hK _ _ ?_
      clear hK K
      refine wpAnyIn_ready (rs := [4]) (by kernel_rfl) (by simp) ?_
      refine AllReadyIn.cons rfl (fun K hK => ?_) AllReadyIn.nil
      go_simp
      refine hK _ _ ?_
      clear hK K
      refine wpAnyIn_ready (rs := [5]) (by kernel_rfl) (by simp) ?_
      refine AllReadyIn.cons rfl (fun K hK => ?_) AllReadyIn.nil
      go_simp
      refine hK _ _ ?_
      clear hK K
      refine wpAnyIn_ready (rs := [6]) (by kernel_rfl) (by simp) ?_
      refine AllReadyIn.cons rfl (fun K hK => ?_) AllReadyIn.nil
      refine stepIn_append_own rfl _ _ 50 rfl w.heap.size 33 i0 (.agg #[.int .i64 0, .int .i64 0]) 2 16 Try.underlying50 hi hz0 hz1 hz2 rfl (by decide) v pre.length (hcs xs (vals pre)) rfl (hrowD.alloc _) ⟨W.heap.size, 0, none⟩ 1 1 [.int .i64 (k : Int), .int .i64 (g : Int)] rfl rfl HN.out (by simp [Value.oneCell']) (by unfold maxLen; omega) (by omega) (by simp; omega) ?_
      intro v' w2 hown' hgrow _
      obtain ⟨g', cap', rfl⟩ := ownsRow_succ hown'
      have A := HAp.out _ _ hown' hgrow
      have F := HFin.out _ _ _ hown' hgrow
      have hc1 := A.1.cell
      have hf1 := A.1.frozen
      try go_simp
      refine hK _ _ ?_
      clear hK K
      refine wpAnyIn_ready (rs := [7]) (by kernel_rfl) (by simp) ?_
      refine AllReadyIn.cons rfl (fun K hK => ?_) AllReadyIn.nil
      go_simp
      refine hK _ _ ?_
      clear hK K
      refine wpAnyIn_done (by kernel_rfl) ?_ _
      exact F
    · go_simp
      refine hK _ _ ?_
      clear hK K
      refine wpAnyIn_ready (rs := [0, 2]) (by kernel_rfl) (by simp) ?_
      refine AllReadyIn.cons rfl (fun K hK => ?_) (AllReadyIn.cons rfl (fun K hK => ?_) AllReadyIn.nil)
      · go_simp
        refine hK _ _ ?_
        clear hK K
        refine wpAnyIn_ready (rs := [2]) (by kernel_rfl) (by simp) ?_
        refine AllReadyIn.cons rfl (fun K hK => ?_) AllReadyIn.nil
        go_simp
        refine hK _ _ ?_
        clear hK K
        refine wpAnyIn_ready (rs := [3]) (by kernel_rfl) (by simp) ?_
        refine AllReadyIn.cons rfl (fun K hK => ?_) AllReadyIn.nil
        go_simp
        refine hK _ _ ?_
        clear hK K
        refine wpAnyIn_ready (rs := [4]) (by kernel_rfl) (by simp) ?_
        refine AllReadyIn.cons rfl (fun K hK => ?_) AllReadyIn.nil
        go_simp
        refine hK _ _ ?_
        clear hK K
        refine wpAnyIn_ready (rs := [5]) (by kernel_rfl) (by simp) ?_
        refine AllReadyIn.cons rfl (fun K hK => ?_) AllReadyIn.nil
        go_simp
        refine hK _ _ ?_
        clear hK K
        refine wpAnyIn_ready (rs := [6]) (by kernel_rfl) (by simp) ?_
        refine AllReadyIn.cons rfl (fun K hK => ?_) AllReadyIn.nil
        refine stepIn_append_own rfl _ _ 50 rfl w.heap.size 33 i0 (.agg #[.int .i64 0, .int .i64 0]) 2 16 Try.underlying50 hi hz0 hz1 hz2 rfl (by decide) v pre.length (hcs xs (vals pre)) rfl (hrowD.alloc _) ⟨W.heap.size, 0, none⟩ 1 1 [.int .i64 (k : Int), .int .i64 (g : Int)] rfl rfl HN.out (by simp [Value.oneCell']) (by unfold maxLen; omega) (by omega) (by simp; omega) ?_
        intro v' w2 hown' hgrow _
        obtain ⟨g', cap', rfl⟩ := ownsRow_succ hown'
        have A := HAp.out _ _ hown' hgrow
        have F := HFin.out _ _ _ hown' hgrow
        have hc1 := A.1.cell
        have hf1 := A.1.frozen
        try go_simp
        refine hK _ _ ?_
        clear hK K
        refine wpAnyIn_ready (rs := [7]) (by kernel_rfl) (by simp) ?_
        refine AllReadyIn.cons rfl (fun K hK => ?_) AllReadyIn.nil
        go_simp
        refine hK _ _ ?_
        clear hK K
        refine wpAnyIn_done (by kernel_rfl) ?_ _
        exact F
      · go_simp
        refine hK _ _ ?_
        clear hK K
        refine wpAnyIn_ready (rs := [0, 3]) (by kernel_rfl) (by simp) ?_
        refine AllReadyIn.cons rfl (fun K hK => ?_) (AllReadyIn.cons rfl (fun K hK => ?_) AllReadyIn.nil)
        · go_simp
          refine hK _ _ ?_
          clear hK K
          refine wpAnyIn_ready (rs := [3]) (by kernel_rfl) (by simp) ?_
          refine AllReadyIn.cons rfl (fun K hK => ?_) AllReadyIn.nil
          go_simp
          refine hK _ _ ?_
          clear hK K
          refine wpAnyIn_ready (rs := [4]) (by kernel_rfl) (by simp) ?_
          refine AllReadyIn.cons rfl (fun K hK => ?_) AllReadyIn.nil
          go_simp
          refine hK _ _ ?_
          clear hK K
          refine wpAnyIn_ready (rs := [5]) (by kernel_rfl) (by simp) ?_
          refine AllReadyIn.cons rfl (fun K hK => ?_) AllReadyIn.nil
          go_simp
          refine hK _ _ ?_
          clear hK K
          refine wpAnyIn_ready (rs := [6]) (by kernel_rfl) (by simp) ?_
          refine AllReadyIn.cons rfl (fun K hK => ?_) AllReadyIn.nil
          refine stepIn_append_own rfl _ _ 50 rfl w.heap.size 33 i0 (.agg #[.int .i64 0, .int .i64 0]) 2 16 Try.underlying50 hi hz0 hz1 hz2 rfl (by decide) v pre.length (hcs xs (vals pre)) rfl (hrowD.alloc _) ⟨W.heap.size, 0, none⟩ 1 1 [.int .i64 (k : Int), .int .i64 (g : Int)] rfl rfl HN.out (by simp [Value.oneCell']) (by unfold maxLen; omega) (by omega) (by simp; omega) ?_
          intro v' w2 hown' hgrow _
          obtain ⟨g', cap', rfl⟩ := ownsRow_succ hown'
          have A := HAp.out _ _ hown' hgrow
          have F := HFin.out _ _ _ hown' hgrow
          have hc1 := A.1.cell
          have hf1 := A.1.frozen
          try go_simp
          refine hK _ _ ?_
          clear hK K
          refine wpAnyIn_ready (rs := [7]) (by kernel_rfl) (by simp) ?_
          refine AllReadyIn.cons rfl (fun K hK => ?_) AllReadyIn.nil
          go_simp
          refine hK _ _ ?_
          clear hK K
          refine wpAnyIn_done (by kernel_rfl) ?_ _
          exact F
        · go_simp
          refine hK _ _ ?_
          clear hK K
          refine wpAnyIn_ready (rs := [0, 4]) (by kernel_rfl) (by simp) ?_
          refine AllReadyIn.cons rfl (fun K hK => ?_) (AllReadyIn.cons rfl (fun K hK => ?_) AllReadyIn.nil)
          · go_simp
            refine hK _ _ ?_
            clear hK K
            refine wpAnyIn_ready (rs := [4]) (by kernel_rfl) (by simp) ?_
            refine AllReadyIn.cons rfl (fun K hK => ?_) AllReadyIn.nil
            go_simp
            refine hK _ _ ?_
            clear hK K
            refine wpAnyIn_ready (rs := [5]) (by kernel_rfl) (by simp) ?_
            refine AllReadyIn.cons rfl (fun K hK => ?_) AllReadyIn.nil
            go_simp
            refine hK _ _ ?_
            clear hK K
            refine wpAnyIn_ready (rs := [6]) (by kernel_rfl) (by simp) ?_
            refine AllReadyIn.cons rfl (fun K hK => ?_) AllReadyIn.nil
            refine stepIn_append_own rfl _ _ 50 rfl w.heap.size 33 i0 (.agg #[.int .i64 0, .int .i64 0]) 2 16 Try.underlying50 hi hz0 hz1 hz2 rfl (by decide) v pre.length (hcs xs (vals pre)) rfl (hrowD.alloc _) ⟨W.heap.size, 0, none⟩ 1 1 [.int .i64 (k : Int), .int .i64 (g : Int)] rfl rfl HN.out (by simp [Value.oneCell']) (by unfold maxLen; omega) (by omega) (by simp; omega) ?_
            intro v' w2 hown' hgrow _
            obtain ⟨g', cap', rfl⟩ := ownsRow_succ hown'
            have A := HAp.out _ _ hown' hgrow
            have F := HFin.out _ _ _ hown' hgrow
            have hc1 := A.1.cell
            have hf1 := A.1.frozen
            try go_simp
            refine hK _ _ ?_
            clear hK K
            refine wpAnyIn_ready (rs := [7]) (by kernel_rfl) (by simp) ?_
            refine AllReadyIn.cons rfl (fun K hK => ?_) AllReadyIn.nil
            go_simp
            refine hK _ _ ?_
            clear hK K
            refine wpAnyIn_done (by kernel_rfl) ?_ _
            exact F
          · go_simp
            refine hK _ _ ?_
            clear hK K
            refine wpAnyIn_ready (rs := [0, 5]) (by kernel_rfl) (by simp) ?_
            refine AllReadyIn.cons rfl (fun K hK => ?_) (AllReadyIn.cons rfl (fun K hK => ?_) AllReadyIn.nil)
            · go_simp
              refine hK _ _ ?_
              clear hK K
              refine wpAnyIn_ready (rs := [5]) (by kernel_rfl) (by simp) ?_
              refine AllReadyIn.cons rfl (fun K hK => ?_) AllReadyIn.nil
              go_simp
              refine hK _ _ ?_
              clear hK K
              refine wpAnyIn_ready (rs := [6]) (by kernel_rfl) (by simp) ?_
              refine AllReadyIn.cons rfl (fun K hK => ?_) AllReadyIn.nil
              refine stepIn_append_own rfl _ _ 50 rfl w.heap.size 33 i0 (.agg #[.int .i64 0, .int .i64 0]) 2 16 Try.underlying50 hi hz0 hz1 hz2 rfl (by decide) v pre.length (hcs xs (vals pre)) rfl (hrowD.alloc _) ⟨W.heap.size, 0, none⟩ 1 1 [.int .i64 (k : Int), .int .i64 (g : Int)] rfl rfl HN.out (by simp [Value.oneCell']) (by unfold maxLen; omega) (by omega) (by simp; omega) ?_
              intro v' w2 hown' hgrow _
              obtain ⟨g', cap', rfl⟩ := ownsRow_succ hown'
              have A := HAp.out _ _ hown' hgrow
              have F := HFin.out _ _ _ hown' hgrow
              have hc1 := A.1.cell
              have hf1 := A.1.frozen
              try go_simp
              refine hK _ _ ?_
              clear hK K
              refine wpAnyIn_ready (rs := [7]) (by kernel_rfl) (by simp) ?_
              refine AllReadyIn.cons rfl (fun K hK => ?_) AllReadyIn.nil
              go_simp
              refine hK _ _ ?_
              clear hK K
              refine wpAnyIn_done (by kernel_rfl) ?_ _
              exact F
            · go_simp
              refine hK _ _ ?_
              clear hK K
              refine wpAnyIn_ready (rs := [0]) (by kernel_rfl) (by simp) ?_
              refine AllReadyIn.cons rfl (fun K hK => ?_) AllReadyIn.nil
              go_simp
              refine hK _ _ ?_
              clear hK K
              refine wpAnyIn_ready (rs := [6]) (by kernel_rfl) (by simp) ?_
              refine AllReadyIn.cons rfl (fun K hK => ?_) AllReadyIn.nil
              refine stepIn_append_own rfl _ _ 50 rfl w.heap.size 33 i0 (.agg #[.int .i64 0, .int .i64 0]) 2 16 Try.underlying50 hi hz0 hz1 hz2 rfl (by decide) v pre.length (hcs xs (vals pre)) rfl (hrowD.alloc _) ⟨W.heap.size, 0, none⟩ 1 1 [.int .i64 (k : Int), .int .i64 (g : Int)] rfl rfl HN.out (by simp [Value.oneCell']) (by unfold maxLen; omega) (by omega) (by simp; omega) ?_
              intro v' w2 hown' hgrow _
              obtain ⟨g', cap', rfl⟩ := ownsRow_succ hown'
              have A := HAp.out _ _ hown' hgrow
              have F := HFin.out _ _ _ hown' hgrow
              have hc1 := A.1.cell
              have hf1 := A.1.frozen
              try go_simp
              refine hK _ _ ?_
              clear hK K
              refine wpAnyIn_ready (rs := [7]) (by kernel_rfl) (by simp) ?_
              refine AllReadyIn.cons rfl (fun K hK => ?_) AllReadyIn.nil
              go_simp
              refine hK _ _ ?_
              clear hK K
              refine wpAnyIn_done (by kernel_rfl) ?_ _
              exact F
  case done =>
    rintro D ys W hD hys ⟨⟨⟨v, hv, hrow, _⟩, c1, c2⟩, hB⟩ hK
    have hl : ys.length = (sel xs isHeld).length := by rw [← hys]; simp
    rw [hys, hl] at hrow
    have hc := hv.cell
    gi_wp2
    refine ⟨by simp, .inl ⟨_, _, rfl, run_takeDeferred hK, ?_⟩⟩
    exact ⟨_, results_tmp rfl _ _ _, v, rfl, ownsRow_putObj hrow _ hK rfl, hB.trans (belowK_b (w := w) (Nat.le_refl _) W D _ _ (by omega) hK rfl rfl)⟩
  case stop =>
    rintro D c pre W _ _ h _
    exact h.elim
end Go.Proofs.Ytdompamilgbnnaa.aI
