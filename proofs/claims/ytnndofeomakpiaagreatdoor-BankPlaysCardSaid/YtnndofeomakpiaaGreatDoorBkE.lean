/-
  Late.
-/
import Derived.Test.YtnndofeomakpiaaGreatDoorBkD
namespace Go.Proofs.YtnndofeomakpiaaGreatDoor
open Go.RowKit Go.Maps Go.Shelf

attribute [local go_sem] Oper.semAt_some

theorem with_one {M : Nat} (hM : M < 18446744073709551616) (i : Nat) (W : World) (t : TypeId) :
    Calls Tryz.prog 49 #[.int .u64 (M : Int), .slice (some ⟨W.heap.size, 0, none⟩) 1 1] (W.alloc (.cells #[.int .i64 ((i : Nat) : Int)] t)) fun e w' => e = .returned (.int .u64 ((Mk.withN M [(i : Int)] : Nat) : Int)) ∧ (W.alloc (.cells #[.int .i64 ((i : Nat) : Int)] t)) = w' :=
  Mk.with_any M hM (some ⟨W.heap.size, 0, none⟩) 1 [(i : Int)] _ (by simp) (.inr ⟨W.heap.size, 0, rfl, fun j hj => by
    obtain rfl : j = 0 := by simpa using hj
    rw [World.cell?_alloc_at _ _ _ _ rfl]
    rfl⟩)
set_option maxRecDepth 100000 in
set_option maxHeartbeats 2000000 in
theorem blate_in (m : Nat) {w : World} {base n : Nat} {p : Option Addr} {f : Nat → Wh} (h : BO w base p n f) (hT : Mk.Tab w) (d : Int) :
    CallsIn Fence.wide (m + 6) Tryz.prog 22 #[.pointer p, .int .u64 d] w fun e W' =>
      e = .returned (.int .u64 ((Mk.withN 0 ((selC n fun i => lateB (f i).L d).map fun (i : Nat) => (i : Int)) : Nat) : Int)) ∧ Ch [] w W' := by
  obtain ⟨ML, hML⟩ : ∃ ML, ML = Mk.withN 0 ((selC n fun i => lateB (f i).L d).map fun (i : Nat) => (i : Int)) := ⟨_, rfl⟩
  rw [← hML]
  have HML := Lib.hid hML
  have HO := Lib.hid h
  have HT := Lib.hid hT
  have htab := tab_lt hT
  clear h hT hML
  have hw : ∀ f, Fence.wide.fn f := fun _ => trivial
  have hd : Fence.wide.depth = none := rfl
  have h1 : 1 ≤ m + 6 := by omega
  refine callsIn_of_wp_marks Tryz.func22 rfl trivial ?_ rfl
  simp only [Tryz.ntmps22, List.size_toArray, List.length_cons, List.length_nil, Nat.reduceAdd, Nat.reduceSub, Array.replicate_succ, Array.replicate_zero, List.push_toArray, List.append_toArray, List.nil_append, List.cons_append]
  gi_wp2_with (gi_at_call 35; refine (those_in _ _ _ _ _).mono ?_; rintro e w' ⟨rfl, rfl⟩)
  obtain ⟨W1, hW1⟩ : ∃ W1, W1 = w.alloc (.cells #[.int .u64 d] 22) := ⟨_, rfl⟩
  obtain ⟨W2, hW2⟩ : ∃ W2, W2 = W1.alloc (.cells #[.int .u64 0] 64) := ⟨_, rfl⟩
  obtain ⟨W3, hW3⟩ : ∃ W3, W3 = W2.alloc (.cells #[.pointer p] 25) := ⟨_, rfl⟩
  obtain ⟨W0, hW0⟩ : ∃ W0, W0 = W3.alloc (.cells #[.func (.func 47) #[] #[.pointer (some ⟨w.heap.size, 0, none⟩)]] 89) := ⟨_, rfl⟩
  have s1 : W1.heap.size = w.heap.size + 1 := by rw [hW1]; simp
  have s2 : W2.heap.size = w.heap.size + 1 + 1 := by rw [hW2]; simp [s1]
  have s3 : W3.heap.size = w.heap.size + 1 + 1 + 1 := by rw [hW3]; simp [s2]
  have hsz : W0.heap.size = w.heap.size + 1 + 1 + 1 + 1 := by rw [hW0]; simp [s3]
  have bx : Boxed W0 w.heap.size 22 (.int .u64 d) := by
    rw [hW0, hW3, hW2, hW1]; exact (((Boxed.new w _ _).alloc _).alloc _).alloc _
  have bm : Boxed W0 (w.heap.size + 1) 64 (.int .u64 0) := by
    rw [hW0, hW3, hW2, ← s1]; exact ((Boxed.new W1 _ _).alloc _).alloc _
  have b1 : Boxed W0 (w.heap.size + 1 + 1) 25 (.pointer p) := by
    rw [hW0, hW3, ← s2]; exact (Boxed.new W2 _ _).alloc _
  have b2 : Boxed W0 (w.heap.size + 1 + 1 + 1) 89 (.func (.func 47) #[] #[.pointer (some ⟨w.heap.size, 0, none⟩)]) := by
    rw [hW0, ← s3]; exact Boxed.new W3 _ _
  have hc0 : Ch [] w W0 := by rw [hW0, hW3, hW2, hW1]; exact ((((Ch.refl [] w).alloc _).alloc _).alloc _).alloc _
  rw [← hW1, ← hW2, ← hW3, ← hW0]
  clear hW0 hW1 hW2 hW3 s1 s2 s3
  have hq0 : GQ (fun _ => False) w (w.heap.size + 1 + 1) (w.heap.size + 1 + 1 + 1) w.heap.size (.pointer p) (.func (.func 47) #[] #[.pointer (some ⟨w.heap.size, 0, none⟩)]) (.int .u64 d) W0 := ⟨.quiet hc0, b1.cell, b2.cell, bx.cell⟩
  clear hc0 b1 b2 bx
  refine wpIn_range_p rfl h1 (gf := 56) (lb := #[.pointer (some ⟨w.heap.size + 1 + 1, 0, none⟩), .pointer (some ⟨w.heap.size + 1 + 1 + 1, 0, none⟩)]) rfl trivial (enters_of Tryz.func56 (by kernel_rfl) rfl)
    (those_stops (m + 6 - 1) (Good := GQ (fun _ => False) w (w.heap.size + 1 + 1) (w.heap.size + 1 + 1 + 1) w.heap.size (.pointer p) (.func (.func 47) #[] #[.pointer (some ⟨w.heap.size, 0, none⟩)]) (.int .u64 d)) (p := p) (n := n) (Bs := fun i => (f i).B) (F := 47) (lb := #[.pointer (some ⟨w.heap.size, 0, none⟩)]) (q := fun i => lateB (f i).L d)
      ⟨enters_of Tryz.func47 (by kernel_rfl) rfl, fun W g => g.c1, fun W g => g.c2, fun W g => (HO.out.quiet g.q).bat, fun W g i hi => by
        rw [app1]
        exact late1_any ((HO.out.quiet g.q).wh hi) (HT.out.below (g.q.below w.heap.size (fun k hk => by simp at hk) (Nat.le_refl _)) htab) _ g.cx, fun W W' g hc => g.quiet hc⟩ W0 (fun W hB => hq0.quiet (.of_below hB)))
    (fun A B hAB k o hk _ _ => (hAB.block k (Array.getElem?_eq_some_iff.1 hk).1 (by simp)).trans hk)
    (fun h k g => k (h g)) (fun W l o o' hl ho hc _ _ g => gq_b l o o' (by omega) ho hc g) (fun _ => rfl)
    (fun pre W => GQ (fun _ => False) w (w.heap.size + 1 + 1) (w.heap.size + 1 + 1 + 1) w.heap.size (.pointer p) (.func (.func 47) #[] #[.pointer (some ⟨w.heap.size, 0, none⟩)]) (.int .u64 d) W ∧ Boxed W (w.heap.size + 1) 64 (.int .u64 ((Mk.withN 0 ((valsC pre).map fun (i : Nat) => (i : Int)) : Nat) : Int)))
    (fun _ _ _ => False)
    (OwnFrom.and (ownFrom_gq (by omega)) (Own.from (boxed_own (w.heap.size + 1) 64 (fun pre : List (SuchC n fun i => lateB (f i).L d) => .int .u64 ((Mk.withN 0 ((valsC pre).map fun (i : Nat) => (i : Int)) : Nat) : Int))) _))
    (fun s A B hs hc => ⟨hs.1.quiet hc, hs.2.kept hc.grown0 (by simp)⟩)
    (fun _ _ _ _ _ hs _ _ => hs)
    ⟨hq0, bm⟩
    (fun x => { tmps := #[.pointer p, .int .u64 d, undef, .pointer (some ⟨w.heap.size, 0, none⟩), .int .u64 0, .pointer (some ⟨w.heap.size + 1, 0, none⟩), .int .i64 ((x.1 : Nat) : Int), .pointer p, .func (.func 47) #[] #[.pointer (some ⟨w.heap.size, 0, none⟩)], .func (.func 56) #[] #[.pointer (some ⟨w.heap.size + 1 + 1, 0, none⟩), .pointer (some ⟨w.heap.size + 1 + 1 + 1, 0, none⟩)], .int .i64 ((x.1 : Nat) : Int), .pointer (some ⟨(f x.1).B, 0, none⟩), undef, undef, undef, undef, undef], defers := [] }) ?assign ?body ?done ?stop
  case assign =>
    intro l x W K hK
    gi_wp2
    exact hK
  case body =>
    rintro l pre x W ⟨hq, hb⟩ _
    obtain ⟨i, hi⟩ : ∃ i, i = x.1 := ⟨_, rfl⟩
    obtain ⟨M, hM⟩ : ∃ M, M = Mk.withN 0 ((valsC pre).map fun (i : Nat) => (i : Int)) := ⟨_, rfl⟩
    have hM2 : M < 18446744073709551616 := by rw [hM]; exact Mk.withN_lt 0 _ (by decide)
    rw [← hM] at hb
    rw [← hi]
    have HC := Lib.hid (with_one hM2 i W 3)
    have hc := (hb.alloc (.cells #[.int .i64 ((i : Nat) : Int)] 3)).cell
    have hf := (hb.alloc (.cells #[.int .i64 ((i : Nat) : Int)] 3)).frozen
    have hc0 := hb.cell
    have HQ := Lib.hid hq
    have HB := Lib.hid (hb.alloc (.cells #[.int .i64 ((i : Nat) : Int)] 3))
    have HI := Lib.hid hi
    have HM := Lib.hid hM
    clear hq hb hi hM hM2 hq0 bm
    gi_wp2_with (gi_at_call 49; with_reducible refine (CallsIn.inRound l (callsIn_wide.2 HC.out)).mono ?_; rintro e w' ⟨rfl, rfl⟩)
    have hch : ChP (fun k => k = w.heap.size + 1) W ((W.alloc (.cells #[.int .i64 ((i : Nat) : Int)] 3)).setCell ⟨w.heap.size + 1, 0, none⟩ (.int .u64 ((Mk.withN M [(i : Int)] : Nat) : Int))) := ChP.setCell (S := fun k => k = w.heap.size + 1) ((ChP.refl _ W).alloc _) (p := ⟨w.heap.size + 1, 0, none⟩) (.inl rfl) _
    refine ⟨hch.keeps (by omega), fun g => g.step hch (fun k e => .inr (by omega)) (by omega) (by omega) (by omega), HQ.out.step hch (fun k e => .inr (by omega)) (by omega) (by omega) (by omega), ?_⟩
    have := HB.out.set (.int .u64 ((Mk.withN M [(i : Int)] : Nat) : Int))
    rw [HM.out, lateM_snoc, HI.out] at this
    rw [HM.out, lateM_snoc, HI.out]
    simpa [valsC] using this
  case done =>
    rintro D ys W hD hys ⟨hq, hb⟩ hK
    rw [hys, ← HML.out] at hb
    have hc := hb.cell
    have HQ := Lib.hid hq
    clear hq hb hq0 bm hys
    gi_wp2
    refine ⟨by simp, .inl ⟨_, _, rfl, run_takeDeferred hK, ?_⟩⟩
    exact ⟨_, results_tmp rfl _ _ _, rfl, (gq_b D _ _ (by omega) hK rfl HQ.out).q⟩
  case stop =>
    rintro D c pre W _ _ h _
    exact h.elim
theorem blate_any {w : World} {base n : Nat} {p : Option Addr} {f : Nat → Wh} (h : BO w base p n f) (hT : Mk.Tab w) (d : Int) :
    Calls Tryz.prog 22 #[.pointer p, .int .u64 d] w fun e W' =>
      e = .returned (.int .u64 ((Mk.withN 0 ((selC n fun i => lateB (f i).L d).map fun (i : Nat) => (i : Int)) : Nat) : Int)) ∧ Ch [] w W' := callsIn_wide.1 (blate_in 0 h hT d)
end Go.Proofs.YtnndofeomakpiaaGreatDoor
