/-
  Contract: List (a mask's numbers in new memory).
-/
import Derived.Maps.AppendAt
import Derived.Test.YtlmepjpkaionbaaDoorMaskF
namespace Go.Proofs.YtlmepjpkaionbaaDoor.Mk
open Go.RowKit Go.Shelf

attribute [local go_sem] Oper.semAt_some

/-- Numbers as the elements of a slice of int. -/
def ivs (l : List Nat) : List Value := l.map fun (i : Nat) => Value.int .i64 (i : Int)

theorem ones_le (m : Nat) : (Pl.ones m).length ≤ 64 := by
  have := List.length_filter_le (fun i => m.testBit i) (List.range 64)
  simpa [Pl.ones] using this

set_option maxRecDepth 100000 in
set_option maxHeartbeats 2000000 in
theorem list_in (n : Nat) (m : Nat) (hm : m < 18446744073709551616) (w : World) (hT : Tab w) :
    CallsIn Fence.wide (n + 6) Tryd.prog 23 #[.int .u64 (m : Int)] w fun e W' =>
      ∃ v, e = .returned v ∧ W'.ownsRow w.heap.size 3 1 v (Pl.ones m).length (ivs (Pl.ones m)) ∧ Below w.heap.size w W' := by
  have hg : 0 < w.heap.size := by
    have h := hT 0 (by decide)
    apply Nat.lt_of_not_le
    intro hle
    simp [World.cell?, Array.getElem?_eq_none hle] at h
  have hpc := Pl.pc_ones m
  have h64 := ones_le m
  obtain ⟨c, hc⟩ : ∃ c, c = Pl.pc m := ⟨_, rfl⟩
  have hc64 : c ≤ 64 := by omega
  have HL := len_any m hm
  rw [← hc] at HL
  have HLen := Lib.hid HL
  have HM := Lib.hid hm
  have HT := Lib.hid hT
  clear hm hT HL hc hpc
  have hw : ∀ f, Fence.wide.fn f := fun _ => trivial
  have hd : Fence.wide.depth = none := rfl
  have h1 : 1 ≤ n + 6 := by omega
  obtain ⟨i0, hi, hz0, hz1, hz2⟩ := info_parts infoInt
  refine callsIn_of_wp_marks Tryd.func23 rfl trivial ?_ rfl
  simp only [Tryd.ntmps23, List.size_toArray, List.length_cons, List.length_nil, Nat.reduceAdd, Nat.reduceSub, Array.replicate_succ, Array.replicate_zero, List.push_toArray, List.append_toArray, List.nil_append, List.cons_append]
  gi_wp2_with (first | (gi_at_call 35; refine (callsIn_wide.2 (HLen.out _)).mono ?_; rintro e w' ⟨rfl, rfl⟩) | (gi_at_make; refine wpListIn_make_own _ rfl _ _ 54 rfl w.heap.size 3 i0 (.int .i64 0) 1 Tryd.underlying54 hi hz0 hz1 _ _ _ c rfl rfl rfl (by rw [hz2]; omega) (by unfold maxLen; omega) (Nat.le_refl _) ?_; intro w1 hown hgrow) | (gi_at_call 39; refine (numbers_in _ _ _).mono ?_; rintro e w' ⟨rfl, rfl⟩))
  have hB1 : Below w.heap.size w w1 := (Below.refl _ _).grown hgrow (Nat.le_refl _) (fun k e => by cases e)
  have bO := Boxed.new w1 54 (.slice (some ⟨w.heap.size, 0, none⟩) 0 c)
  have bN := Boxed.new (w1.alloc (.cells #[.slice (some ⟨w.heap.size, 0, none⟩) 0 c] 54)) 40 (.int .u64 (m : Int))
  rw [World.size_alloc] at bN
  have hB0 : Below w.heap.size w ((w1.alloc (.cells #[.slice (some ⟨w.heap.size, 0, none⟩) 0 c] 54)).alloc (.cells #[.int .u64 (m : Int)] 40)) := (hB1.alloc hB1.size _).alloc (by have := hB1.size; simp; omega) _
  have bO2 := bO.alloc (.cells #[.int .u64 (m : Int)] 40)
  have hown2 := (hown.alloc (.cells #[.slice (some ⟨w.heap.size, 0, none⟩) 0 c] 54)).alloc (.cells #[.int .u64 (m : Int)] 40)
  have hsz : ((w1.alloc (.cells #[.slice (some ⟨w.heap.size, 0, none⟩) 0 c] 54)).alloc (.cells #[.int .u64 (m : Int)] 40)).heap.size = w1.heap.size + 1 + 1 := by simp
  have hs1 := hB1.size
  have hT0 := HT.out.below hB0 hg
  obtain ⟨B, hB⟩ : ∃ B, B = w1.heap.size := ⟨_, rfl⟩
  rw [← hB] at bO2 bN hsz hs1 ⊢
  obtain ⟨W0, hW0⟩ : ∃ W0, ((w1.alloc (.cells #[.slice (some ⟨w.heap.size, 0, none⟩) 0 c] 54)).alloc (.cells #[.int .u64 (m : Int)] 40)) = W0 := ⟨_, rfl⟩
  rw [hW0] at bO2 bN hB0 hT0 hown2 hsz ⊢
  clear hW0 hB bO hB1 hown hgrow
  refine wpIn_rangeFunc_ownG rfl h1 (gf := 49) (lb := #[.pointer (some ⟨B + 1, 0, none⟩)]) rfl trivial (enters_of Tryd.func49 (by kernel_rfl) rfl)
    (numbers_stops (n + 6 - 1) (B + 1) w.heap.size hg m HM.out W0 (by omega) bN.cell hT0) belowK_t (belowK_b (by omega)) (Below.refl _ _) (fun _ => rfl)
    (fun pre W => (∃ v, Boxed W B 54 v ∧ W.ownsRow w.heap.size 3 1 v pre.length (ivs pre) ∧ True) ∧ Below w.heap.size w W)
    (fun _ _ _ => False)
    (OwnFrom.and (Own.from (holdsRow_own w.heap.size B 54 3 1 (fun pre : List Nat => pre.length) (fun pre => ivs pre) (fun _ _ => True)) _) (ownFrom_below (Nat.le_refl _) (by omega)))
    (fun _ _ _ _ _ hs _ _ => hs)
    ⟨⟨_, bO2, hown2, trivial⟩, hB0⟩
    (fun x => { tmps := #[.int .u64 (m : Int), undef, .slice none 0 0, .pointer (some ⟨B, 0, none⟩), .int .i64 ((x : Nat) : Int), .int .u64 (m : Int), .int .i64 (c : Int), .slice (some ⟨w.heap.size, 0, none⟩) 0 c, .int .u64 (m : Int), .func (.func 49) #[] #[.pointer (some ⟨B + 1, 0, none⟩)], .int .i64 ((x : Nat) : Int), undef, undef, undef, undef, undef], defers := [] }) ?assign ?body ?done ?stop
  case assign =>
    intro l x W K hK
    gi_wp2
    exact hK
  case body =>
    rintro l pre x W ⟨⟨v, hv, hrow, _⟩, hB⟩ hlt
    have hc := hv.cell
    gi_wp2_with (gi_at_builtin; refine wpListIn_append_own _ rfl _ _ 54 rfl w.heap.size 3 i0 (.int .i64 0) 1 8 Tryd.underlying54 hi hz0 hz1 hz2 rfl (by decide) _ _ _ rfl (hrow.alloc _) ⟨W.heap.size, 0, none⟩ 1 1 [.int .i64 (x : Int)] rfl rfl (cell_one_new _ _ _) (by simp [Value.oneCell']) (by unfold maxLen; omega) (by omega) (by have := hB.size; simp; omega) ?_; intro v' w1 hown' hgrow _; obtain ⟨g', cap', rfl⟩ := ownsRow_succ hown'; obtain ⟨hv1, hv2, hr2, hk2, hb2⟩ := hv.appended (by decide) hrow hB.size (by omega) hown' hgrow; have hc1 := hv1.cell; have hf1 := hv1.frozen)
    exact ⟨hk2.from _, hb2, ⟨_, hv2, by simpa [ivs] using hr2, trivial⟩, hB.trans hb2⟩
  case done =>
    rintro D ys W hD rfl ⟨⟨v, hv, hrow, _⟩, hB⟩ hK
    have hc := hv.cell
    gi_wp2
    refine ⟨by simp, .inl ⟨_, _, rfl, run_takeDeferred hK, ?_⟩⟩
    exact ⟨_, results_tmp rfl _ _ _, v, rfl, ownsRow_putObj hrow _ hK rfl, hB.trans (belowK_b (w := w) (Nat.le_refl _) W D _ _ (by omega) hK rfl rfl)⟩
  case stop =>
    rintro D c pre W _ _ h _
    exact h.elim

theorem list_any (m : Nat) (hm : m < 18446744073709551616) (w : World) (hT : Tab w) :
    Calls Tryd.prog 23 #[.int .u64 (m : Int)] w fun e W' =>
      ∃ v, e = .returned v ∧ W'.ownsRow w.heap.size 3 1 v (Pl.ones m).length (ivs (Pl.ones m)) ∧ Below w.heap.size w W' :=
  callsIn_wide.1 (list_in 0 m hm w hT)
end Go.Proofs.YtlmepjpkaionbaaDoor.Mk
