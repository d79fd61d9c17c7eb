/-
  Contract: List (a ring's things in new memory).
-/
import Derived.Test.YtkjkaihbpccdmaaRIF
namespace Go.Proofs.Ytkjkaihbpccdmaa.rI
open Go.RowKit Go.Shelf

attribute [local go_sem] Oper.semAt_some

def ivs (l : List Int) : List Value := l.map (Value.int .i64)

set_option maxRecDepth 100000 in
set_option maxHeartbeats 2000000 in
theorem list_in (n : Nat) (p : Option Addr) (held : Nat) (L : Nat → Int) (w : World) (hL : LR w.heap.size w p held L) :
    CallsIn Fence.wide (n + 6) Try.prog 18 #[.pointer p] w fun e W' =>
      ∃ v, e = .returned v ∧ W'.ownsRow w.heap.size 3 1 v held (ivs (cont held L)) ∧ Below w.heap.size w W' := by
  have h256 := hL.le
  have HL := Lib.hid hL
  have HLen := Lib.hid hL.len
  have HCl := Lib.hid (cont_len held L)
  clear hL
  have hw : ∀ f, Fence.wide.fn f := fun _ => trivial
  have hd : Fence.wide.depth = none := rfl
  have h1 : 1 ≤ n + 6 := by omega
  obtain ⟨i0, hi, hz0, hz1, hz2⟩ := info_parts infoE
  refine callsIn_of_wp_marks Try.func18 rfl trivial ?_ rfl
  simp only [Try.ntmps18, List.size_toArray, List.length_cons, List.length_nil, Nat.reduceAdd, Nat.reduceSub, Array.replicate_succ, Array.replicate_zero, List.push_toArray, List.append_toArray, List.nil_append, List.cons_append]
  gi_wp2_with (first | (gi_at_call 15; refine (callsIn_wide.2 HLen.out).mono ?_; rintro e w' ⟨rfl, rfl⟩) | (gi_at_make; refine wpListIn_make_own _ rfl _ _ 28 rfl w.heap.size 3 i0 (.int .i64 0) 1 Try.underlying28 hi hz0 hz1 _ _ _ held rfl rfl rfl (by rw [hz2]; omega) (by unfold maxLen; omega) (Nat.le_refl _) ?_; intro w1 hown hgrow) | (gi_at_call 28; refine (things_in _ _ _).mono ?_; rintro e w' ⟨rfl, rfl⟩))
  have hB1 : Below w.heap.size w w1 := (Below.refl _ _).grown hgrow (Nat.le_refl _) (fun k e => by cases e)
  have bO := Boxed.new w1 28 (.slice (some ⟨w.heap.size, 0, none⟩) 0 held)
  have bN := Boxed.new (w1.alloc (.cells #[.slice (some ⟨w.heap.size, 0, none⟩) 0 held] 28)) 23 (.pointer p)
  rw [World.size_alloc] at bN
  have hB0 : Below w.heap.size w ((w1.alloc (.cells #[.slice (some ⟨w.heap.size, 0, none⟩) 0 held] 28)).alloc (.cells #[.pointer p] 23)) := (hB1.alloc hB1.size _).alloc (by have := hB1.size; simp; omega) _
  have bO2 := bO.alloc (.cells #[.pointer p] 23)
  have hown2 := (hown.alloc (.cells #[.slice (some ⟨w.heap.size, 0, none⟩) 0 held] 28)).alloc (.cells #[.pointer p] 23)
  have hsz : ((w1.alloc (.cells #[.slice (some ⟨w.heap.size, 0, none⟩) 0 held] 28)).alloc (.cells #[.pointer p] 23)).heap.size = w1.heap.size + 1 + 1 := by simp
  have hs1 := hB1.size
  have hL0 := HL.out.below hB0
  obtain ⟨B, hB⟩ : ∃ B, B = w1.heap.size := ⟨_, rfl⟩
  rw [← hB] at bO2 bN hsz hs1 ⊢
  obtain ⟨W0, hW0⟩ : ∃ W0, ((w1.alloc (.cells #[.slice (some ⟨w.heap.size, 0, none⟩) 0 held] 28)).alloc (.cells #[.pointer p] 23)) = W0 := ⟨_, rfl⟩
  rw [hW0] at bO2 bN hB0 hL0 hown2 hsz ⊢
  clear hW0 hB bO hB1 hown hgrow
  refine wpIn_rangeFunc_ownG_of_H rfl h1 (gf := 35) (lb := #[.pointer (some ⟨B + 1, 0, none⟩)]) rfl trivial (enters_of Try.func35 (by kernel_rfl) rfl)
    (things_stops (n + 6 - 1) (B + 1) w.heap.size p held L W0 (by omega) bN hL0) kb_t (kb_b (by omega)) (Below.refl _ _) (fun _ => rfl)
    (fun pre W => ((∃ v, Boxed W B 28 v ∧ W.ownsRow w.heap.size 3 1 v pre.length (ivs pre) ∧ True) ∧ Boxed W (B + 1) 23 (.pointer p)) ∧ Below w.heap.size w W)
    (fun _ _ _ => False)
    (OwnFrom.and (OwnFrom.and (Own.from (holdsRow_own w.heap.size B 28 3 1 (fun pre : List Int => pre.length) (fun pre => ivs pre) (fun _ _ => True)) _) (Own.from (boxed_own (B + 1) 23 (fun _ : List Int => .pointer p)) _)) (ownFrom_below (Nat.le_refl _) (by omega)))
    (fun _ _ _ _ _ hs _ _ => hs)
    ⟨⟨⟨_, bO2, hown2, trivial⟩, bN⟩, hB0⟩
    (fun x => { tmps := #[.pointer p, undef, .slice none 0 0, .pointer (some ⟨B, 0, none⟩), .int .i64 x, .pointer p, .int .i64 (held : Int), .slice (some ⟨w.heap.size, 0, none⟩) 0 held, .pointer p, .func (.func 35) #[] #[.pointer (some ⟨B + 1, 0, none⟩)], .int .i64 x, undef, undef, undef, undef, undef], defers := [] }) ?assign ?body ?done ?stop kb_r
  case assign =>
    intro l x W K hK
    gi_wp2
    exact hK
  case body =>
    rintro l pre x W ⟨⟨⟨v, hv, hrow, _⟩, hb⟩, hB⟩ hlt
    have hc := hv.cell
    gi_wp2_with (gi_at_builtin; refine wpListIn_append_own _ rfl _ _ 28 rfl w.heap.size 3 i0 (.int .i64 0) 1 8 Try.underlying28 hi hz0 hz1 hz2 rfl (by decide) _ _ _ rfl (hrow.alloc _) ⟨W.heap.size, 0, none⟩ 1 1 [.int .i64 x] rfl rfl (cell_one_new _ _ _) (by simp [Value.oneCell']) (by unfold maxLen; omega) (by omega) (by have := hB.size; simp; omega) ?_; intro v' w1 hown' hgrow _; obtain ⟨g', cap', rfl⟩ := ownsRow_succ hown'; obtain ⟨hv1, hv2, hr2, hk2, hb2⟩ := hv.appended (by decide) hrow hB.size (by omega) hown' hgrow; have hc1 := hv1.cell; have hf1 := hv1.frozen)
    have hbx : ∀ u, Boxed W (B + 1) 23 u → Boxed (w1.setCell ⟨B, 0, none⟩ (.slice (some ⟨g', 0, none⟩) (pre.length + 1) cap')) (B + 1) 23 u := fun u hu =>
      ((hu.alloc _).kept hgrow (hu.not_row (by decide) hrow)).other (by omega) _
    exact ⟨hk2.from _, ⟨hb2, hbx⟩, ⟨⟨_, hv2, by simpa [ivs] using hr2, trivial⟩, hbx _ hb⟩, hB.trans hb2⟩
  case done =>
    rintro D ys W hD rfl ⟨⟨⟨v, hv, hrow, _⟩, hb⟩, hB⟩ hK
    rw [HCl.out] at hrow
    have hc := hv.cell
    gi_wp2
    refine ⟨by simp, .inl ⟨_, _, rfl, run_takeDeferred hK, ?_⟩⟩
    exact ⟨_, results_tmp rfl _ _ _, v, rfl, ownsRow_putObj hrow _ hK rfl, hB.trans (belowK_b (w := w) (Nat.le_refl _) W D _ _ (by omega) hK rfl rfl)⟩
  case stop =>
    rintro D c pre W _ _ h _
    exact h.elim

theorem list_any (p : Option Addr) (held : Nat) (L : Nat → Int) (w : World) (hL : LR w.heap.size w p held L) :
    Calls Try.prog 18 #[.pointer p] w fun e W' =>
      ∃ v, e = .returned v ∧ W'.ownsRow w.heap.size 3 1 v held (ivs (cont held L)) ∧ Below w.heap.size w W' :=
  callsIn_wide.1 (list_in 0 p held L w hL)
theorem list_nil (w : World) : Calls Try.prog 18 #[.pointer none] w fun e W' =>
      ∃ v, e = .returned v ∧ W'.ownsRow w.heap.size 3 1 v 0 [] ∧ Below w.heap.size w W' :=
  list_any none 0 (fun _ => 0) w (.inl ⟨rfl, rfl⟩)
end Go.Proofs.Ytkjkaihbpccdmaa.rI
