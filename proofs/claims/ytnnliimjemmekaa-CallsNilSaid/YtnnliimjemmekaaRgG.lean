/-
  Contract: List (a ring's things in new memory).
-/
import Derived.Test.YtnnliimjemmekaaRgF
namespace Go.Proofs.Ytnnliimjemmekaa.rC
open Go.RowKit Go.Shelf

attribute [local go_sem] Oper.semAt_some

/-- Things, cell by cell. -/
def flat (l : List Th) : List Value := l.flatMap fun x => [.int .i64 x.1, .int .i64 x.2]
theorem flat_len (l : List Th) : (flat l).length = l.length * 2 := by
  induction l with
  | nil => rfl
  | cons a t ih => rw [flat, List.flatMap_cons, List.length_append, show (t.flatMap fun x => [Value.int .i64 x.1, .int .i64 x.2]) = flat t from rfl, ih]; simp; omega
theorem flat_snoc (l : List Th) (x : Th) : flat (l ++ [x]) = flat l ++ [.int .i64 x.1, .int .i64 x.2] := by simp [flat]
theorem flat_at (l : List Th) (k : Nat) (x : Th) (h : l[k]? = some x) : (flat l)[k * 2]? = some (.int .i64 x.1) ∧ (flat l)[k * 2 + 1]? = some (.int .i64 x.2) := flat2_at (fun x : Th => .int .i64 x.1) (fun x : Th => .int .i64 x.2) l k x h
/-- The two cells of a block that holds a thing. -/
theorem cells_two {W : World} {b : Nat} {u v : Value} {t : TypeId} (h : W.heap[b]? = some (.cells #[u, v] t)) : W.cell? ⟨b, 0, none⟩ = some u ∧ W.cell? ⟨b, 1, none⟩ = some v := by
  constructor <;> simp [World.cell?, h]
/-- A thing's block. -/
def objT (x : Th) : Obj := .cells #[.int .i64 x.1, .int .i64 x.2] 51

theorem chain_keep {S : Nat → Prop} {W w1 : World} {o : Obj} {row : Option Nat} (hg : (W.alloc o).grownBy w1 row) (hr : ∀ r, row = some r → ¬ S r) {B : Nat} (hB : ¬ S B) (v : Value) : Keep S W (w1.setCell ⟨B, 0, none⟩ v) := fun k x hs hk _ => by
  have hlt := (Array.getElem?_eq_some_iff.1 hk).1
  refine (Below.heap_setCell _ _ _ _ (fun e => hB (by have e2 : k = B := e; rw [← e2]; exact hs))).trans ((hg.block k (by simp; omega) (fun e => hr k e.symm hs)).trans ((Below.heap_alloc _ _ _ hlt).trans hk))

set_option maxRecDepth 100000 in
set_option maxHeartbeats 2000000 in
theorem list_in (n : Nat) (R G room first held : Nat) (L : Nat → Th) (w : World) (hL : RC w R G room first held L) :
    CallsIn Fence.wide (n + 6) Try.prog 29 #[.pointer (some ⟨R, 0, none⟩)] w fun e W' =>
      ∃ v, e = .returned v ∧ W'.ownsRow w.heap.size 51 2 v held (flat (cont held L)) ∧ Below w.heap.size w W' := by
  have hr0 := hL.hr
  have hr2 := hL.r2
  have h256 : held ≤ 256 := by omega
  have hRl : R < w.heap.size := cell_lt hL.c0
  have hGl : G < w.heap.size := cell_lt (hL.cs 0 (by have := hL.r1; omega))
  have HL := Lib.hid hL
  have HLen := Lib.hid (len_any hL)
  have HCl := Lib.hid (cont_len held L)
  clear hL hr0 hr2
  have hw : ∀ f, Fence.wide.fn f := fun _ => trivial
  have hd : Fence.wide.depth = none := rfl
  have h1 : 1 ≤ n + 6 := by omega
  obtain ⟨i0, hi, hz0, hz1, hz2⟩ := info_parts infoE
  refine callsIn_of_wp_marks Try.func29 rfl trivial ?_ rfl
  simp only [Try.ntmps29, List.size_toArray, List.length_cons, List.length_nil, Nat.reduceAdd, Nat.reduceSub, Array.replicate_succ, Array.replicate_zero, List.push_toArray, List.append_toArray, List.nil_append, List.cons_append]
  gi_wp2_with (first | (gi_at_call 31; refine (callsIn_wide.2 HLen.out).mono ?_; rintro e w' ⟨rfl, rfl⟩) | (gi_at_make; refine wpListIn_make_own _ rfl _ _ 46 rfl w.heap.size 51 i0 zT 2 Try.underlying46 hi hz0 hz1 _ _ _ held rfl rfl rfl (by rw [hz2]; omega) (by unfold maxLen; omega) (Nat.le_refl _) ?_; intro w1 hown hgrow) | (gi_at_call 37; refine (things_in _ _ _).mono ?_; rintro e w' ⟨rfl, rfl⟩))
  have hB1 : Below w.heap.size w w1 := (Below.refl _ _).grown hgrow (Nat.le_refl _) (fun k e => by cases e)
  obtain ⟨B, hB⟩ : ∃ B, B = w1.heap.size := ⟨_, rfl⟩
  have bO := Boxed.new w1 46 (.slice (some ⟨w.heap.size, 0, none⟩) 0 held)
  have bN := Boxed.new (w1.alloc (.cells #[.slice (some ⟨w.heap.size, 0, none⟩) 0 held] 46)) 63 (.pointer (some ⟨R, 0, none⟩))
  rw [World.size_alloc] at bN
  have hB0 : Below w.heap.size w ((w1.alloc (.cells #[.slice (some ⟨w.heap.size, 0, none⟩) 0 held] 46)).alloc (.cells #[.pointer (some ⟨R, 0, none⟩)] 63)) := (hB1.alloc hB1.size _).alloc (by have := hB1.size; simp; omega) _
  have bO2 := bO.alloc (.cells #[.pointer (some ⟨R, 0, none⟩)] 63)
  have hown2 := (hown.alloc (.cells #[.slice (some ⟨w.heap.size, 0, none⟩) 0 held] 46)).alloc (.cells #[.pointer (some ⟨R, 0, none⟩)] 63)
  have hsz : ((w1.alloc (.cells #[.slice (some ⟨w.heap.size, 0, none⟩) 0 held] 46)).alloc (.cells #[.pointer (some ⟨R, 0, none⟩)] 63)).heap.size = w1.heap.size + 1 + 1 := by simp
  have hs1 := hB1.size
  have hL0 := HL.out.same (hB0.block R hRl) (hB0.block G hGl)
  rw [← hB] at bO2 bN hsz hs1 ⊢
  obtain ⟨W0, hW0⟩ : ∃ W0, ((w1.alloc (.cells #[.slice (some ⟨w.heap.size, 0, none⟩) 0 held] 46)).alloc (.cells #[.pointer (some ⟨R, 0, none⟩)] 63)) = W0 := ⟨_, rfl⟩
  rw [hW0] at bO2 bN hB0 hL0 hown2 hsz ⊢
  clear hW0 hB bO hB1 hown hgrow
  have HC2 := Lib.hid (fun (x : Th) => show (objT x).isCells = true from rfl)
  refine wpIn_range_x rfl h1 (gf := 39) (lb := #[.pointer (some ⟨B + 1, 0, none⟩)]) rfl trivial (enters_of Try.func39 (by kernel_rfl) rfl)
    (ownFrom_pure _ _) (things_stops (n + 6 - 1) (S := fun k => k = B + 1 ∨ k = R ∨ k = G) (.inl rfl) (.inr (.inl rfl)) (.inr (.inr rfl)) W0 bN.cell hL0)
    (fun A B' hAB k o hk _ _ => (hAB.block k (Array.getElem?_eq_some_iff.1 hk).1 (by simp)).trans hk)
    (fun h k => h.trans k) (fun W l o o' _ ho hc _ _ => Keep.put W l o o' ho hc) (fun _ => rfl)
    (fun pre W => ((∃ v, Boxed W B 46 v ∧ W.ownsRow w.heap.size 51 2 v pre.length (flat pre) ∧ True) ∧ Boxed W (B + 1) 63 (.pointer (some ⟨R, 0, none⟩))) ∧ Below w.heap.size w W)
    (fun _ _ _ => False)
    (OwnFrom.and (OwnFrom.and (Own.from (holdsRow_own w.heap.size B 46 51 2 (fun pre : List Th => pre.length) (fun pre => flat pre) (fun _ _ => True)) _) (Own.from (boxed_own (B + 1) 63 (fun _ : List Th => .pointer (some ⟨R, 0, none⟩))) _)) (ownFrom_below (Nat.le_refl _) (by omega)))
    ?sta (fun _ _ _ _ _ hs _ _ => hs)
    ⟨⟨⟨_, bO2, hown2, trivial⟩, bN⟩, hB0⟩ objT (fun W x => Keep.alloc W _) HC2.out
    (fun x b => { tmps := #[.pointer (some ⟨R, 0, none⟩), undef, .slice none 0 0, .pointer (some ⟨B, 0, none⟩), .pointer (some ⟨b, 0, none⟩), .pointer (some ⟨R, 0, none⟩), .int .i64 (held : Int), .slice (some ⟨w.heap.size, 0, none⟩) 0 held, .pointer (some ⟨R, 0, none⟩), .func (.func 39) #[] #[.pointer (some ⟨B + 1, 0, none⟩)], tv x, undef, undef, undef, undef, undef], defers := [] }) ?assign ?body ?done ?stop
  case sta =>
    rintro s A B' ⟨⟨⟨v, hv, hrow, _⟩, hb⟩, hB⟩ hc
    exact ⟨⟨⟨v, hv.kept hc.grown0 (by simp), own_ch hrow hc (by simp), trivial⟩, hb.kept hc.grown0 (by simp)⟩, hB.trans ((hc.below _ (fun k hk => by simp at hk) hB.size))⟩
  case assign =>
    intro l x W K hK
    unfold objT at hK
    unfold tv
    gi_wp2
    exact hK
  case body =>
    rintro l pre x b W ⟨⟨⟨v, hv, hrow, _⟩, hb⟩, hB⟩ hlt hbo hbx
    have hlen : pre.length + 1 ≤ 256 := by
      have := hlt.length_le
      rw [HCl.out] at this
      simp at this
      omega
    have hc := hv.cell
    obtain ⟨x0, x1⟩ := cells_two hbx
    unfold tv
    gi_wp2_with (gi_at_builtin; refine wpListIn_append_own _ rfl _ _ 46 rfl w.heap.size 51 i0 zT 2 16 Try.underlying46 hi hz0 hz1 hz2 rfl (by decide) _ _ _ rfl (hrow.alloc _) ⟨W.heap.size, 0, none⟩ 1 1 [.int .i64 x.1, .int .i64 x.2] rfl rfl (cell_two_new _ _ _ _) (by simp [Value.oneCell']) (by unfold maxLen; omega) (by omega) (by have := hB.size; simp; omega) ?_; intro v' w1 hown' hgrow _; obtain ⟨g', cap', rfl⟩ := ownsRow_succ hown'; obtain ⟨hv1, hv2, hr2, hk2, hb2⟩ := hv.appended (by decide) hrow hB.size (by omega) hown' hgrow; have hc1 := hv1.cell; have hf1 := hv1.frozen)
    have hbx := ((hb.alloc (.cells #[.int .i64 x.1, .int .i64 x.2] 51)).kept hgrow (hb.not_row (by decide) hrow)).other (show B + 1 ≠ B by omega) (.slice (some ⟨g', 0, none⟩) (pre.length + 1) cap')
    have hg2 : (W.alloc (.cells #[.int .i64 x.1, .int .i64 x.2] 51)).grownBy w1 v.ownBlock := hgrow
    refine ⟨hk2.from _, chain_keep hg2 (fun r e => ?_) (by omega) _, ⟨⟨_, hv2, by rw [flat_snoc]; simpa using hr2, trivial⟩, hbx⟩, hB.trans hb2⟩
    have hlo := (hrow.lt r e).1
    have hne := hb.not_row (by decide) hrow
    rw [e] at hne
    simp at hne
    omega
  case done =>
    rintro D ys W hD rfl ⟨⟨⟨v, hv, hrow, _⟩, hb⟩, hB⟩ hK
    rw [HCl.out] at hrow
    have hc := hv.cell
    gi_wp2
    refine ⟨by simp, .inl ⟨_, _, rfl, run_takeDeferred hK, ?_⟩⟩
    exact ⟨_, results_tmp rfl _ _ _, v, rfl, ownsRow_putObj hrow _ hK rfl, hB.trans (belowK_b (w := w) (Nat.le_refl _) W D _ _ (by omega) hK rfl rfl)⟩
  case stop =>
    rintro D c pre W _ _ h _
    exact h.elim

/-- The ring in the blocks R and G as a list. -/
theorem RL.same {w w' : World} {R G room : Nat} {xs : List Th} (h : RL w R G room xs) (hR : w'.heap[R]? = w.heap[R]?) (hG : w'.heap[G]? = w.heap[G]?) : RL w' R G room xs := by
  obtain ⟨first, L, h, hL⟩ := h
  exact ⟨first, L, h.same hR hG, hL⟩
theorem RL.keep {S : Nat → Prop} {w w' : World} {R G room : Nat} {xs : List Th} (h : RL w R G room xs) (hk : Keep S w w') (hR : S R) (hG : S G) : RL w' R G room xs := by
  obtain ⟨first, L, h, hL⟩ := h
  exact ⟨first, L, h.keep hk hR hG, hL⟩
theorem cont_eq {L : Nat → Th} {xs : List Th} (h : ∀ j, j < xs.length → L j = xs[j]?.getD (0, 0)) : cont xs.length L = xs := by
  apply List.ext_getElem (by simp [cont])
  intro i h1 h2
  simp [cont, h i h2, h2]
theorem list_l {w : World} {R G room : Nat} {xs : List Th} (h : RL w R G room xs) :
    Calls Try.prog 29 #[.pointer (some ⟨R, 0, none⟩)] w fun e W' =>
      ∃ v, e = .returned v ∧ W'.ownsRow w.heap.size 51 2 v xs.length (flat xs) ∧ Below w.heap.size w W' := by
  obtain ⟨first, L, h, hL⟩ := h
  have := callsIn_wide.1 (list_in 0 R G room first xs.length L w h)
  rw [cont_eq hL] at this
  exact this
theorem at0_l {w : World} {R G room : Nat} {x : Th} {xs : List Th} (h : RL w R G room (x :: xs)) :
    Calls Try.prog 35 #[.pointer (some ⟨R, 0, none⟩), .int .i64 0] w fun e w' => e = .returned (.tuple #[.agg #[.int .i64 x.1, .int .i64 x.2], .bool true]) ∧ Ch [] w w' := by
  obtain ⟨first, L, h, hL⟩ := h
  have h0 : L 0 = x := hL 0 (by simp)
  have := at_some h 0 (by simp)
  rw [h0] at this
  exact this
theorem at0_out {w : World} {R G room : Nat} (h : RL w R G room []) :
    Calls Try.prog 35 #[.pointer (some ⟨R, 0, none⟩), .int .i64 0] w fun e w' => e = .returned (.tuple #[.agg #[.int .i64 0, .int .i64 0], .bool false]) ∧ Ch [] w w' := by
  obtain ⟨first, L, h, hL⟩ := h
  exact at_none h
end Go.Proofs.Ytnnliimjemmekaa.rC
