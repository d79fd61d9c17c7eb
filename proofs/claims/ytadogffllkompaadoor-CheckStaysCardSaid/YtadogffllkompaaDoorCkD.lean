/-
  Next: those that come behind an instruction, in new memory.
-/
import Derived.Maps.AppendAt
import Derived.Test.YtadogffllkompaaDoorCkCb
namespace Go.Proofs.YtadogffllkompaaDoor
open Go.RowKit Go.Shelf

attribute [local go_sem] Oper.semAt_some

theorem behind_stops (n : Nat) {L : List I5} {a : Option Addr} {len cap : Nat} {z : Int} (hL : L.length = len) (hlen : len ≤ 1000) (hfit : ∀ x ∈ L, Fit x) (B1 B2 n₀ : Nat) (w : World)
    (hb1 : Boxed w B1 27 (.slice a len cap)) (hb2 : Boxed w B2 3 (.int .i64 z)) (hI : InsAt w a L) :
    SeqStopsK Fence.wide n Tryd.prog 39 #[.pointer (some ⟨B1, 0, none⟩), .pointer (some ⟨B2, 0, none⟩)] (fun x : Nat => #[Value.int .i64 (x : Int)]) (Kc n₀ B1 B2)
      (fun ys => ys = bhl L z) (fun pre => pre <+: bhl L z) 2 w := fun l J Jx W hW hJ _ hY h0 => by
  have hb1' : Boxed W B1 27 (.slice a len cap) := (hW.block B1 hb1.lt).trans hb1
  have hb2' : Boxed W B2 3 (.int .i64 z) := (hW.block B2 hb2.lt).trans hb2
  have hI' := hI.ch (Ch.of_below (S := []) hW) (by simp)
  cases hz : inn len z with
  | false =>
    refine (behind1_none n l B1 B2 hz W hb1' hb2' h0).mono ?_
    rintro e W' ⟨he, rfl, hj⟩
    refine ⟨he, .inl ⟨[], ?_, hj⟩⟩
    unfold bhl
    rw [hL, hz]; rfl
  | true =>
    obtain ⟨k, rfl⟩ : ∃ k : Nat, z = (k : Int) := ⟨z.toNat, by unfold inn at hz; rw [decide_eq_true_eq] at hz; omega⟩
    have hk : k < len := by unfold inn at hz; rw [decide_eq_true_eq] at hz; omega
    have hbl : bhl L (k : Int) = prL len (ia L k) k := by unfold bhl; rw [hL, hz, if_pos rfl, Int.toNat_natCast]
    rcases hI' with h0 | ⟨b, off, rfl, hc⟩
    · rw [h0] at hL; simp at hL; omega
    · by_cases h73 : (ia L k).op = 73
      · refine (behind1_exit n l B1 B2 hL hk h73 W hc hb1' hb2' h0).mono ?_
        rintro e W' ⟨he, rfl, hj⟩
        refine ⟨he, .inl ⟨[], ?_, hj⟩⟩
        rw [hbl]
        unfold prL
        rw [if_pos h73]
      · have hx : Fit (ia L k) := by rw [← ia_at (by omega)]; exact hfit _ (List.getElem_mem _)
        refine (behind1_next n l B1 B2 n₀ hL hlen hk h73 hx J Jx (fun pre W m h => hJ pre W _ none h (grownBy_drewN W m) (fun r e => by cases e)) hY W hc hb1' hb2' h0).mono ?_
        rintro e W' ⟨he, hj⟩
        refine ⟨he, ?_⟩
        rw [hbl]
        rcases hj with hj | ⟨pre, hp, hj⟩
        · exact .inl ⟨_, rfl, hj⟩
        · exact .inr ⟨pre, hp, hj⟩

theorem own_at {w : World} {b e s : Nat} {v : Value} {n : Nat} {xs : List Value} (h : w.ownsRow b e s v n xs) (g : Nat) (hg : v.ownBlock = some g) : b ≤ g := by
  rcases h.2 with ⟨rfl, _⟩ | ⟨g', cap, cur, rfl, hb, _⟩
  · simp [Value.ownBlock] at hg
  · have : g' = g := by simpa [Value.ownBlock] using hg
    omega
/-- Numbers as the elements of a slice of int. -/
def ivs (l : List Nat) : List Value := l.map fun (i : Nat) => Value.int .i64 (i : Int)

set_option maxRecDepth 100000 in
set_option maxHeartbeats 2000000 in
theorem next_in (n : Nat) {L : List I5} {a : Option Addr} {len cap : Nat} {z : Int} (hL : L.length = len) (hlen : len ≤ 1000) (hfit : ∀ x ∈ L, Fit x) (w : World) (hI : InsAt w a L) :
    CallsIn Fence.wide (n + 6) Tryd.prog 13 #[.slice a len cap, .int .i64 z] w fun e W' =>
      ∃ v, e = .returned v ∧ W'.ownsRow w.heap.size 3 1 v (bhl L z).length (ivs (bhl L z)) ∧ Below w.heap.size w W' := by
  have HI := Lib.hid hI
  have h2 := bhl_len L z
  clear hI
  have hw : ∀ f, Fence.wide.fn f := fun _ => trivial
  have hd : Fence.wide.depth = none := rfl
  have h1 : 1 ≤ n + 6 := by omega
  obtain ⟨i0, hi, hz0, hz1, hz2⟩ := info_parts Mk.infoInt
  refine callsIn_of_wp_marks Tryd.func13 rfl trivial ?_ rfl
  simp only [Tryd.ntmps13, List.size_toArray, List.length_cons, List.length_nil, Nat.reduceAdd, Nat.reduceSub, Array.replicate_succ, Array.replicate_zero, List.push_toArray, List.append_toArray, List.nil_append, List.cons_append]
  gi_wp2_with (gi_at_call 24; refine (behind_in _ _ _ _ _ _).mono ?_; rintro e w' ⟨rfl, rfl⟩)
  have hB1 : Below w.heap.size w (w.alloc (.cells #[.slice none 0 0] 30)) := (Below.refl _ _).alloc (Nat.le_refl _) _
  obtain ⟨w1, hw1⟩ : ∃ w1, w.alloc (.cells #[.slice none 0 0] 30) = w1 := ⟨_, rfl⟩
  have bO : Boxed w1 w.heap.size 30 (.slice none 0 0) := by rw [← hw1]; exact Boxed.new w 30 _
  have hs1 : w1.heap.size = w.heap.size + 1 := by rw [← hw1]; simp
  rw [hw1] at hB1 ⊢
  obtain ⟨W0, hW0⟩ : ∃ W0, (w1.alloc (.cells #[.slice a len cap] 27)).alloc (.cells #[.int .i64 z] 3) = W0 := ⟨_, rfl⟩
  have bO2 : Boxed W0 w.heap.size 30 (.slice none 0 0) := by rw [← hW0]; exact (bO.alloc _).alloc _
  have b1 : Boxed W0 (w.heap.size + 1) 27 (.slice a len cap) := by rw [← hW0, ← hs1]; exact (Boxed.new w1 27 _).alloc _
  have b2 : Boxed W0 (w.heap.size + 1 + 1) 3 (.int .i64 z) := by
    rw [← hW0, ← hs1]; have := Boxed.new (w1.alloc (.cells #[.slice a len cap] 27)) 3 (.int .i64 z)
    rwa [World.size_alloc] at this
  have hB0 : Below w.heap.size w W0 := by rw [← hW0]; exact (hB1.alloc hB1.size _).alloc (by simp; omega) _
  have hsz : W0.heap.size = w.heap.size + 1 + 1 + 1 := by rw [← hW0, ← hs1]; simp
  have hI0 := HI.out.ch (Ch.of_below (S := []) hB0) (by simp)
  have hbeh := behind_stops (n + 6 - 1) hL hlen hfit (w.heap.size + 1) (w.heap.size + 1 + 1) w.heap.size W0 b1 b2 hI0
  rw [hW0]
  clear hW0 hB1 bO hs1 hw1
  refine wpIn_rangeFunc_ownG rfl h1 (gf := 39) (lb := #[.pointer (some ⟨w.heap.size + 1, 0, none⟩), .pointer (some ⟨w.heap.size + 1 + 1, 0, none⟩)]) rfl trivial (enters_of Tryd.func39 (by kernel_rfl) rfl)
    hbeh kc_t (kc_b (by omega)) (Below.refl _ _) (fun _ => rfl)
    (fun pre W => (∃ v, Boxed W w.heap.size 30 v ∧ W.ownsRow W0.heap.size 3 1 v pre.length (ivs pre) ∧ True) ∧ Below w.heap.size w W ∧ Below w.heap.size W0 W)
    (fun _ _ _ => False)
    (OwnFrom.and (Own.from (holdsRow_own W0.heap.size w.heap.size 30 3 1 (fun pre : List Nat => pre.length) (fun pre => ivs pre) (fun _ _ => True)) _) (OwnFrom.and (ownFrom_below (Nat.le_refl _) (by omega)) (ownFrom_below (by omega) (by omega))))
    (fun _ _ _ _ _ hs _ _ => hs)
    ⟨⟨_, bO2, World.ownsRow_nil _ _ _ _, trivial⟩, hB0, Below.refl _ _⟩
    (fun x => { tmps := #[.slice a len cap, .int .i64 z, undef, undef, .slice none 0 0, .pointer (some ⟨w.heap.size, 0, none⟩), .int .i64 ((x : Nat) : Int), .slice a len cap, .int .i64 z, .func (.func 39) #[] #[.pointer (some ⟨w.heap.size + 1, 0, none⟩), .pointer (some ⟨w.heap.size + 1 + 1, 0, none⟩)], .int .i64 ((x : Nat) : Int), undef, undef, undef, undef, undef], defers := [] }) ?assign ?body ?done ?stop
  case assign =>
    intro l x W K hK
    gi_wp2
    exact hK
  case body =>
    rintro l pre x W ⟨⟨v, hv, hrow, _⟩, hB, hBW⟩ hlt
    have hc := hv.cell
    have hs := hBW.size
    gi_wp2_with (gi_at_builtin; refine wpListIn_append_own _ rfl _ _ 30 rfl W0.heap.size 3 i0 (.int .i64 0) 1 8 Tryd.underlying30 hi hz0 hz1 hz2 rfl (by decide) _ _ _ rfl (hrow.alloc _) ⟨W.heap.size, 0, none⟩ 1 1 [.int .i64 (x : Int)] rfl rfl (cell_one_new _ _ _) (by simp [Value.oneCell']) (by unfold maxLen; omega) (by omega) (by simp; omega) ?_; intro v' w1 hown' hgrow _; obtain ⟨g', cap', rfl⟩ := ownsRow_succ hown'; obtain ⟨hv1, hv2, hr2, hk2, hb2⟩ := hv.appended (by decide) (own_mono hrow (by omega : w.heap.size ≤ W0.heap.size)) (by omega) (Nat.le_refl _) (own_mono hown' (by omega)) hgrow; have hc1 := hv1.cell; have hf1 := hv1.frozen)
    have q1 : ∀ u, Boxed W (w.heap.size + 1) 27 u → Boxed (w1.setCell ⟨w.heap.size, 0, none⟩ (.slice (some ⟨g', 0, none⟩) (pre.length + 1) cap')) (w.heap.size + 1) 27 u := fun u hu =>
      ((Boxed.alloc hu _).kept hgrow (Boxed.not_row hu (by decide) hrow)).other (by omega) _
    have q2 : ∀ u, Boxed W (w.heap.size + 1 + 1) 3 u → Boxed (w1.setCell ⟨w.heap.size, 0, none⟩ (.slice (some ⟨g', 0, none⟩) (pre.length + 1) cap')) (w.heap.size + 1 + 1) 3 u := fun u hu =>
      ((Boxed.alloc hu _).kept hgrow (fun e => by have := own_at hrow _ e.symm; omega)).other (by omega) _
    have hb3 : Below w.heap.size W (w1.setCell ⟨w.heap.size, 0, none⟩ (.slice (some ⟨g', 0, none⟩) (pre.length + 1) cap')) := hb2
    have hr3 := own_ch hown' ((Ch.refl [w.heap.size] w1).setCell (p := ⟨w.heap.size, 0, none⟩) (by simp) (.slice (some ⟨g', 0, none⟩) (pre.length + 1) cap')) (by intro k hk; simp at hk; omega)
    exact ⟨hk2.from _, ⟨hb3, q1, q2⟩, ⟨_, hv2, by simpa [ivs] using hr3, trivial⟩, hB.trans hb3, hBW.trans hb3⟩
  case done =>
    rintro D ys W hD rfl ⟨⟨v, hv, hrow, _⟩, hB, _⟩ hK
    have hc := hv.cell
    gi_wp2
    refine ⟨by simp, .inl ⟨_, _, rfl, run_takeDeferred hK, ?_⟩⟩
    exact ⟨_, results_tmp rfl _ _ _, v, rfl, own_mono (ownsRow_putObj hrow _ hK rfl) (by omega), hB.trans (belowK_b (w := w) (Nat.le_refl _) W D _ _ (by omega) hK rfl rfl)⟩
  case stop =>
    rintro D c pre W _ _ h _
    exact h.elim

theorem next_any {L : List I5} {a : Option Addr} {len cap : Nat} {z : Int} (hL : L.length = len) (hlen : len ≤ 1000) (hfit : ∀ x ∈ L, Fit x) (w : World) (hI : InsAt w a L) :
    Calls Tryd.prog 13 #[.slice a len cap, .int .i64 z] w fun e W' =>
      ∃ v, e = .returned v ∧ W'.ownsRow w.heap.size 3 1 v (bhl L z).length (ivs (bhl L z)) ∧ Ch [] w W' :=
  (callsIn_wide.1 (next_in 0 hL hlen hfit w hI)).mono fun _ _ ⟨v, h1, h2, h3⟩ => ⟨v, h1, h2, Ch.of_below h3⟩
end Go.Proofs.YtadogffllkompaaDoor
