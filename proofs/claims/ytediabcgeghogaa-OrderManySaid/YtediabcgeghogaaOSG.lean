/-
  An order of keys of string: List.
-/
import Derived.Test.YtediabcgeghogaaOSF
namespace Go.Proofs.Ytediabcgeghogaa.oS
open Go.RowKit Go.Maps Go.Sort Go.Shelf

attribute [local go_sem] Oper.semAt_some

def kvs (l : List K) : List Value := l.map kv
theorem infoE : (Try.prog.info? 9).map (fun i => (i.zero, i.size, i.bytes)) = some (some (kv k0), 1, 16) := by kernel_rfl
theorem kvs_one (l : List K) : ∀ v ∈ kvs l, v.oneCell' = true := by intro v hv; obtain ⟨k, _, rfl⟩ := List.mem_map.1 hv; rfl

set_option maxRecDepth 100000 in
set_option maxHeartbeats 2000000 in
theorem list_in (n : Nat) (p : Option Addr) (L : List Ent) (w : World) (hO : OG w p L) :
    CallsIn Fence.wide (n + 6) Try.prog 23 #[.pointer p] w fun e W' =>
      ∃ v, e = .returned v ∧ W'.ownsRow w.heap.size 9 1 v (ks L).length (kvs (ks L)) ∧ Ch [] w W' := by
  have h64 := hO.le
  have HO := Lib.hid hO
  have HLen := Lib.hid hO.len
  obtain ⟨m, hm⟩ : ∃ m, m = L.length := ⟨_, rfl⟩
  have HM := Lib.hid (show m = (ks L).length by rw [hm]; simp [ks])
  rw [← hm] at h64 HLen
  clear hO hm
  have hw : ∀ f, Fence.wide.fn f := fun _ => trivial
  have hd : Fence.wide.depth = none := rfl
  have h1 : 1 ≤ n + 6 := by omega
  obtain ⟨i0, hi, hz0, hz1, hz2⟩ := info_parts infoE
  refine callsIn_of_wp_marks Try.func23 rfl trivial ?_ rfl
  simp only [Try.ntmps23, List.size_toArray, List.length_cons, List.length_nil, Nat.reduceAdd, Nat.reduceSub, Array.replicate_succ, Array.replicate_zero, List.push_toArray, List.append_toArray, List.nil_append, List.cons_append]
  gi_wp2_with (first | (gi_at_call 25; refine (callsIn_wide.2 HLen.out).mono ?_; rintro e w' ⟨rfl, hww⟩; subst w') | (gi_at_make; refine wpListIn_make_own _ rfl _ _ 46 rfl w.heap.size 9 i0 (kv k0) 1 Try.underlying46 hi hz0 hz1 _ _ _ m rfl rfl rfl (by rw [hz2]; omega) (by unfold maxLen; omega) (Nat.le_refl _) ?_; intro w1 hown hgrow) | (gi_at_call 29; refine (keys_in _ _ _).mono ?_; rintro e w' ⟨rfl, rfl⟩))
  obtain ⟨W2, hW2⟩ : ∃ W2, W2 = w1.alloc (.cells #[.slice (some ⟨w.heap.size, 0, none⟩) 0 m] 46) := ⟨_, rfl⟩
  obtain ⟨W0, hW0⟩ : ∃ W0, W0 = W2.alloc (.cells #[.pointer p] 48) := ⟨_, rfl⟩
  have s2 : W2.heap.size = w1.heap.size + 1 := by rw [hW2]; simp
  have hsz : W0.heap.size = w1.heap.size + 1 + 1 := by rw [hW0]; simp [s2]
  have hc1 : Ch [] w w1 := (Ch.refl [] w).kept hgrow (by simp)
  have q2 : Ch [] w1 W2 := by rw [hW2]; exact (Ch.refl [] _).alloc _
  have q0 : Ch [] W2 W0 := by rw [hW0]; exact (Ch.refl [] _).alloc _
  have hc0 : Ch [] w W0 := (hc1.trans q2).trans q0
  have hs1 := hc1.size
  obtain ⟨B, hB⟩ : ∃ B, B = w1.heap.size := ⟨_, rfl⟩
  have bO : Boxed W0 B 46 (.slice (some ⟨w.heap.size, 0, none⟩) 0 m) := by
    rw [hW0, hW2, hB]; exact (Boxed.new w1 _ _).alloc _
  have bN : Boxed W0 (B + 1) 48 (.pointer p) := by
    rw [hW0, hB, ← s2]; exact Boxed.new W2 _ _
  have hown0 : W0.ownsRow w.heap.size 9 1 (.slice (some ⟨w.heap.size, 0, none⟩) 0 m) 0 [] := by
    rw [hW0, hW2]; exact (hown.alloc _).alloc _
  rw [← hW2, ← hW0]
  rw [← hB] at hsz hs1 ⊢
  clear hW0 hW2 s2 q2 q0 hB hc1 hown hgrow
  refine wpIn_range_p rfl h1 (gf := 34) (lb := #[.pointer (some ⟨B + 1, 0, none⟩)]) rfl trivial (enters_of Try.func34 (by kernel_rfl) rfl)
    (keys_stops (n + 6 - 1) W0 bN.cell (HO.out.quiet hc0))
    (fun A B hAB k o hk _ _ => (hAB.block k (Array.getElem?_eq_some_iff.1 hk).1 (by simp)).trans hk)
    (fun h g => h.trans g) (fun W l o o' _ ho hc _ _ => KpT.put W l o o' ho hc) (fun _ => rfl)
    (fun pre W => (∃ v, Boxed W B 46 v ∧ W.ownsRow w.heap.size 9 1 v pre.length (kvs pre) ∧ True) ∧ Ch [] w W)
    (fun _ _ _ => False)
    (OwnFrom.and (Own.from (holdsRow_own w.heap.size B 46 9 1 (fun pre : List K => pre.length) (fun pre => kvs pre) (fun _ _ => True)) _) (ownFrom_ch (by omega)))
    (fun s A B' hs hc => by
      obtain ⟨⟨v, hv, hr, _⟩, hq⟩ := hs
      exact ⟨⟨v, hv.kept hc.grown0 (by simp), own_ch hr hc (by simp), trivial⟩, hq.trans hc⟩)
    (fun _ _ _ _ _ hs _ _ => hs)
    ⟨⟨_, bO, hown0, trivial⟩, hc0⟩
    (fun x => { tmps := #[.pointer p, undef, .slice none 0 0, .pointer (some ⟨B, 0, none⟩), kv x, .pointer p, .int .i64 (m : Int), .slice (some ⟨w.heap.size, 0, none⟩) 0 m, .pointer p, .func (.func 34) #[] #[.pointer (some ⟨B + 1, 0, none⟩)], kv x, undef, undef, undef, undef, undef], defers := [] }) ?assign ?body ?done ?stop
  case assign =>
    intro l x W K hK
    gi_wp2
    exact hK
  case body =>
    rintro l pre x W ⟨⟨v, hv, hrow, _⟩, hq⟩ hpre
    have hc := hv.cell
    have hlt : pre.length < 64 := by
      have := hpre.length_le
      rw [← HM.out] at this
      simp at this
      omega
    gi_wp2_with (gi_at_builtin; refine wpListIn_append_own _ rfl _ _ 46 rfl w.heap.size 9 i0 (kv k0) 1 16 Try.underlying46 hi hz0 hz1 hz2 rfl (by decide) _ _ _ rfl (hrow.alloc _) ⟨W.heap.size, 0, none⟩ 1 1 [kv x] rfl rfl (cell_one_new _ _ _) (by simp [Value.oneCell']) (by unfold maxLen; omega) (by omega) (by have := hq.size; simp; omega) ?_; intro v' w3 hown' hgrow _; obtain ⟨g', cap', rfl⟩ := ownsRow_succ hown'; obtain ⟨hv1, hv2, hr2, hk2, hb2⟩ := hv.appended (by decide) hrow hq.size (by omega) hown' hgrow; have hc1 := hv1.cell; have hf1 := hv1.frozen)
    refine ⟨hk2.from _, ?_, ⟨_, hv2, by simpa [kvs] using hr2, trivial⟩, Ch.of_below ((hq.below w.heap.size (by simp) (Nat.le_refl _)).trans hb2)⟩
    exact (((KpT.ch ((Ch.refl [] W).alloc _)).grown (hrow.alloc _) (by decide) hgrow).set hv1 (by decide) _)
  case done =>
    rintro D ys W hD rfl ⟨⟨v, hv, hrow, _⟩, hq⟩ hK
    have hc := hv.cell
    gi_wp2
    refine ⟨by simp, .inl ⟨_, _, rfl, run_takeDeferred hK, ?_⟩⟩
    exact ⟨_, results_tmp rfl _ _ _, v, rfl, ownsRow_putObj hrow _ hK rfl, (ownFrom_ch (β := Unit) (w := w) (Nat.le_refl _)) () W _ (some D) hq (grownBy_putObj' W D _) (fun r e => by cases e; exact ⟨by omega, _, hK, rfl⟩)⟩
  case stop =>
    rintro D c pre W _ _ h _
    exact h.elim

theorem list_any {p : Option Addr} {L : List Ent} {w : World} (hO : OG w p L) : Calls Try.prog 23 #[.pointer p] w fun e W' =>
      ∃ v, e = .returned v ∧ W'.ownsRow w.heap.size 9 1 v (ks L).length (kvs (ks L)) ∧ Ch [] w W' := callsIn_wide.1 (list_in 0 p L w hO)
end Go.Proofs.Ytediabcgeghogaa.oS
