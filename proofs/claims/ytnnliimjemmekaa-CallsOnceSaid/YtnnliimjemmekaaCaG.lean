/-
  All callbacks: the iterator; Open, Newest, Len.
-/
import Derived.Test.YtnnliimjemmekaaCaF
namespace Go.Proofs.Ytnnliimjemmekaa
open Go.RowKit Go.Shelf Go.Maps
open rC (Th RL flat tv objT)

attribute [local go_sem] Oper.semAt_some

/-- All callbacks of the first CPUs. -/
def catL (f : Nat → List Th) (k : Nat) : List Th := (List.range k).flatMap f
theorem catL_succ (f : Nat → List Th) (k : Nat) : catL f (k + 1) = catL f k ++ f k := by
  unfold catL; rw [List.range_succ, List.flatMap_append]; simp
theorem catL_len {f : Nat → List Th} {n : Nat} (h : ∀ i, i < n → (f i).length ≤ 64) : ∀ k, k ≤ n → (catL f k).length ≤ k * 64
  | 0, _ => by simp [catL]
  | k + 1, hk => by
    have h1 := catL_len h k (by omega)
    have h2 := h k (by omega)
    rw [catL_succ, List.length_append]
    omega
theorem catL_prefix (f : Nat → List Th) {k n : Nat} (h : k ≤ n) : catL f k <+: catL f n := by
  induction n with
  | zero =>
    have e : k = 0 := by omega
    rw [e]; exact List.prefix_refl _
  | succ n ih =>
    by_cases e : k = n + 1
    · subst e; exact List.prefix_refl _
    · exact (ih (by omega)).trans (by rw [catL_succ]; exact List.prefix_append _ _)
theorem cat_step {f : Nat → List Th} {k n j : Nat} (hk : k < n) (hj : j < (f k).length) : catL f k ++ (f k).take j ++ [(f k)[j]?.getD (0, 0)] <+: catL f n ∧ catL f k ++ (f k).take (j + 1) = catL f k ++ (f k).take j ++ [(f k)[j]?.getD (0, 0)] := by
  have h1 := take_snoc hj
  have h2 : catL f k ++ (f k).take (j + 1) = catL f k ++ (f k).take j ++ [(f k)[j]?.getD (0, 0)] := by rw [h1, List.append_assoc]
  refine ⟨?_, h2⟩
  rw [← h2]
  refine List.IsPrefix.trans ?_ (catL_prefix f (show k + 1 ≤ n by omega))
  rw [catL_succ]
  exact List.prefix_append_right_inj _ |>.2 (List.take_prefix _ _)

theorem all_in (n : Nat) (p : Option Addr) (w : World) :
    CallsIn Fence.wide n Try.prog 28 #[.pointer p] w fun e w' => e = .returned (.func (.func 36) #[] #[.pointer (some ⟨w.heap.size, 0, none⟩)]) ∧ w' = w.alloc (.cells #[.pointer p] 24) := by
  refine callsIn_of_wp Try.func28 rfl trivial ?_ rfl
  simp only [Try.ntmps28, List.size_toArray, List.length_cons, List.length_nil, Nat.reduceAdd, Nat.reduceSub, Array.replicate_succ, Array.replicate_zero, List.push_toArray, List.append_toArray, List.nil_append, List.cons_append]
  gi_wp2
  go_ret
  exact ⟨rfl, rfl⟩

/-- Lists that are nil, or lie below a block; what all of them hold. -/
def LP (n₀ : Nat) (w : World) (p : Option Addr) (xs : List Th) : Prop :=
  (p = none ∧ xs = []) ∨ ∃ base top A G n last R Q f, p = some ⟨A, 0, none⟩ ∧ top ≤ n₀ ∧ CL w base top A G n last R Q f ∧ xs = catL f n

section
variable {w : World} {base top A G n : Nat} {last : Int} {R Q : Nat → Nat} {f : Nat → List Th}
set_option maxRecDepth 100000 in
set_option maxHeartbeats 2000000 in
theorem all1_in (m : Nat) (l Bn b : Nat) (_ : Bn ≠ b) (hob : ¬ Own base top b) (hb : b < w.heap.size) (J Jx : List Th → World → Prop) (hJ : ∀ s X X', J s X → Ch [] X X' → J s X')
    (hY : ∀ pre x W, J pre W → pre ++ [x] <+: catL f n → YieldAt Fence.wide (m - 1) Try.prog l #[tv x] W fun e W' =>
      (e = .returned (.bool true) ∧ J (pre ++ [x]) W' ∧ (Keep (fun k => k ≠ b) W W' ∧ W.heap.size ≤ W'.heap.size)) ∨ (e = .returned (.bool false) ∧ Jx (pre ++ [x]) W'))
    (W : World) (hW : w.heap.size ≤ W.heap.size) (hc : W.cell? ⟨Bn, 0, none⟩ = some (.pointer (some ⟨A, 0, none⟩))) (hL : CL W base top A G n last R Q f) (h0 : J [] W) :
    CallsIn Fence.wide m Try.prog 36 #[.func (.yield l) #[] #[], .pointer (some ⟨Bn, 0, none⟩)] W fun e W' => (∃ v, e = .returned v) ∧
      ((∃ ys, ys = catL f n ∧ J ys W') ∨ (∃ pre, pre <+: catL f n ∧ Jx pre W')) := by
  have HY := Lib.hid hY
  have HL := Lib.hid hL
  have HJ := Lib.hid hJ
  have HJ0 := Lib.hid h0
  have HB := Lib.hid hc
  have c0 := hL.c0
  have hn64 := hL.n64
  clear hY hL hJ h0
  refine callsIn_of_wp Try.func36 rfl trivial ?_ rfl
  simp only [Try.ntmps36, List.size_toArray, List.length_cons, List.length_nil, Nat.reduceAdd, Nat.reduceSub, Array.replicate_succ, Array.replicate_zero, List.push_toArray, List.append_toArray, List.nil_append, List.cons_append]
  have hw : ∀ f, Fence.wide.fn f := fun _ => trivial
  have hd : Fence.wide.depth = none := rfl
  gi_wp2_with fail
  gi_loopw [14] (fun r wr => ∃ k : Nat, k ≤ n ∧ r = .int .i64 (k : Int) ∧ J (catL f k) wr ∧ CL wr base top A G n last R Q f ∧ w.heap.size ≤ wr.heap.size) (fun r _ => n - (intOf r).toNat)
  case atStart => exact ⟨0, Nat.zero_le _, rfl, by simpa [catL] using HJ0.out, HL.out, hW⟩
  case round =>
    obtain ⟨k, hk, rfl, hJk, hLk, hsz⟩ := hrel
    have HJk := Lib.hid hJk
    have HLk := Lib.hid hLk
    clear hc c0
    by_cases hkn : k < n
    · have cr := hLk.row k hkn
      have hlt : (k : Int) < (n : Int) := by omega
      have hl64 := (hLk.ring k hkn).le.1
      have HLs := Lib.hid (rC.list_l (hLk.ring k hkn))
      have HD := Lib.hid hkn
      clear hJk hLk
      gi_wp2_with fail
      refine (callsIn_wide.2 HLs.out).mono ?_
      rintro e w2 ⟨v, rfl, hrow, hB⟩
      obtain ⟨a, cp, rfl⟩ := own_form hrow
      have HRow := Lib.hid hrow
      have HB2 := Lib.hid hB
      have hs2 := hB.size
      have HJ2 := Lib.hid (HJ.out _ _ _ HJk.out (.of_below hB))
      have HL2 := Lib.hid (HLk.out.below hB)
      obtain ⟨q, hq⟩ : ∃ q, q = (f k).length := ⟨_, rfl⟩
      have HQ := Lib.hid hq
      rw [← hq] at hl64
      clear hrow hB
      go_frame
      rw [← hq]
      clear hq
      gi_wp2_with fail
      gi_loopw [21] (fun r wv => ∃ j : Nat, j ≤ q ∧ r = .int .i64 (j : Int) ∧ J (catL f k ++ (f k).take j) wv ∧ CL wv base top A G n last R Q f ∧ wr.heap.size ≤ wv.heap.size ∧ (∀ g, a = some ⟨g, 0, none⟩ → 0 < q → wv.heap[g]? = w2.heap[g]?)) (fun r _ => q - (intOf r).toNat)
      case atStart => exact ⟨0, Nat.zero_le _, rfl, by simpa using HJ2.out, HL2.out, hs2, fun _ _ _ => rfl⟩
      case round =>
        obtain ⟨j, hj, rfl, hJj, hLj, hsj, hgj⟩ := hrel
        have HJj := Lib.hid hJj
        have HLj := Lib.hid hLj
        have HGj := Lib.hid hgj
        clear hJj hLj
        by_cases hjq : j < q
        · have hrow := HRow.out
          rw [← HQ.out] at hrow
          obtain ⟨g, rfl, hg1, hg2, _, hcells⟩ := own_cells hrow 0 (by omega)
          have hj2 : j < (f k).length := by rw [← HQ.out]; exact hjq
          obtain ⟨x, hx⟩ : ∃ x, x = (f k)[j]?.getD (0, 0) := ⟨_, rfl⟩
          have hxs : (f k)[j]? = some x := by rw [hx, List.getElem?_eq_getElem hj2]; rfl
          have hstep := cat_step (f := f) HD.out hj2
          rw [← hx] at hstep
          have HS := Lib.hid hstep
          have hsame := hgj g rfl (by omega)
          have e0 : wr.cell? ⟨g, j * 2, none⟩ = some (.int .i64 x.1) := by
            rw [World.cell?_of_block (w := w2) (w' := wr) (a := ⟨g, j * 2, none⟩) hsame, hcells _ (by omega)]
            exact (rC.flat_at _ _ _ hxs).1
          have e1 : wr.cell? ⟨g, j * 2 + 1, none⟩ = some (.int .i64 x.2) := by
            rw [World.cell?_of_block (w := w2) (w' := wr) (a := ⟨g, j * 2 + 1, none⟩) hsame, hcells _ (by omega)]
            exact (rC.flat_at _ _ _ hxs).2
          have HE0 := Lib.hid e0
          have hjlt : (j : Int) < (q : Int) := by omega
          have hal : Ch [] wr (wr.alloc (.cells #[.int .i64 x.1, .int .i64 x.2] 51)) := (Ch.refl [] wr).alloc _
          have HAl := Lib.hid hal
          have hYx := HY.out _ x _ (HJ.out _ _ _ HJj.out hal) HS.out.1
          obtain ⟨fn, tmps, assign, body, hy, hR⟩ := hYx
          unfold tv at hy
          clear hrow hcells hx hxs hstep hsame hgj hal hj2
          gi_wp2_with fail
          refine hR.mono ?_
          rintro e W3 (⟨rfl, hJ3, hk3, hs3⟩ | ⟨rfl, hJx3⟩)
          · have HJ3 := Lib.hid hJ3
            have HK3 := Lib.hid hk3
            have hs4 : wr.heap.size + 1 ≤ W3.heap.size := by simpa using hs3
            clear hJ3 hk3 hy hR hs3
            go_frame
            gi_wp2
            go_roundw
            case rel =>
              have hg0 : g ≠ b := by omega
              refine ⟨j + 1, by omega, by go_num, by rw [HS.out.2]; exact HJ3.out, (HLj.out.quiet HAl.out).keep HK3.out (fun i hi e => hob (e ▸ hi)) (by have := HLj.out.hi; omega), by omega, fun g' e hq0 => ?_⟩
              obtain rfl : g = g' := by simpa using e
              have h5 := (HAl.out.cell (p := ⟨g, j * 2, none⟩) (cell_lt HE0.out) (by simp)).trans HE0.out
              rw [HK3.out.same hg0 h5, HAl.out.block g (cell_lt HE0.out) (by simp)]
              exact HGj.out g rfl hq0
            case measure => simp [intOf]; omega
          · have HJx := Lib.hid hJx3
            clear hJx3 hy hR
            go_frame
            gi_wp2
            refine bodyPost_ret (results_none rfl _ _ _) rfl ?_
            exact ⟨⟨_, rfl⟩, .inr ⟨_, HS.out.1, HJx.out⟩⟩
        · have hjq' : ¬ (j : Int) < (q : Int) := by omega
          clear hgj
          gi_wp2
          go_roundw
          case rel =>
            obtain rfl : j = q := by omega
            refine ⟨k + 1, by omega, by go_num, ?_, HLj.out, by omega⟩
            have h5 := HJj.out
            rwa [List.take_of_length_le (by rw [← HQ.out]; exact Nat.le_refl _), ← catL_succ] at h5
          case measure => simp [intOf]; omega
    · have hkn' : ¬ (k : Int) < (n : Int) := by omega
      clear hJk hLk
      gi_wp2
      go_end0
      obtain rfl : k = n := by omega
      first | exact ⟨⟨_, rfl⟩, .inl ⟨_, rfl, HJk.out⟩⟩ | exact ⟨⟨_, rfl⟩, .inl HJk.out⟩
end
end Go.Proofs.Ytnnliimjemmekaa
