/-
  The document's answer for tables: its list as a row of the law's own; Find, Put, Del.
-/
import Derived.Laws.OwnMore
import Derived.Laws.AppendOwnNone
import Derived.OwnWalk
import Derived.Test.YtaccfjlpojglpaaBIK
namespace Go.Proofs.Ytaccfjlpojglpaa
open Go.RowKit bI

attribute [local go_sem] Oper.semAt_some

theorem infoR : (Try.prog.info? 43).map (fun i => (i.zero, i.size, i.bytes)) = some (some (.agg #[.int .u64 0, .int .i64 0]), 2, 16) := by kernel_rfl
/-- A list of keys with values, in a row of the law's own from D on. -/
def RR (w : World) (D : Nat) (v : Value) (L : List E) : Prop := w.ownsRow D 43 2 v L.length (cells L)
section
variable {w w' : World} {D : Nat} {v : Value} {L : List E}
theorem RR.mono {D' : Nat} (h : RR w D v L) (hD : D' ≤ D) : RR w D' v L := own_mono h hD
theorem RR.quiet (h : RR w D v L) (hc : Ch [] w w') : RR w' D v L := own_ch h hc (by simp)
theorem RR.nil (w : World) (D : Nat) : RR w D (.slice none 0 0) [] := ⟨rfl, .inl ⟨rfl, rfl⟩⟩
theorem RR.at (h : RR w D v L) {j : Nat} {e : E} (hk : L[j]? = some e) : ∃ g cap, v = .slice (some ⟨g, 0, none⟩) L.length cap ∧ g < w.heap.size ∧ L.length ≤ cap ∧ w.cell? ⟨g, j * 2, none⟩ = some (.int .u64 (e.k : Int)) ∧ w.cell? ⟨g, j * 2 + 1, none⟩ = some (.int .i64 e.v) ∧ w.frozen? ⟨g, j * 2 + 1, none⟩ = false := by
  have hlt := (List.getElem?_eq_some_iff.1 hk).1
  obtain ⟨e0, e1⟩ := cells_at hk
  rcases h.2 with ⟨_, h0⟩ | ⟨g, cap, cur, rfl, hb, hg, hn, hm, _⟩
  · omega
  · exact ⟨g, cap, rfl, (Array.getElem?_eq_some_iff.1 hg).1, hn, by rw [World.ownsRow.cellAt h (j * 2) (by omega)]; exact e0, by rw [World.ownsRow.cellAt h (j * 2 + 1) (by omega)]; exact e1, World.ownsRow.frozenAt h _⟩
theorem RR.form (h : RR w D v L) : ∃ a cap, v = .slice a L.length cap := own_form h
end
theorem own_pos {w : World} {B t s n : Nat} {v : Value} {xs : List Value} (h : w.ownsRow B t s v n xs) (hn : 0 < n) : ∃ g cap, v = .slice (some ⟨g, 0, none⟩) n cap ∧ n ≤ cap := by
  rcases h.2 with ⟨_, h0⟩ | ⟨g, cap, cur, rfl, _, _, h1, _⟩
  · omega
  · exact ⟨g, cap, rfl, h1⟩
/-- Where a key stands. -/
theorem key_parts {L : List E} {k : Nat} (h : k ∈ ksE L) : ∃ A e B, L = A ++ e :: B ∧ e.k = k ∧ k ∉ ksE A := by
  induction L with
  | nil => cases h
  | cons x r ih =>
    by_cases e : x.k = k
    · exact ⟨[], x, r, rfl, e, by simp [ksE]⟩
    · have h2 : k ∈ ksE r := by
        simp only [ksE, List.map_cons, List.mem_cons] at h
        rcases h with h | h
        · exact absurd h.symm e
        · exact h
      obtain ⟨A, y, B, rfl, hy, hA⟩ := ih h2
      exact ⟨x :: A, y, B, rfl, hy, by simp only [ksE, List.map_cons, List.mem_cons, not_or]; exact ⟨fun e2 => e e2.symm, hA⟩⟩

theorem rfind_in {w : World} {D : Nat} {v : Value} {A B : List E} {e : E} (h : RR w D v (A ++ e :: B)) (hA : e.k ∉ ksE A) (hl : (A ++ e :: B).length ≤ 64) :
    Calls Try.prog 13 #[v, .int .u64 (e.k : Int)] w fun r w' => r = .returned (.int .i64 (A.length : Int)) ∧ w' = w := by
  obtain ⟨m, hm⟩ : ∃ m, m = A ++ e :: B := ⟨_, rfl⟩
  obtain ⟨L, hL⟩ : ∃ L, L = m.length := ⟨_, rfl⟩
  obtain ⟨a, hla⟩ : ∃ a, a = A.length := ⟨_, rfl⟩
  obtain ⟨k, hk⟩ : ∃ k, k = e.k := ⟨_, rfl⟩
  rw [← hk] at hA ⊢
  rw [← hm] at h hl
  have haL : a < L := by rw [hL, hm, hla]; simp
  have H := Lib.hid h
  have HM := Lib.hid hm
  have HAp := Lib.hid hA
  have HLa := Lib.hid hla
  have HL := Lib.hid hL
  have HKk := Lib.hid hk
  obtain ⟨g, cap, rfl, -⟩ := h.at (j := a) (e := e) (by rw [hm, hla]; simp)
  rw [← hL] at hl ⊢
  rw [← hla]
  clear h hm hL hla hA hk
  go_enter Try.func13, Try.ntmps13
  go_wp2
  go_loopw [5] (fun iv wr => ∃ i : Nat, i ≤ a ∧ iv = .int .i64 (i : Int) ∧ wr = w) (fun iv _ => L - (intOf iv).toNat)
  case atStart => exact ⟨0, Nat.zero_le _, rfl, rfl⟩
  case round =>
    obtain ⟨i, hi, rfl, rfl⟩ := hrel
    have hb0 : (0 : Int) ≤ (i : Int) := by omega
    have hb1 : (i : Int) < (L : Int) := by omega
    by_cases hlt : i < a
    · obtain ⟨x, hx⟩ : ∃ x, A[i]? = some x := ⟨_, List.getElem?_eq_getElem (by rw [← HLa.out]; exact hlt)⟩
      obtain ⟨g', cap', e', -, -, c0, -⟩ := H.out.at (j := i) (e := x) (by rw [HM.out, List.getElem?_append_left (by rw [← HLa.out]; exact hlt)]; exact hx)
      obtain ⟨rfl, rfl⟩ : g = g' ∧ cap = cap' := by simpa [HL.out] using e'
      obtain ⟨y, hy⟩ : ∃ y, y = x.k := ⟨_, rfl⟩
      rw [← hy] at c0
      have hne : ((y : Int) == (k : Int)) = false := by
        have : y ≠ k := fun e2 => HAp.out (ksE_mem.2 ⟨x, List.mem_of_getElem? hx, by rw [← hy, e2]⟩)
        simp; omega
      clear hx hy e'
      go_wp2
      go_roundw
      case rel => exact ⟨i + 1, by omega, by go_num, trivial⟩
      case measure => simp [intOf]; omega
    · obtain rfl : i = a := by omega
      obtain ⟨g', cap', e', -, -, c0, -⟩ := H.out.at (j := i) (e := e) (by rw [HM.out, HLa.out]; simp)
      obtain ⟨rfl, rfl⟩ : g = g' ∧ cap = cap' := by simpa [HL.out] using e'
      rw [← HKk.out] at c0
      have heq : ((k : Int) == (k : Int)) = true := by simp
      clear e'
      go_wp2
      go_ret
      exact ⟨rfl, rfl⟩
theorem rfind_not {w : World} {D : Nat} {v : Value} {M : List E} {k : Nat} (h : RR w D v M) (hk : k ∉ ksE M) (hl : M.length ≤ 64) :
    Calls Try.prog 13 #[v, .int .u64 (k : Int)] w fun r w' => r = .returned (.int .i64 (-1)) ∧ w' = w := by
  obtain ⟨L, hL⟩ : ∃ L, L = M.length := ⟨_, rfl⟩
  have H := Lib.hid h
  have HAp := Lib.hid hk
  have HL := Lib.hid hL
  obtain ⟨a, cap, rfl⟩ := h.form
  rw [← hL] at hl ⊢
  clear h hL hk
  go_enter Try.func13, Try.ntmps13
  go_wp2
  go_loopw [5] (fun iv wr => ∃ i : Nat, i ≤ L ∧ iv = .int .i64 (i : Int) ∧ wr = w) (fun iv _ => L - (intOf iv).toNat)
  case atStart => exact ⟨0, Nat.zero_le _, rfl, rfl⟩
  case round =>
    obtain ⟨i, hi, rfl, rfl⟩ := hrel
    by_cases hlt : i < L
    · have hb0 : (0 : Int) ≤ (i : Int) := by omega
      have hb1 : (i : Int) < (L : Int) := by omega
      obtain ⟨x, hx⟩ : ∃ x, M[i]? = some x := ⟨_, List.getElem?_eq_getElem (by rw [← HL.out]; exact hlt)⟩
      obtain ⟨g, cap', e', -, -, c0, -⟩ := H.out.at (j := i) (e := x) hx
      obtain ⟨rfl, rfl⟩ : a = some ⟨g, 0, none⟩ ∧ cap = cap' := by simpa [HL.out] using e'
      obtain ⟨y, hy⟩ : ∃ y, y = x.k := ⟨_, rfl⟩
      rw [← hy] at c0
      have hne : ((y : Int) == (k : Int)) = false := by
        have : y ≠ k := fun e2 => HAp.out (ksE_mem.2 ⟨x, List.mem_of_getElem? hx, by rw [← hy, e2]⟩)
        simp; omega
      clear hx hy e'
      go_wp2
      go_roundw
      case rel => exact ⟨i + 1, by omega, by go_num, trivial⟩
      case measure => simp [intOf]; omega
    · obtain rfl : i = L := by omega
      go_wp2
      go_ret
      exact ⟨rfl, rfl⟩

theorem uR : Try.prog.underlying 28 = some (.slice 43) := Try.underlying28

set_option maxRecDepth 100000 in
set_option maxHeartbeats 2000000 in
theorem rput_any {w : World} {D : Nat} {v : Value} {L : List E} (h : RR w D v L) (hnd : (ksE L).Nodup) (hl : L.length ≤ 64) (hD : D ≤ w.heap.size) (k : Nat) (x : Int) (room : Nat) (hroom : room ≤ 64) :
    Calls Try.prog 9 #[v, .int .u64 (k : Int), .int .i64 x, .int .i64 (room : Int)] w fun r w' =>
      ∃ v', r = .returned (.tuple #[v', .bool (putE room L k x).2.1, .int .i64 (((putE room L k x).2.2 : Nat) : Int)]) ∧ RR w' D v' (putE room L k x).1 ∧ Ch [] w w' := by
  obtain ⟨i0, hi, hz0, hz1, hz2⟩ := info_parts infoR
  by_cases hk : k ∈ ksE L
  · have HE := Lib.hid (show putE room L k x = (setE L k x, true, 0) by unfold putE; rw [if_pos hk])
    obtain ⟨A, e, B, rfl, rfl, hA⟩ := key_parts hk
    have HF := Lib.hid (rfind_in h hA hl)
    have hB : e.k ∉ ksE B := by
      intro hm
      simp only [ksE, List.map_append, List.map_cons, List.nodup_append, List.nodup_cons] at hnd
      exact hnd.2.1.1 hm
    have HSet := Lib.hid (show setE (A ++ e :: B) e.k x = A ++ ⟨e.k, x⟩ :: B from set_at hA hB x)
    obtain ⟨m, hm⟩ : ∃ m, m = (A ++ e :: B).length := ⟨_, rfl⟩
    obtain ⟨a, ha⟩ : ∃ a, a = A.length := ⟨_, rfl⟩
    have ham : a < m := by rw [hm, ha]; simp
    have h1 := h
    unfold RR at h1
    rcases h1.2 with ⟨_, h0⟩ | ⟨g, cap, cur, rfl, _⟩
    · rw [← hm] at h0; omega
    · have hcells := h1.cells (g := g) rfl
      have HLc := Lib.hid (show (cells (A ++ e :: B)).length = m * 2 by rw [cells_len, hm])
      have HM := Lib.hid hm
      have HAa := Lib.hid ha
      rw [← hm] at hl ⊢
      rw [← ha] at HF
      rw [← hm] at HF
      obtain ⟨w1, hw1⟩ : ∃ W, W = w.alloc (.cells #[] 43) := ⟨_, rfl⟩
      have hc1 : Ch [] w w1 := by rw [hw1]; exact (Ch.refl [] w).alloc _
      have hlit : w1.ownsRow w.heap.size 43 2 (.slice (some ⟨w.heap.size, 0, none⟩) 0 0) 0 [] := by
        rw [hw1]; exact World.ownsRow_lit w #[] 0 (Nat.le_refl _) (by unfold maxLen; omega) rfl
      have hsrc : ∀ j u, (cells (A ++ e :: B))[j]? = some u → w1.cell? ((⟨g, 0, none⟩ : Addr).add j) = some u := fun j u hj => by
        have h2 := hcells j u hj
        rw [addr_add] at h2 ⊢
        exact (hc1.cell (p := ⟨g, 0 + j, none⟩) (cell_lt h2) (by simp)).trans h2
      have HC1 := Lib.hid hc1
      have HW1 := Lib.hid hw1
      have hD1 : w.heap.size ≤ w1.heap.size := hc1.size
      rw [hw1] at hlit hsrc hD1
      have hge : ¬ ((a : Int) < 0) := by omega
      have hb0 : (0 : Int) ≤ (a : Int) := by omega
      have hb1 : (a : Int) < (m : Int) := by omega
      clear h h1 hm ha hcells hk hA hB hnd hw1 hc1
      go_enter Try.func9, Try.ntmps9
      go_wp2_with fail
      with_reducible refine HF.out.mono ?_
      rintro r w2 ⟨rfl, hw2⟩
      subst w2
      go_wp2_with (first | (at_builtin; refine wpList_append_own _ rfl _ _ 28 rfl w.heap.size 43 i0 (.agg #[.int .u64 0, .int .i64 0]) 2 16 uR hi hz0 hz1 hz2 rfl (by decide) _ 0 [] rfl hlit ⟨g, 0, none⟩ m cap (cells (A ++ e :: B)) rfl HLc.out hsrc (cells_one _) (by unfold maxLen; omega) (by omega) hD1 ?_; intro v' w3 hown hgrow _; rw [Nat.zero_add, List.nil_append] at hown; obtain ⟨g3, cap3, rfl, hle3⟩ := own_pos hown (by omega); have HO3 := Lib.hid hown; have HG3 := Lib.hid hgrow; obtain ⟨y, hy⟩ : ∃ y, (cells (A ++ e :: B))[a * 2 + 1]? = some y := ⟨_, List.getElem?_eq_getElem (by rw [HLc.out]; omega)⟩; have k1 := hown.cellAt (a * 2 + 1) (by omega); rw [hy] at k1; have f1 := hown.frozenAt (a * 2 + 1); clear hown hgrow hy) | fail)
      go_ret3
      have hset := own_set HO3.out (a * 2 + 1) (.int .i64 x) (by omega)
      have hln : (setE (A ++ e :: B) e.k x).length = m := by rw [set_len, HM.out]
      have hcs : (cells (A ++ e :: B)).set (a * 2 + 1) (.int .i64 x) = cells (setE (A ++ e :: B) e.k x) := by
        rw [HSet.out, HAa.out]
        exact cells_set A B e.k e.v x
      rw [hcs] at hset
      rw [HE.out]
      have hlow := (HO3.out.lt g3 rfl).1
      refine ⟨_, rfl, by unfold RR; rw [hln]; exact own_mono hset hD, ?_⟩
      have h3 : Ch [] w w3 := HC1.out.kept (by rw [HW1.out]; exact HG3.out) (fun r e => by cases e; exact Nat.le_refl _)
      exact chSetNew (p := ⟨g3, a * 2 + 1, none⟩) h3 hlow _
  · have HF := Lib.hid (rfind_not h hk hl)
    obtain ⟨m, hm⟩ : ∃ m, m = L.length := ⟨_, rfl⟩
    obtain ⟨a0, cap, rfl⟩ := h.form
    rw [← hm] at HF hl ⊢
    by_cases hfull : room ≤ m
    · have HE := Lib.hid (show putE room L k x = (L, false, 3) by unfold putE; rw [if_neg hk, if_pos (by omega)])
      have hd : decide ((room : Int) ≤ (m : Int)) = true := decide_eq_true (by omega)
      have HR := Lib.hid h
      have HM := Lib.hid hm
      clear h hk hnd hm
      go_enter Try.func9, Try.ntmps9
      go_wp2_with fail
      with_reducible refine HF.out.mono ?_
      rintro r w2 ⟨rfl, hw2⟩
      subst w2
      go_wp2_with fail
      go_ret3
      rw [HE.out]
      exact ⟨_, rfl, by rw [HM.out]; exact HR.out, Ch.refl _ _⟩
    · have HE := Lib.hid (show putE room L k x = (⟨k, x⟩ :: L, false, 0) by unfold putE; rw [if_neg hk, if_neg (by omega)])
      have hd : decide ((room : Int) ≤ (m : Int)) = false := decide_eq_false (by omega)
      obtain ⟨w1, hw1⟩ : ∃ W, W = w.alloc (.cells #[.int .u64 (k : Int), .int .i64 x] 43) := ⟨_, rfl⟩
      have hc1 : Ch [] w w1 := by rw [hw1]; exact (Ch.refl [] w).alloc _
      have hlit : w1.ownsRow w.heap.size 43 2 (.slice (some ⟨w.heap.size, 0, none⟩) 1 1) 1 [.int .u64 (k : Int), .int .i64 x] := by
        rw [hw1]; exact World.ownsRow_lit w #[.int .u64 (k : Int), .int .i64 x] 1 (Nat.le_refl _) (by unfold maxLen; omega) rfl
      have HC1 := Lib.hid hc1
      have HW1 := Lib.hid hw1
      have hD1 : w.heap.size ≤ w1.heap.size := hc1.size
      have hR1 := h.quiet hc1
      rw [hw1] at hlit hD1 hR1
      have HLen := Lib.hid (show (cells (⟨k, x⟩ :: L : List E)).length = (1 + m) * 2 by rw [cells_len, hm, List.length_cons]; omega)
      have HM := Lib.hid hm
      have hD' := Lib.hid hD
      rcases hR1.2 with ⟨e0, h0⟩ | ⟨g, cap', cur, e0, _⟩
      · obtain ⟨rfl, -, rfl⟩ : a0 = none ∧ L.length = 0 ∧ cap = 0 := by simpa using e0
        have hL0 : L = [] := List.length_eq_zero_iff.1 h0
        have hm0 : m = 0 := by omega
        subst hm0
        subst hL0
        clear h hk hnd hm hw1 hc1 hR1 e0 h0 hD
        go_enter Try.func9, Try.ntmps9
        go_wp2_with fail
        with_reducible refine HF.out.mono ?_
        rintro r w2 ⟨rfl, hw2⟩
        subst w2
        go_wp2_with (first | (at_builtin; refine wpList_append_own_none rfl _ _ 28 rfl w.heap.size 43 i0 2 uR hi _ 1 _ rfl hlit rfl ?_) | fail)
        go_ret3
        rw [HE.out]
        exact ⟨_, rfl, own_mono hlit hD'.out, by rw [← HW1.out]; exact HC1.out⟩
      · obtain ⟨rfl, rfl⟩ : a0 = some ⟨g, 0, none⟩ ∧ cap = cap' := by simpa using e0
        have hcells := hR1.cells (g := g) rfl
        have HLc := Lib.hid (show (cells L).length = m * 2 by rw [cells_len, hm])
        clear h hk hnd hm hw1 hc1 hR1 e0 hD
        go_enter Try.func9, Try.ntmps9
        go_wp2_with fail
        with_reducible refine HF.out.mono ?_
        rintro r w2 ⟨rfl, hw2⟩
        subst w2
        go_wp2_with (first | (at_builtin; refine wpList_append_own _ rfl _ _ 28 rfl w.heap.size 43 i0 (.agg #[.int .u64 0, .int .i64 0]) 2 16 uR hi hz0 hz1 hz2 rfl (by decide) _ 1 _ rfl hlit ⟨g, 0, none⟩ m cap (cells L) rfl HLc.out hcells (cells_one _) (by unfold maxLen; omega) (by omega) hD1 ?_; intro v' w3 hown hgrow _; have HO3 := Lib.hid hown; have HG3 := Lib.hid hgrow; clear hown hgrow) | fail)
        go_ret3
        rw [HE.out]
        refine ⟨_, rfl, ?_, HC1.out.kept (by rw [HW1.out]; exact HG3.out) (fun r e => by cases e; exact Nat.le_refl _)⟩
        have := own_mono HO3.out hD'.out
        unfold RR
        rw [show (⟨k, x⟩ :: L : List E).length = 1 + m by rw [HM.out, List.length_cons]; omega]
        exact this
end Go.Proofs.Ytaccfjlpojglpaa
