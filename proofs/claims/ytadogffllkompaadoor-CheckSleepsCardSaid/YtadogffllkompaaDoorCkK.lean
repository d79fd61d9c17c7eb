/-
  The document's Next, Reached.
-/
import Derived.LoopTactic
import Derived.Test.YtadogffllkompaaDoorCkJ
namespace Go.Proofs.YtadogffllkompaaDoor
open Go.RowKit

attribute [local go_sem] Oper.semAt_some

/-- Those that come behind an instruction at any number, as the document has them. -/
def rnL (L : List I5) (z : Int) : List Nat := if inn L.length z = true then nxL L.length (ia L z.toNat) z.toNat else []
theorem rnl_eq {L : List I5} (hL : L.length ≤ 1000) (hfit : ∀ x ∈ L, Fit x) (z : Int) : rnL L z = bhl L z := by
  unfold rnL bhl
  split
  · rename_i h
    unfold inn at h
    rw [decide_eq_true_eq] at h
    rw [prL_eq (by omega) hL (by rw [← ia_at (by omega)]; exact hfit _ (List.getElem_mem _))]
  · rfl
theorem nxTo_succ (x : I5) (a t : Nat) : nxL (t + 1) x a = nxL t x a ++ if bhd x a t = true then [t] else [] := by
  unfold nxL
  rw [List.range_succ, List.filter_append]
  congr 1
  rw [List.filter_cons]
  split <;> simp
theorem nx_len (n : Nat) (x : I5) (a : Nat) : (nxL n x a).length ≤ n := by
  have := List.length_filter_le (bhd x a) (List.range n)
  simpa [nxL] using this

set_option maxHeartbeats 4000000 in
theorem rnext_any {w : World} {a : Option Addr} {n cap : Nat} {L : List I5} {z : Int} (hL : L.length = n) (hn : n ≤ 1000) (hI : InsAt w a L) :
    Calls Tryd.prog 14 #[.slice a n cap, .int .i64 z] w fun e w' => ∃ v, e = .returned v ∧ w'.ownsRow w.heap.size 3 1 v (rnL L z).length (ivs (rnL L z)) ∧ Ch [] w w' := by
  by_cases hz : 0 ≤ z ∧ z < (n : Int)
  · obtain ⟨k, rfl⟩ : ∃ k : Nat, z = (k : Int) := ⟨z.toNat, by omega⟩
    have hk : k < n := by omega
    have hr : rnL L (k : Int) = nxL n (ia L k) k := by unfold rnL inn; rw [hL, if_pos (by rw [decide_eq_true_eq]; omega), Int.toNat_natCast]
    rw [hr]
    rcases hI with h0 | ⟨b, off, rfl, hc⟩
    · rw [h0] at hL; simp at hL; omega
    obtain ⟨i0, hI, hz0, hz1, hz2⟩ := info_parts Mk.infoInt
    have hf := InsAt.at hc (k := k) (by omega)
    have HB := Lib.hid (fun (t : Nat) (ht : t < 1000) W => rbhd_any (x := ia L k) k t (by omega) ht W)
    have HSt := Lib.hid (fun t => nxTo_succ (ia L k) k t)
    have HLn := Lib.hid (fun t => nx_len t (ia L k) k)
    have HN0 := Lib.hid (show nxL 0 (ia L k) k = [] by simp [nxL])
    generalize hX : (fun t => nxL t (ia L k) k) = X at *
    have hXt : ∀ t, nxL t (ia L k) k = X t := fun t => by rw [← hX]
    simp only [hXt] at *
    generalize hY : (fun t => bhd (ia L k) k t) = Y at *
    have hYt : ∀ t, bhd (ia L k) k t = Y t := fun t => by rw [← hY]
    simp only [hYt] at *
    clear hX hXt hY hYt hr hc hL
    have HFo := Lib.hid hf
    have hkn : (k : Int) < (n : Int) := by omega
    have hk0 : ¬ (k : Int) < 0 := by omega
    have hk1 : ¬ (n : Int) ≤ (k : Int) := by omega
    clear hf hz
    generalize ia L k = x at *
    obtain ⟨op, d, s, o, i⟩ := x
    unfold iv at HB
    simp only at HB
    go_enter Tryd.func14, Tryd.ntmps14
    go_wp2_with fail
    go_loopw [5, 6] (fun v j wr => ∃ t : Nat, j = .int .i64 (t : Int) ∧ t ≤ n ∧ wr.ownsRow w.heap.size 3 1 v (X t).length (ivs (X t)) ∧ Ch [] w wr) (fun _ j _ => n - (intOf j).toNat)
    case atStart => exact ⟨0, rfl, Nat.zero_le _, by rw [HN0.out]; exact World.ownsRow_nil _ _ _ _, Ch.refl _ _⟩
    case round =>
      obtain ⟨t, rfl, ht, hr, hc⟩ := hrel
      have HR := Lib.hid hr
      have HC := Lib.hid hc
      by_cases h1 : t < n
      · have h1' : (t : Int) < (n : Int) := by omega
        obtain ⟨c0, c1, c2, c3, c4⟩ := HFo.out.ch HC.out (by simp)
        simp only at c0 c1 c2 c3 c4
        have hln := HLn.out t
        have hs := HSt.out t
        have HBt := Lib.hid (fun W => HB.out t (by omega) W)
        obtain ⟨l, hl⟩ : ∃ l, X t = l := ⟨_, rfl⟩
        obtain ⟨l2, hl2⟩ : ∃ l, X (t + 1) = l := ⟨_, rfl⟩
        rw [hl] at hr hln hs HR
        rw [hl2] at hs
        have HL2 := Lib.hid hl2
        clear hl hl2
        generalize hq : l.length = q at *
        obtain ⟨av, ac, rfl⟩ := own_form hr
        cases hy : Y t with
        | true =>
          rw [hy, if_pos rfl] at hs
          rw [hy] at HBt
          have HS := Lib.hid hs
          have HQ := Lib.hid hq
          clear hs hr hc h1 hy hq
          go_wp2_with fail
          with_reducible refine (HBt.out _).mono ?_
          rintro e w1 ⟨rfl, hc1⟩
          have HC1 := Lib.hid (HC.out.trans hc1)
          have HR1 := Lib.hid (own_ch HR.out hc1 (by simp))
          clear hc1 c0 c1 c2 c3 c4
          go_wp2_with (at_builtin; go_must (refine wpList_append_own _ rfl _ _ 30 rfl w.heap.size 3 i0 (.int .i64 0) 1 8 Tryd.underlying30 hI hz0 hz1 hz2 rfl (by decide) _ q (ivs l) rfl (HR1.out.alloc _) ⟨w1.heap.size, 0, none⟩ 1 1 [.int .i64 (t : Int)] rfl rfl (cell_one_new _ _ _) (by simp [Value.oneCell']) (by unfold maxLen; omega) (by omega) (by have := HC1.out.size; simp; omega) ?_); intro v3 w3 hown3 hgrow3 hnil3; refine Hid.out ?_)
          refine Lib.hid ?_
          have HC3 := Lib.hid (own_new (HC1.out.alloc _) hgrow3 (Nat.le_refl _) (HR1.out.alloc _))
          have HR3 := Lib.hid (show w3.ownsRow w.heap.size 3 1 v3 l2.length (ivs l2) by rw [HS.out, List.length_append, HQ.out]; simpa [ivs] using hown3)
          obtain ⟨av3, ac3, rfl⟩ := own_form hown3
          clear hown3 hgrow3 hnil3
          go_wp2_with fail
          go_roundw
          case rel => exact ⟨t + 1, by go_num, by omega, by rw [HL2.out]; exact HR3.out, HC3.out⟩
          case measure => simp [intOf]; omega
        | false =>
          rw [hy, if_neg (by simp), List.append_nil] at hs
          rw [hy] at HBt
          have HS := Lib.hid hs
          have HQ := Lib.hid hq
          clear hs hr hc h1 hy hq
          go_wp2_with fail
          with_reducible refine (HBt.out _).mono ?_
          rintro e w1 ⟨rfl, hc1⟩
          have HC1 := Lib.hid (HC.out.trans hc1)
          have HR1 := Lib.hid (own_ch HR.out hc1 (by simp))
          clear hc1 c0 c1 c2 c3 c4
          go_wp2_with fail
          go_roundw
          case rel => exact ⟨t + 1, by go_num, by omega, by rw [HL2.out, HS.out, HQ.out]; exact HR1.out, HC1.out⟩
          case measure => simp [intOf]; omega
      · obtain rfl : t = n := by omega
        have h1' : ¬ (t : Int) < (t : Int) := by omega
        clear h1
        obtain ⟨l, hl⟩ : ∃ l, X t = l := ⟨_, rfl⟩
        rw [hl] at hr HR
        have HL2 := Lib.hid hl
        clear hl
        obtain ⟨q, hq⟩ : ∃ q, l.length = q := ⟨_, rfl⟩
        rw [hq] at hr HR
        have HQ := Lib.hid hq
        obtain ⟨av, ac, rfl⟩ := own_form hr
        clear hr hc hq
        go_wp2_with fail
        go_ret
        exact ⟨_, rfl, by rw [HL2.out, HQ.out]; exact HR.out, HC.out⟩
  · have hr : rnL L z = [] := by unfold rnL inn; rw [hL, if_neg (by rw [decide_eq_true_eq]; exact hz)]
    rw [hr]
    clear hr hI hL
    by_cases h0 : z < 0
    · go_enter Tryd.func14, Tryd.ntmps14
      go_wp2_with fail
      go_ret
      exact ⟨_, rfl, World.ownsRow_nil _ _ _ _, Ch.refl _ _⟩
    · have h1 : (n : Int) ≤ z := by omega
      clear hz
      go_enter Tryd.func14, Tryd.ntmps14
      go_wp2_with fail
      go_ret
      exact ⟨_, rfl, World.ownsRow_nil _ _ _ _, Ch.refl _ _⟩
end Go.Proofs.YtadogffllkompaaDoor
