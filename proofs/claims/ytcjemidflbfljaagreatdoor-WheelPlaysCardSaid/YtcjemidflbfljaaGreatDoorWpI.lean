/-
  The document's answer for the wheel: Ids.
-/
import Derived.Test.YtcjemidflbfljaaGreatDoorWpB
namespace Go.Proofs.YtcjemidflbfljaaGreatDoor
open Go.RowKit

attribute [local go_sem] Oper.semAt_some

/-- The numbers below n that are held, rising. -/
def idsN (m : List Tm) (n : Nat) : List Int := ((List.range n).filter fun i => decide (0 ≤ ixOf m ((i : Nat) : Int))).map fun (i : Nat) => (i : Int)
theorem idsN_yes {m : List Tm} {n : Nat} (h : 0 ≤ ixOf m (n : Int)) : idsN m (n + 1) = idsN m n ++ [(n : Int)] := by
  unfold idsN
  rw [List.range_succ, List.filter_append, List.map_append]
  simp [h]
theorem idsN_no {m : List Tm} {n : Nat} (h : ¬ 0 ≤ ixOf m (n : Int)) : idsN m (n + 1) = idsN m n := by
  unfold idsN
  rw [List.range_succ, List.filter_append, List.map_append]
  simp [h]
theorem idsN_len (m : List Tm) (n : Nat) : (idsN m n).length ≤ n := by
  unfold idsN
  rw [List.length_map]
  exact Nat.le_trans (List.length_filter_le _ _) (by simp)
theorem ixOf_some {m : List Tm} {k : Int} : 0 ≤ ixOf m k ↔ ∃ t ∈ m, t.id = k := by
  unfold ixOf
  cases h : m.findIdx? (fun t => decide (t.id = k)) with
  | none =>
    rw [List.findIdx?_eq_none_iff] at h
    constructor
    · intro h1; exact absurd h1 (by decide)
    · rintro ⟨t, ht, e⟩
      have := h t ht
      simp [e] at this
  | some i =>
    rw [List.findIdx?_eq_some_iff_getElem] at h
    obtain ⟨h1, h2, _⟩ := h
    constructor
    · intro _; exact ⟨m[i], List.getElem_mem h1, by simpa using h2⟩
    · intro _; simp only []; omega
theorem idsN_all {m : List Tm} (hnd : (m.map (·.id)).Nodup) (hid : ∀ t ∈ m, 0 ≤ t.id ∧ t.id < 256) : idsN m 256 = idsL m := by
  have hs1 : (idsN m 256).Pairwise (fun a b : Int => a < b) := by
    unfold idsN
    rw [List.pairwise_map]
    exact (List.Pairwise.filter _ List.pairwise_lt_range).imp (fun h => by omega)
  have hperm : (idsL m).Perm (m.map (·.id)) := List.mergeSort_perm _ _
  have hs2 : (idsL m).Pairwise (fun a b : Int => a < b) := by
    have h1 : (idsL m).Pairwise (fun a b => leI a b = true) := List.pairwise_mergeSort (fun a b c h k => by simp only [leI, decide_eq_true_eq] at *; omega) (fun a b => by simp only [leI, Bool.or_eq_true, decide_eq_true_eq]; omega) _
    have h2 : (idsL m).Nodup := hperm.nodup_iff.2 hnd
    rw [List.nodup_iff_pairwise_ne] at h2
    exact (h1.and h2).imp (fun {a b} h => by
      obtain ⟨h3, h4⟩ := h
      simp only [leI, decide_eq_true_eq] at h3
      omega)
  refine sorted_unique (r := fun a b : Int => a < b) (fun a b h k => by omega) ?_ hs1 hs2
  have hn1 : (idsN m 256).Nodup := by rw [List.nodup_iff_pairwise_ne]; exact hs1.imp (fun h => by omega)
  rw [List.perm_ext_iff_of_nodup hn1 (hperm.nodup_iff.2 hnd)]
  intro x
  rw [hperm.mem_iff]
  unfold idsN
  simp only [List.mem_map, List.mem_filter, List.mem_range, decide_eq_true_eq, ixOf_some]
  constructor
  · rintro ⟨i, ⟨_, t, ht, e⟩, rfl⟩
    exact ⟨t, ht, e⟩
  · rintro ⟨t, ht, rfl⟩
    have := hid t ht
    exact ⟨t.id.toNat, ⟨by omega, t, ht, by omega⟩, by omega⟩
set_option maxRecDepth 100000 in
set_option maxHeartbeats 1000000 in
theorem rids_any {w : World} {D : Nat} {v : Value} {m : List Tm} (now : Int) (h : RT w D v m) (hl : m.length ≤ 256) :
    Calls Tryz.prog 20 #[rw7 now v] w fun e w' => ∃ u, e = .returned u ∧ w'.ownsRow w.heap.size 3 1 u (idsN m 256).length ((idsN m 256).map iv) ∧ Ch [] w w' := by
  obtain ⟨i0, hI, hz0, hz1, hz2⟩ := info_parts infoI
  have hal := (Ch.refl [] w).alloc (.cells #[.int .u64 now, v] 28)
  have H := Lib.hid (h.quiet hal)
  obtain ⟨b0, b1⟩ := two_new w (.int .u64 now) v 28
  have HAl := Lib.hid hal
  obtain ⟨b, hb⟩ : ∃ b, b = w.heap.size := ⟨_, rfl⟩
  rw [← hb] at b0 b1
  have HBl := Lib.hid (show b < (w.alloc (.cells #[.int .u64 now, v] 28)).heap.size by rw [hb]; simp)
  have HBe := Lib.hid hb
  obtain ⟨a, cap, rfl⟩ := own_form h
  have HLn := Lib.hid hl
  obtain ⟨L, hL⟩ : ∃ L, L = m.length := ⟨_, rfl⟩
  rw [← hL] at b0 b1 HAl HBl H hl HLn ⊢
  have HLe := Lib.hid hL
  obtain ⟨W1, hW1⟩ : ∃ W1, w.alloc (.cells #[.int .u64 now, .slice a L cap] 28) = W1 := ⟨_, rfl⟩
  rw [hW1] at b0 b1 HAl HBl H
  have HF := Lib.hid (fun (W : World) (hc : Ch [] W1 W) (k : Int) => rfind_any now k (H.out.quiet hc) (by rw [← HLe.out]; exact HLn.out))
  unfold rw7 at *
  have HB0 := Lib.hid b0
  have HB1 := Lib.hid b1
  have HSz := Lib.hid (show w.heap.size ≤ W1.heap.size from HAl.out.size)
  clear h hL hal b0 b1
  go_enter Tryz.func20, Tryz.ntmps20
  go_wp2_with fail
  rw [← HBe.out]
  clear hW1 hb
  go_loopw [3, 4] (fun ov kv wr => ∃ n : Nat, n ≤ 256 ∧ kv = .int .i64 (n : Int) ∧ wr.ownsRow W1.heap.size 3 1 ov (idsN m n).length ((idsN m n).map iv) ∧ Ch [] W1 wr) (fun _ kv _ => 256 - (intOf kv).toNat)
  case atStart => exact ⟨0, Nat.zero_le _, rfl, World.ownsRow_nil _ _ _ _, Ch.refl _ _⟩
  case round =>
    obtain ⟨n, hn, rfl, ho, hc⟩ := hrel
    have HO := Lib.hid ho
    have HC := Lib.hid hc
    have b0 := (hc.cell (p := ⟨b, 0, none⟩) HBl.out (by simp)).trans HB0.out
    have b1 := (hc.cell (p := ⟨b, 1, none⟩) HBl.out (by simp)).trans HB1.out
    have hsz := hc.size
    have g0 : (0 : Int) ≤ (n : Int) := by omega
    by_cases hlt : n < 256
    · have g1 : (n : Int) < 256 := by omega
      have hln := idsN_len m n
      obtain ⟨q, hq⟩ : ∃ q, q = (idsN m n).length := ⟨_, rfl⟩
      obtain ⟨xs, hxs⟩ : ∃ xs, xs = (idsN m n).map iv := ⟨_, rfl⟩
      rw [← hq, ← hxs] at ho
      rw [← hq] at hln
      have HO1 := Lib.hid ho
      have HQ := Lib.hid hq
      have HX := Lib.hid hxs
      obtain ⟨ov, hov⟩ : ∃ ov, ov = u3 := ⟨_, rfl⟩
      rw [← hov] at HO1
      have HOv := Lib.hid hov
      clear ho hc hq hxs hov
      by_cases hin : 0 ≤ ixOf m (n : Int)
      · have hd : decide (0 ≤ ixOf m (n : Int)) = true := decide_eq_true hin
        have HY := Lib.hid (idsN_yes hin)
        have HFn := Lib.hid (HF.out wr HC.out (n : Int))
        generalize ixOf m (n : Int) = R at *
        clear hin
        go_wp2_with fail
        with_reducible refine HFn.out.mono ?_
        rintro e w3 ⟨rfl, hc3⟩
        have hsz3 := hc3.size
        have HO3 := Lib.hid (own_ch HO1.out hc3 (by simp))
        have HC3 := Lib.hid (HC.out.trans hc3)
        rw [← HOv.out]
        clear hc3
        go_frame
        go_wp2_with (at_builtin; go_must (refine wpList_append_own_at _ rfl _ _ 43 rfl W1.heap.size 3 i0 (.int .i64 0) 1 8 Tryz.underlying43 hI hz0 hz1 hz2 rfl (by decide) ov q xs rfl (HO3.out.alloc _) ⟨w3.heap.size, 0, none⟩ 1 1 [.int .i64 (n : Int)] rfl rfl (Go.cell_one_new _ _ _) (by simp [Value.oneCell']) (by unfold maxLen; omega) (by omega) (by simp; omega) ?_); intro v' w4 hown4 hg4 hnil4 hat4)
        have HR4 := Lib.hid (show w4.ownsRow W1.heap.size 3 1 v' (idsN m (n + 1)).length ((idsN m (n + 1)).map iv) by
          rw [HY.out, List.length_append, List.map_append, ← HQ.out, ← HX.out]
          exact hown4)
        have HC4 := Lib.hid ((HC3.out.alloc (.cells #[.int .i64 (n : Int)] 3)).kept hg4 (fun r e => (HO3.out.lt r e).1))
        clear hown4 hg4 hnil4 hat4
        go_wp2_with fail
        go_roundw
        case rel => exact ⟨n + 1, by omega, by go_num, HR4.out, HC4.out⟩
        case measure => simp [intOf]; omega
      · have hd : decide (0 ≤ ixOf m (n : Int)) = false := decide_eq_false hin
        have HY := Lib.hid (idsN_no hin)
        have HFn := Lib.hid (HF.out wr HC.out (n : Int))
        generalize ixOf m (n : Int) = R at *
        clear hin
        go_wp2_with fail
        with_reducible refine HFn.out.mono ?_
        rintro e w3 ⟨rfl, hc3⟩
        have HO3 := Lib.hid (own_ch HO.out hc3 (by simp))
        have HC3 := Lib.hid (HC.out.trans hc3)
        clear hc3
        go_frame
        go_wp2_with fail
        go_roundw
        case rel => exact ⟨n + 1, by omega, by go_num, by rw [HY.out]; exact HO3.out, HC3.out⟩
        case measure => simp [intOf]; omega
    · obtain rfl : n = 256 := by omega
      clear ho hc
      go_wp2_with fail
      go_ret
      exact ⟨_, rfl, own_mono HO.out HSz.out, HAl.out.trans HC.out⟩
end Go.Proofs.YtcjemidflbfljaaGreatDoor
