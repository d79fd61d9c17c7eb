/-
  The document's Read.
-/
import Derived.Test.YtlffcccicpdnfaaFrX
namespace Go.Proofs.Ytlffcccicpdnfaa
open Go.RowKit Go.BigFrame

attribute [local go_sem] Oper.semAt_some

theorem XB.fr {w : World} {X : Nat} {x : V5} {t : TypeId} (h : XB w X x t) (k : Nat) : w.frozen? ⟨X, k, none⟩ = false := by
  unfold XB at h
  simp [World.frozen?, h]
theorem XB.c0 {w : World} {X : Nat} {x : V5} {t : TypeId} (h : XB w X x t) : w.cell? ⟨X, 0, none⟩ = some (.bool x.r) := by
  rw [cell_of_row w X 0 _ t (0, 0) h]; rfl
theorem XB.set4 {w : World} {X : Nat} {x : V5} {t : TypeId} (h : XB w X x t) (n : Nat) : XB (w.setCell ⟨X, 4, none⟩ (.int .u64 (n : Int))) X { x with n := n } t := by
  obtain ⟨hlt, hk⟩ := Array.getElem?_eq_some_iff.1 h
  show (w.heap.modify X _)[X]? = _
  rw [Array.getElem?_eq_getElem (by rw [Array.size_modify]; exact hlt), Array.getElem_modify_self, hk]
  rfl
theorem BW.other {w : World} {lo X : Nat} {x : V5} {t : TypeId} {v : Value} {l : List Nat} (h : BW w lo v l) (hX : XB w X x t) (hne : 5 ≠ t) (p : Nat) (u : Value) : BW (w.setCell ⟨X, p, none⟩ u) lo v l := by
  unfold BW at h ⊢
  obtain ⟨h1, h2⟩ := h
  refine ⟨h1, ?_⟩
  rcases h2 with h2 | ⟨g, cap, cur, rfl, hb, hg, r⟩
  · exact .inl h2
  · refine .inr ⟨g, cap, cur, rfl, hb, ?_, r⟩
    rw [Below.heap_setCell _ _ _ _ (fun e => ?_)]
    · exact hg
    · simp only at e
      subst e
      unfold XB at hX
      rw [hg] at hX
      exact hne (by injection hX with hX; injection hX)

set_option maxRecDepth 10000 in
set_option maxHeartbeats 8000000 in
theorem rread_in {w : World} {F : FV} (hFW : FW F) {k m : Nat} (hkm : k + m ≤ 8) :
    Calls Try.prog 18 #[.agg (fl F).toArray, .int .i64 (k : Int), .int .i64 (m : Int)] w fun e w' => ∃ v, e = .returned (.tuple #[v, .int .i64 (if (things F (10 + k) m).any (·.r) = true then 17 else 0)]) ∧ BW w' w.heap.size v (if (things F (10 + k) m).any (·.r) = true then [] else rdB F (10 + k) m) ∧ Ch [] w w' := by
  obtain ⟨i0, hI, hz0, hz1, hz2⟩ : ∃ i : TypeInfo, Try.prog.info? 5 = some i ∧ i.zero = some (.int .u8 0) ∧ i.size = 1 ∧ i.bytes = 1 := by
    refine ⟨_, rfl, by kernel_rfl, by kernel_rfl, by kernel_rfl⟩
  obtain ⟨q, hq⟩ : ∃ q, (things F (10 + k) m).any (·.r) = q := ⟨_, rfl⟩
  rw [hq]
  have HQt := Lib.hid (fun j (hj : j < m) (hr : (F (10 + k + j)).r = true) => show q = true from by
    rw [← hq, List.any_eq_true]
    exact ⟨F (10 + k + j), List.mem_iff_getElem.2 ⟨j, by rw [things_len]; exact hj, things_at F (10 + k) m j _⟩, hr⟩)
  have HQf := Lib.hid (fun (h : ∀ i, i < m → (F (10 + k + i)).r = false) => show q = false from by
    rw [← hq, List.any_eq_false]
    intro x hx
    obtain ⟨i, hi, rfl⟩ := List.mem_iff_getElem.1 hx
    rw [things_at, h i (by rw [things_len] at hi; exact hi)]; simp)
  obtain ⟨R, hR⟩ : ∃ R, w.heap.size = R := ⟨_, rfl⟩
  obtain ⟨W, hW⟩ : ∃ W, w.alloc (.cells (fl F).toArray 32) = W := ⟨_, rfl⟩
  have HR := Lib.hid (show FR W R F by rw [← hW, ← hR]; exact FR.new w F _)
  have HCW := Lib.hid (show Ch [] w W by rw [← hW]; exact (Ch.refl [] w).alloc _)
  obtain ⟨e, he⟩ : ∃ e, k + m = e := ⟨_, rfl⟩
  have hsum : IntKind.i64.wrap ((k : Int) + (m : Int)) = (e : Int) := by rw [IntKind.wrap_i64]; omega
  have hk0 : (0 : Int) ≤ (k : Int) := by omega
  have hm0 : (0 : Int) ≤ (m : Int) := by omega
  have hk8 : (k : Int) ≤ 8 := by omega
  obtain ⟨s, hs⟩ : ∃ s : Nat, 8 - k = s := ⟨_, rfl⟩
  have hsub : IntKind.i64.wrap (8 - (k : Int)) = (s : Int) := by rw [IntKind.wrap_i64]; omega
  have hms : ¬ s < m := by omega
  have HKm := Lib.hid hkm
  have HFW := Lib.hid hFW
  have HRs := Lib.hid hR
  have HWs := Lib.hid hW
  have HE := Lib.hid he
  clear hkm hFW hR hW hq hs he
  go_enter Try.func18, Try.ntmps18
  go_wp2_with fail
  rw [HRs.out, HWs.out]
  have HSm := Lib.hid hsum
  clear hk0 hm0 hk8 hsub hms
  go_loopw [8, 9] (fun v i wr => ∃ j kk : Nat, i = .int .i64 (kk : Int) ∧ kk = k + j ∧ j ≤ m ∧ BW wr W.heap.size v (rdB F (10 + k) j) ∧ (∀ i, i < j → (F (10 + k + i)).r = false) ∧ Ch [] W wr) (fun _ i _ => 8 - (intOf i).toNat)
  case atStart => exact ⟨0, k, rfl, rfl, Nat.zero_le _, BW.nil _ _, fun i h => absurd h (by omega), Ch.refl _ _⟩
  case round =>
    obtain ⟨j, kk, rfl, hkk, hj, hB, hno, hc⟩ := hrel
    have HC := Lib.hid hc
    have HB := Lib.hid hB
    have HNo := Lib.hid hno
    clear hno
    by_cases hjm : j < m
    · have hlt : (kk : Int) < (e : Int) := by have := HE.out; omega
      have hlt' : kk < e := by omega
      obtain ⟨ii, hii⟩ : ∃ ii, 10 + k + j = ii := ⟨_, rfl⟩
      have e1 : IntKind.i64.wrap (10 + (kk : Int)) = (ii : Int) := by rw [IntKind.wrap_i64]; have := HKm.out; omega
      have i18 : (ii : Int) < 18 := by have := HKm.out; omega
      obtain ⟨c0, c1, c2, c3, c4⟩ := (HR.out.a ii (by omega)).ch hc (by simp)
      have hw64 := HFW.out ii
      have hnx := Lib.hid (show rdB F (10 + k) (j + 1) = rdB F (10 + k) j ++ leB (F ii).n from by rw [← hii]; rfl)
      have HLr := Lib.hid (rdB_len F (10 + k) j)
      have HQ1 := Lib.hid (show (F ii).r = true → q = true from fun h => HQt.out j hjm (by rw [hii]; exact h))
      have HQ2 := Lib.hid (show (F ii).r = false → ∀ i, i < j + 1 → (F (10 + k + i)).r = false from fun h i hi => by
        by_cases e' : i = j
        · rw [e', hii]; exact h
        · exact HNo.out i (by omega))
      have HJm := Lib.hid (show j + 1 ≤ m ∧ kk + 1 = k + (j + 1) ∧ kk < 8 by have := HKm.out; omega)
      generalize F ii = x at *
      obtain ⟨va, vc, rfl, -, -⟩ := hB.form
      rw [HLr.out]
      obtain ⟨X, hX⟩ : ∃ b, wr.heap.size = b := ⟨_, rfl⟩
      obtain ⟨w3, hw3⟩ : ∃ W, wr.alloc (.cells #[.bool x.r, .int .i64 x.m, .int .i64 x.s, .int .i64 x.g, .int .u64 (x.n : Int)] 29) = W := ⟨_, rfl⟩
      have hal : Ch [] wr w3 := by rw [← hw3]; exact (Ch.refl [] wr).alloc _
      have hx3 : XB w3 X x 29 := by rw [← hw3, ← hX]; exact XB.new wr x _
      have HX3 := Lib.hid hx3
      have HB3 := Lib.hid (hB.ch hal (by simp))
      have HC3 := Lib.hid (hc.trans hal)
      have HXW := Lib.hid (show W.heap.size ≤ X by rw [← hX]; exact hc.size)
      have HXs := Lib.hid hX
      have HWs2 := Lib.hid hw3
      generalize rdB F (10 + k) j = l0 at *
      have ewk : IntKind.i64.wrap ((kk : Int) + 1) = ((kk + 1 : Nat) : Int) := by rw [IntKind.wrap_i64]; have := HJm.out; omega
      have x0 := hx3.c0
      rw [← hw3, ← hX] at x0
      have HSm2 := HSm.out
      clear hB hc hal hX hw3 hjm hx3 hii hkk hj
      cases hr : x.r
      · have HQr := Lib.hid (HQ2.out hr)
        have hwx := HWs2.out
        rw [hr] at x0 c0 hwx
        have HWx := Lib.hid hwx
        clear hwx
        go_wp2_with fail
        rw [HXs.out, HWx.out]
        clear x0 c0 c1 c2 c3 c4
        go_loopw [8, 11] (fun v i wr => ∃ t z : Nat, i = .int .i64 (t : Int) ∧ t ≤ 8 ∧ z = x.n / 256 ^ t ∧ BW wr W.heap.size v (l0 ++ (leB x.n).take t) ∧ XB wr X { x with n := z } 29 ∧ Ch [] W wr) (fun _ i _ => 8 - (intOf i).toNat)
        case atStart =>
          refine ⟨0, x.n, rfl, by decide, by simp, ?_, HX3.out, HC3.out⟩
          have := HB3.out
          unfold BW at this ⊢
          simpa [HLr.out] using this
        case round =>
          obtain ⟨t, z, rfl, ht, hz, hB, hX, hc⟩ := hrel
          have HC4 := Lib.hid hc
          have HX4 := Lib.hid hX
          by_cases ht8 : t < 8
          · have ht8' : (t : Int) < 8 := by omega
            have x4 : _ = some (Value.int .u64 (z : Int)) := hX.c4
            obtain ⟨y, hy⟩ : ∃ y, z % 256 = y := ⟨_, rfl⟩
            obtain ⟨z2, hz2⟩ : ∃ z2, z / 256 = z2 := ⟨_, rfl⟩
            have hzl : z < 18446744073709551616 := by rw [hz]; exact Nat.lt_of_le_of_lt (Nat.div_le_self _ _) hw64
            have e3 : (z : Int).tmod 256 = (y : Int) := by rw [Int.tmod_eq_emod_of_nonneg (by omega)]; omega
            have e4 : IntKind.u8.wrap (y : Int) = (y : Int) := by rw [IntKind.wrap_u8]; omega
            have e5 : (z : Int).tdiv 256 = (z2 : Int) := by rw [Int.tdiv_eq_ediv_of_nonneg (by omega)]; omega
            have e6 : IntKind.u64.wrap (z2 : Int) = (z2 : Int) := by rw [IntKind.wrap_u64]; omega
            have e7 : IntKind.u64.wrap (y : Int) = (y : Int) := by rw [IntKind.wrap_u64]; omega
            have HZ2 := Lib.hid (show z2 = x.n / 256 ^ (t + 1) by rw [← hz2, hz, Nat.div_div_eq_div_mul, Nat.pow_succ])
            have HN4 := Lib.hid (show l0 ++ (leB x.n).take (t + 1) = (l0 ++ (leB x.n).take t) ++ [y] by rw [leB_take ht8, ← hz, hy, List.append_assoc])
            obtain ⟨l1, hl1⟩ : ∃ l1, l0 ++ (leB x.n).take t = l1 := ⟨_, rfl⟩
            have hlen : l1.length = 8 * j + t := by rw [← hl1, List.length_append, HLr.out, List.length_take, leB_len]; omega
            rw [hl1] at hB HN4
            have ew : IntKind.i64.wrap ((t : Int) + 1) = ((t + 1 : Nat) : Int) := by rw [IntKind.wrap_i64]; omega
            obtain ⟨n1, hn1⟩ : ∃ q, l1.length = q := ⟨_, rfl⟩
            have hB2 := hB
            unfold BW at hB2
            rw [hn1] at hB2
            have HB5 := Lib.hid hB2
            have HN1 := Lib.hid (show n1 ≤ 1000 by have := HJm.out; omega)
            have HNl := Lib.hid hn1
            obtain ⟨av, ac, rfl⟩ := own_form hB2
            clear hB hB2 hl1 hlen hn1 hX hc hz hy hz2 hzl ht8
            go_wp2_with (at_builtin; go_must (refine wpList_append_own _ rfl _ _ 48 rfl W.heap.size 5 i0 (.int .u8 0) 1 1 Try.underlying48 hI hz0 hz1 hz2 rfl (by decide) _ n1 (u8l l1) rfl (HB5.out.alloc _) ⟨wr.heap.size, 0, none⟩ 1 1 [.int .u8 (y : Int)] rfl rfl (cells_u8 wr y _) (by simp [Value.oneCell']) (by unfold maxLen; have := HN1.out; omega) (by have := HN1.out; omega) (by have := HC4.out.size; simp; omega) ?_); intro v3 w5 hown3 hgrow3 hnil3; refine Hid.out ?_)
            refine Lib.hid ?_
            have HC5 := Lib.hid (own_new (HC4.out.alloc _) hgrow3 (Nat.le_refl _) (HB5.out.alloc _))
            have hx5 := (HX4.out.ch ((Ch.refl [] wr).alloc _) (by simp)).grown (HB5.out.alloc _) (by decide) hgrow3
            have HB6 := Lib.hid ((show BW w5 W.heap.size v3 (l0 ++ (leB x.n).take (t + 1)) by rw [HN4.out]; exact BW.snoc (by rw [HNl.out]; exact hown3)).other hx5 (by decide) 4 (.int .u64 (z2 : Int)))
            have HX6 := Lib.hid (hx5.set4 z2)
            have HC6 := Lib.hid (HC5.out.fresh ((Ch.refl [X] w5).setCell (p := ⟨X, 4, none⟩) (by simp) (.int .u64 (z2 : Int))) (by have := HXW.out; simp; omega))
            have x5 : _ = some (Value.int .u64 (z : Int)) := hx5.c4
            have xf := hx5.fr 4
            obtain ⟨av3, ac3, rfl⟩ := own_form hown3
            clear hown3 hgrow3 hnil3 x4 hx5
            go_wp2_with fail
            go_roundw
            case rel => exact ⟨t + 1, z2, rfl, by omega, HZ2.out, HB6.out, HX6.out, HC6.out⟩
            case measure => simp [intOf]; omega
          · obtain rfl : t = 8 := by omega
            have hB6 := hB
            rw [List.take_of_length_le (by rw [leB_len]; decide), ← hnx.out] at hB6
            have HB6 := Lib.hid hB6
            obtain ⟨av, ac, rfl, -, -⟩ := hB.form
            clear hB hB6 hX hc hz ht8
            go_wp2_with fail
            go_roundw
            case rel => exact ⟨j + 1, kk + 1, rfl, HJm.out.2.1, HJm.out.1, HB6.out, HQr.out, HC4.out⟩
            case measure => have := HJm.out; simp [intOf]; omega
      · obtain rfl := HQ1.out hr
        rw [hr] at x0 c0
        go_wp2_with fail
        go_ret2
        exact ⟨_, rfl, BW.nil _ _, (HCW.out.trans HC.out).alloc _⟩
    · obtain rfl : j = m := by omega
      have hlt : ¬ (kk : Int) < (e : Int) := by have := HE.out; omega
      have hlt' : ¬ kk < e := by have := HE.out; omega
      obtain rfl := HQf.out HNo.out
      obtain ⟨av, ac, rfl, -, -⟩ := hB.form
      have HSm2 := HSm.out
      clear hc hjm hkk hj
      go_wp2_with fail
      go_ret2
      exact ⟨_, rfl, own_mono HB.out HCW.out.size, HCW.out.trans HC.out⟩
theorem rread_any {w : World} {F : FV} (hFW : FW F) {a n : Int} (_ha : fit a) :
    Calls Try.prog 18 #[.agg (fl F).toArray, .int .i64 a, .int .i64 n] w fun e w' => ∃ v, e = .returned (.tuple #[v, .int .i64 (rdE F a n).2]) ∧ BW w' w.heap.size v (rdE F a n).1 ∧ Ch [] w w' := by
  by_cases hh : hol a n
  · obtain ⟨h0, h1, h2⟩ := id hh
    obtain ⟨k, rfl⟩ : ∃ k : Nat, a = (k : Int) := ⟨a.toNat, by omega⟩
    obtain ⟨m, rfl⟩ : ∃ k : Nat, n = (k : Int) := ⟨n.toNat, by omega⟩
    have := rread_in (w := w) hFW (k := k) (m := m) (by omega)
    unfold rdE
    rw [if_pos hh, Int.toNat_natCast, Int.toNat_natCast]
    by_cases hr : (things F (10 + k) m).any (·.r) = true
    · rw [if_pos hr]
      rw [if_pos hr, if_pos hr] at this
      exact this
    · rw [if_neg hr]
      rw [if_neg hr, if_neg hr] at this
      exact this
  · unfold rdE
    rw [if_neg hh]
    have hcond : a < 0 ∨ (0 ≤ a ∧ n < 0) ∨ (0 ≤ a ∧ 0 ≤ n ∧ 8 < a) ∨ (∃ s : Nat, 0 ≤ a ∧ 0 ≤ n ∧ a ≤ 8 ∧ IntKind.i64.wrap (8 - a) = (s : Int) ∧ (s : Int) < n) := by
      unfold hol at hh
      by_cases h0 : a < 0
      · exact .inl h0
      · by_cases h1 : n < 0
        · exact .inr (.inl ⟨by omega, h1⟩)
        · by_cases h2 : 8 < a
          · exact .inr (.inr (.inl ⟨by omega, by omega, h2⟩))
          · exact .inr (.inr (.inr ⟨(8 - a).toNat, by omega, by omega, by omega, by rw [IntKind.wrap_i64]; omega, by omega⟩))
    have HC := Lib.hid ((Ch.refl [] w).alloc (.cells (fl F).toArray 32))
    clear hh _ha hFW
    rcases hcond with h0 | ⟨h0, h1⟩ | ⟨h0, h1, h2⟩ | ⟨s, h0, h1, h2, h3, h4⟩
    all_goals
      go_enter Try.func18, Try.ntmps18
      go_wp2_with fail
      go_ret2
      exact ⟨_, rfl, BW.nil _ _, HC.out⟩
end Go.Proofs.Ytlffcccicpdnfaa
