/-
  The document's answer for tables: Del, Bucket, Chain, Keys.
-/
import Derived.Test.YtaccfjlpojglpaaBuR
namespace Go.Proofs.Ytaccfjlpojglpaa
open Go.RowKit bI

attribute [local go_sem] Oper.semAt_some

set_option maxRecDepth 100000 in
set_option maxHeartbeats 2000000 in
theorem rdel_any {w : World} {D : Nat} {v : Value} {L : List E} (h : RR w D v L) (hnd : (ksE L).Nodup) (hl : L.length ≤ 64) (hD : D ≤ w.heap.size) (k : Nat) :
    Calls Try.prog 11 #[v, .int .u64 (k : Int)] w fun r w' =>
      ∃ v', r = .returned (.tuple #[v', .bool (decide (k ∈ ksE L))]) ∧ RR w' D v' (delE L k) ∧ Ch [] w w' := by
  obtain ⟨i0, hi, hz0, hz1, hz2⟩ := info_parts infoR
  by_cases hk : k ∈ ksE L
  · rw [decide_eq_true hk]
    obtain ⟨A, e, B, rfl, rfl, hA⟩ := key_parts hk
    have HF := Lib.hid (rfind_in h hA hl)
    have hB : e.k ∉ ksE B := by
      intro hm
      simp only [ksE, List.map_append, List.map_cons, List.nodup_append, List.nodup_cons] at hnd
      exact hnd.2.1.1 hm
    have HE := Lib.hid (show delE (A ++ e :: B) e.k = A ++ B from del_at hA hB)
    obtain ⟨a, ha⟩ : ∃ a, A.length = a := ⟨_, rfl⟩
    obtain ⟨b, hb⟩ : ∃ b, B.length = b := ⟨_, rfl⟩
    obtain ⟨m, hm⟩ : ∃ m, (A ++ e :: B).length = m := ⟨_, rfl⟩
    have hmab : m = a + 1 + b := by rw [← hm, ← ha, ← hb]; simp; omega
    have h1 := h
    unfold RR at h1
    rcases h1.2 with ⟨_, h0⟩ | ⟨g, cap, cur, rfl, _, _, hmc, _⟩
    · omega
    · have hcells := h1.cells (g := g) rfl
      have hlA : (cells A).length = a * 2 := by rw [cells_len, ha]
      have hlB : (cells B).length = b * 2 := by rw [cells_len, hb]
      obtain ⟨AD, hAD, hsrc⟩ : ∃ AD : Addr, (if cap = a + 1 then some (⟨g, 0, none⟩ : Addr) else some ⟨g, (a + 1) * 2, none⟩) = some AD ∧ Hid (∀ t u, (cells B)[t]? = some u → w.cell? (AD.add t) = some u) := by
        by_cases hc : cap = a + 1
        · refine ⟨⟨g, 0, none⟩, by simp [hc], fun t u hu => ?_⟩
          have : B = [] := List.length_eq_zero_iff.1 (by omega)
          rw [this] at hu
          simp [cells] at hu
        · refine ⟨⟨g, (a + 1) * 2, none⟩, by simp [hc], fun t u hu => ?_⟩
          have h3 := hcells ((a + 1) * 2 + t) u (by
            rw [cells_append, cells_cons, List.getElem?_append_right (by omega), hlA, show (a + 1) * 2 + t - a * 2 = t + 2 by omega]
            simpa using hu)
          rw [addr_add] at h3 ⊢
          rw [Nat.zero_add] at h3
          exact h3
      have HsA := Lib.hid (show ∀ j u, (cells A)[j]? = some u → w.cell? ((⟨g, 0, none⟩ : Addr).add j) = some u from fun j u hj => hcells j u (by
        have := (List.getElem?_eq_some_iff.1 hj).1
        rw [cells_append, List.getElem?_append_left this]; exact hj))
      obtain ⟨w1, hw1⟩ : ∃ W, W = w.alloc (.cells #[] 43) := ⟨_, rfl⟩
      have hc1 : Ch [] w w1 := by rw [hw1]; exact (Ch.refl [] w).alloc _
      have hlit : w1.ownsRow w.heap.size 43 2 (.slice (some ⟨w.heap.size, 0, none⟩) 0 0) 0 [] := by
        rw [hw1]; exact World.ownsRow_lit w #[] 0 (Nat.le_refl _) (by unfold maxLen; omega) rfl
      have hsA : ∀ j u, (cells A)[j]? = some u → w1.cell? ((⟨g, 0, none⟩ : Addr).add j) = some u := fun j u hj => by
        have h2 := HsA.out j u hj
        rw [addr_add] at h2 ⊢
        exact (hc1.cell (p := ⟨g, 0 + j, none⟩) (cell_lt h2) (by simp)).trans h2
      have HC1 := Lib.hid hc1
      have HW1 := Lib.hid hw1
      have HLA := Lib.hid hlA
      have HLB := Lib.hid hlB
      have HA := Lib.hid ha
      have HB := Lib.hid hb
      have hD1 : w.heap.size ≤ w1.heap.size := hc1.size
      rw [hw1] at hlit hsA hD1
      rw [hm] at HF hl ⊢
      rw [ha] at HF
      have hge : ¬ ((a : Int) < 0) := by omega
      have hge2 : decide ((a : Int) < 0) = false := decide_eq_false hge
      have hb0 : (0 : Int) ≤ (a : Int) := by omega
      have hb1 : (a : Int) ≤ (m : Int) := by omega
      have hb2 : (a : Int) + 1 ≤ (m : Int) := by omega
      have hb3 : (0 : Int) ≤ (a : Int) + 1 := by omega
      have hb4 : a ≤ cap := by omega
      have hbc : (a : Int) ≤ (cap : Int) := by omega
      have hw2 : IntKind.i64.wrap ((a : Int) + 1) = (a : Int) + 1 := IntWalk.i64_in _ (by omega)
      have htn : ((a : Int) + 1).toNat = a + 1 := by omega
      have hmb : m - (a + 1) = b := by omega
      clear h h1 hm ha hb hcells hk hA hB hnd hw1 hc1 hlA hlB hmab hmc
      go_enter Try.func11, Try.ntmps11
      go_wp2_with fail
      with_reducible refine HF.out.mono ?_
      rintro r w2 ⟨rfl, hw2'⟩
      subst w2
      go_wp2_with (first
        | (at_builtin; refine wpList_append_own _ rfl _ _ 28 rfl w.heap.size 43 i0 (.agg #[.int .u64 0, .int .i64 0]) 2 16 uR hi hz0 hz1 hz2 rfl (by decide) _ 0 [] rfl hlit ⟨g, 0, none⟩ a cap (cells A) rfl HLA.out hsA (cells_one _) (by unfold maxLen; omega) (by omega) hD1 ?_; intro v' w3 hown hgrow _; rw [Nat.zero_add, List.nil_append] at hown; have HO3 := Lib.hid hown; have HC3 := Lib.hid (show Ch [] w w3 from HC1.out.kept (by rw [HW1.out]; exact hgrow) (fun r e => by cases e; exact Nat.le_refl _)); clear hown hgrow)
        | (at_builtin; refine wpList_append_own _ rfl _ _ 28 rfl w.heap.size 43 i0 (.agg #[.int .u64 0, .int .i64 0]) 2 16 uR hi hz0 hz1 hz2 rfl (by decide) _ a _ rfl HO3.out AD b (cap - (a + 1)) (cells B) rfl HLB.out (fun j u hj => (HC3.out.cell (cell_lt (hsrc.out j u hj)) (by simp)).trans (hsrc.out j u hj)) (cells_one _) (by unfold maxLen; omega) (by omega) HC3.out.size ?_; intro v4 w4 hown hgrow _; have HO4 := Lib.hid hown; have HC4 := Lib.hid (show Ch [] w w4 from HC3.out.kept hgrow (fun r e => (HO3.out.lt r e).1)); clear hown hgrow)
        | fail)
      go_ret2
      rw [HE.out]
      refine ⟨_, rfl, ?_, HC4.out⟩
      have := own_mono HO4.out hD
      unfold RR
      rw [cells_append, show (A ++ B).length = a + b by rw [List.length_append, HA.out, HB.out]]
      exact this
  · rw [decide_eq_false hk]
    have HF := Lib.hid (rfind_not h hk hl)
    have HE := Lib.hid (del_not hk)
    have HR := Lib.hid h
    clear h hk hnd
    go_enter Try.func11, Try.ntmps11
    go_wp2_with fail
    with_reducible refine HF.out.mono ?_
    rintro r w2 ⟨rfl, hw2⟩
    subst w2
    go_wp2_with fail
    go_ret2
    rw [HE.out]
    exact ⟨_, rfl, HR.out, Ch.refl _ _⟩

theorem rbucket_any (n k : Nat) (w : World) (hn : 1 ≤ n ∧ n ≤ 64) : Calls Try.prog 16 #[.int .u64 (k : Int), .int .i64 (n : Int)] w fun e w' => e = .returned (.int .i64 ((bk n k : Nat) : Int)) ∧ w' = w := by
  have h0 : ¬ n = 0 := by omega
  obtain ⟨m, hm⟩ : ∃ m, m = k * 11400714819323198485 % 18446744073709551616 := ⟨_, rfl⟩
  obtain ⟨q, hq⟩ : ∃ q, q = m / 4294967296 := ⟨_, rfl⟩
  obtain ⟨r, hr⟩ : ∃ r, r = q % n := ⟨_, rfl⟩
  have HR := Lib.hid (show bk n k = r by unfold bk; rw [if_neg h0, hr, hq, hm])
  have hm64 : m < 18446744073709551616 := by rw [hm]; exact Nat.mod_lt _ (by decide)
  have hq32 : q < 4294967296 := by omega
  have hrn : r < n := by rw [hr]; exact Nat.mod_lt _ (by omega)
  have e1 : IntKind.u64.wrap ((k : Int) * 11400714819323198485) = (m : Int) := by
    rw [IntKind.wrap_u64, hm]
    omega
  have e2 : (m : Int).tdiv 4294967296 = (q : Int) := by rw [hq]; rfl
  have e2' : (m : Int) / 4294967296 = (q : Int) := by omega
  have e7 : IntKind.u64.wrap (q : Int) = (q : Int) := by rw [IntKind.wrap_u64]; omega
  have e3 : (q : Int) % (n : Int) = (r : Int) := by rw [hr]; rfl
  have e3' : (q : Int).tmod (n : Int) = (r : Int) := by rw [hr]; rfl
  have e6 : IntKind.u64.wrap (n : Int) = (n : Int) := by rw [IntKind.wrap_u64]; omega
  have e4 : IntKind.i64.wrap (r : Int) = (r : Int) := IntWalk.i64_in _ (by omega)
  have e5 : wrap64 (r : Int) = (r : Int) := by unfold wrap64; omega
  clear hm hq hr hm64 hq32 hrn hn
  go_enter Try.func16, Try.ntmps16
  go_wp2_with fail
  go_ret
  exact ⟨by rw [HR.out]; rfl, rfl⟩

theorem chn_take {n b i : Nat} {L : List E} {e : E} (h : L[i]? = some e) : chn n b (L.take (i + 1)) = chn n b (L.take i) ++ if bk n e.k = b then [e] else [] := by
  obtain ⟨hlt, he⟩ := List.getElem?_eq_some_iff.1 h
  unfold chn
  rw [List.take_succ_eq_append_getElem hlt, he, List.filter_append]
  congr 1
  by_cases hb : bk n e.k = b
  · rw [if_pos hb, List.filter_cons, if_pos (decide_eq_true hb)]; rfl
  · rw [if_neg hb, List.filter_cons, if_neg (by simpa using hb)]; rfl

set_option maxRecDepth 100000 in
set_option maxHeartbeats 2000000 in
theorem rchain_any {w : World} {D : Nat} {v : Value} {L : List E} (h : RR w D v L) (hl : L.length ≤ 64) (n b : Nat) (hn : 1 ≤ n ∧ n ≤ 64) :
    Calls Try.prog 22 #[v, .int .i64 (b : Int), .int .i64 (n : Int)] w fun r w' => ∃ v', r = .returned v' ∧ w'.ownsRow w.heap.size 29 1 v' (chn n b L).length (u64s (ksE (chn n b L))) ∧ Ch [] w w' := by
  obtain ⟨i0, hi, hz0, hz1, hz2⟩ := info_parts infoU
  obtain ⟨m, hm⟩ : ∃ m, m = L.length := ⟨_, rfl⟩
  have HBu := Lib.hid (fun k W => rbucket_any n k W hn)
  have H := Lib.hid h
  have HM := Lib.hid hm
  obtain ⟨a, cap, rfl⟩ := h.form
  rw [← hm] at hl ⊢
  clear h hm hn
  go_enter Try.func22, Try.ntmps22
  go_wp2
  go_loopw [7, 8] (fun ov iv wr => ∃ i : Nat, i ≤ m ∧ iv = .int .i64 (i : Int) ∧ wr.ownsRow w.heap.size 29 1 ov (chn n b (L.take i)).length (u64s (ksE (chn n b (L.take i)))) ∧ Ch [] w wr) (fun _ iv _ => m - (intOf iv).toNat)
  case atStart => exact ⟨0, Nat.zero_le _, rfl, World.ownsRow_nil _ _ _ _, Ch.refl _ _⟩
  case round =>
    obtain ⟨i, hi', rfl, hrow, hc⟩ := hrel
    have HR := Lib.hid hrow
    have HC := Lib.hid hc
    clear hrow hc
    by_cases hlt : i < m
    · have hb0 : (0 : Int) ≤ (i : Int) := by omega
      have hb1 : (i : Int) < (m : Int) := by omega
      obtain ⟨e, he⟩ : ∃ e, L[i]? = some e := ⟨_, List.getElem?_eq_getElem (by rw [← HM.out]; exact hlt)⟩
      obtain ⟨g, cap', e', -, -, c0, -⟩ := (H.out.quiet HC.out).at he
      obtain ⟨rfl, rfl⟩ : a = some ⟨g, 0, none⟩ ∧ cap = cap' := by simpa [HM.out] using e'
      have HT := Lib.hid (chn_take (n := n) (b := b) he)
      obtain ⟨y, hy⟩ : ∃ y, y = e.k := ⟨_, rfl⟩
      rw [← hy] at c0 HT
      have HY := Lib.hid hy
      clear he e' hy
      have HB := Lib.hid (HBu.out y wr)
      obtain ⟨z, hz⟩ : ∃ z, z = bk n y := ⟨_, rfl⟩
      rw [← hz] at HB HT
      clear hz
      by_cases hzb : z = b
      · subst hzb
        have HL2 := Lib.hid (show chn n z (L.take (i + 1)) = chn n z (L.take i) ++ [e] by rw [HT.out, if_pos rfl])
        have hzz : ((z : Int) == (z : Int)) = true := by simp
        have hlen : (chn n z (L.take i)).length < 64 := by have := chn_len n z (L.take i); rw [List.length_take] at this; omega
        have hsz := HC.out.size
        go_wp2_with (first
          | (go_at_call 16; with_reducible refine HB.out.mono ?_; rintro r w2 ⟨rfl, rfl⟩)
          | (at_builtin; refine wpList_append_own _ rfl _ _ 48 rfl w.heap.size 29 i0 (.int .u64 0) 1 8 Try.underlying48 hi hz0 hz1 hz2 rfl (by decide) _ _ _ rfl (HR.out.alloc _) ⟨w2.heap.size, 0, none⟩ 1 1 [.int .u64 (y : Int)] rfl rfl (cell_one_new _ _ _) (by simp [Value.oneCell']) (by unfold maxLen; omega) (by omega) (by simp; omega) ?_; intro v' w3 hown hgrow _; have HO := Lib.hid hown; have HG3 := Lib.hid hgrow; clear hown hgrow)
          | fail)
        go_roundw
        case rel => exact ⟨i + 1, by omega, by go_num, by rw [HL2.out, show ksE (chn n z (L.take i) ++ [e]) = ksE (chn n z (L.take i)) ++ [y] by rw [HY.out]; simp [ksE], u64s_append, List.length_append]; exact HO.out, (HC.out.alloc _).kept HG3.out (fun r e => (HR.out.lt r e).1)⟩
        case measure => simp [intOf]; omega
      · have hzz : ((z : Int) == (b : Int)) = false := by simp; omega
        go_wp2_with (first
          | (go_at_call 16; with_reducible refine HB.out.mono ?_; rintro r w2 ⟨rfl, rfl⟩)
          | fail)
        go_roundw
        case rel => exact ⟨i + 1, by omega, by go_num, by rw [HT.out, if_neg hzb, List.append_nil]; exact HR.out, HC.out⟩
        case measure => simp [intOf]; omega
    · obtain rfl : i = m := by omega
      have HL := Lib.hid (show L.take i = L from List.take_of_length_le (by rw [HM.out]; exact Nat.le_refl _))
      go_wp2
      go_ret
      exact ⟨_, rfl, by rw [← HL.out]; exact HR.out, HC.out⟩

set_option maxRecDepth 100000 in
set_option maxHeartbeats 2000000 in
theorem rkeys_any {w : World} {D : Nat} {v : Value} {L : List E} (h : RR w D v L) (hl : L.length ≤ 64) (n : Nat) (hn : 1 ≤ n ∧ n ≤ 64) :
    Calls Try.prog 20 #[v, .int .i64 (n : Int)] w fun r w' => ∃ v', r = .returned v' ∧ w'.ownsRow w.heap.size 29 1 v' (keysE n L).length (u64s (keysE n L)) ∧ Ch [] w w' := by
  obtain ⟨i0, hi, hz0, hz1, hz2⟩ := info_parts infoU
  have hn64 := hn.2
  have H := Lib.hid h
  have HN := Lib.hid hn
  have HLe := Lib.hid (show ∀ m, m ≤ n → lenE n L m ≤ 64 from fun m hm => by
    have h1 := lenE_le (n := n) L (m := m) (n - m)
    rw [show m + (n - m) = n by omega, lenE_all (by omega)] at h1
    omega)
  have HL64 := Lib.hid hl
  have HK := Lib.hid (show keysE n L = keysN n L n from rfl)
  clear h hn hl
  go_enter Try.func20, Try.ntmps20
  go_wp2_with fail
  go_loopw [5, 6] (fun lv iv wr => ∃ j : Nat, j ≤ n ∧ iv = .int .i64 (j : Int) ∧ wr.ownsRow w.heap.size 29 1 lv (keysN n L j).length (u64s (keysN n L j)) ∧ Ch [] w wr) (fun _ iv _ => n - (intOf iv).toNat)
  case atStart => exact ⟨0, Nat.zero_le _, rfl, World.ownsRow_nil _ _ _ _, Ch.refl _ _⟩
  case round =>
    obtain ⟨j, hj, rfl, hrow, hc⟩ := hrel
    have HR := Lib.hid hrow
    have HC := Lib.hid hc
    clear hrow hc
    by_cases hlt : j < n
    · have HCh := rchain_any (H.out.quiet HC.out) HL64.out n j HN.out
      have HCh := Lib.hid HCh
      have hl1 := HLe.out (j + 1) (by omega)
      have hl2 : lenE n L (j + 1) = lenE n L j + (chn n j L).length := rfl
      have HS := Lib.hid (keysN_succ n L j)
      have hkl := keysN_len n L j
      obtain ⟨c, hcn⟩ : ∃ c, c = (chn n j L).length := ⟨_, rfl⟩
      obtain ⟨q, hq⟩ : ∃ q, q = (keysN n L j).length := ⟨_, rfl⟩
      have HR2 := HR.out
      rw [← hq] at hkl HR2
      rw [← hcn] at HCh hl2
      have HR2 := Lib.hid HR2
      have hb : q + c ≤ 64 := by omega
      have HLen := Lib.hid (show (keysN n L (j + 1)).length = q + c by rw [keysN_len]; omega)
      have HV := Lib.hid (show u64s (keysN n L (j + 1)) = u64s (keysN n L j) ++ u64s (ksE (chn n j L)) by rw [HS.out, u64s_append])
      clear hl1 hl2 hkl hcn hq
      go_wp2_with fail
      with_reducible refine HCh.out.mono ?_
      rintro e w2 ⟨x, rfl, hrx, hcx⟩
      have hr2 := own_ch HR2.out hcx (by simp)
      have HC2 := Lib.hid (HC.out.trans hcx)
      have hsz := HC2.out.size
      rcases hrx.2 with ⟨rfl, h0⟩ | ⟨g, cx, cur, rfl, _⟩
      · have HZ := Lib.hid (show ksE (chn n j L) = [] by
          have h2 := hrx.1
          rw [u64s_len, h0] at h2
          exact List.length_eq_zero_iff.1 (by omega))
        have HR3 := Lib.hid hr2
        have HR2' := Lib.hid (show w2.ownsRow w.heap.size 29 1 u5 (keysN n L j).length (u64s (keysN n L j)) from own_ch HR.out hcx (by simp))
        clear hcx hrx HCh h0
        go_wp2_with (first | (at_builtin; refine wpList_append_own_none rfl _ _ 48 rfl w.heap.size 29 i0 1 Try.underlying48 hi _ q _ rfl HR3.out rfl ?_) | fail)
        go_roundw
        case rel => exact ⟨j + 1, by omega, by go_num, by rw [HV.out, HS.out, HZ.out, List.append_nil]; simpa [u64s] using HR2'.out, HC2.out⟩
        case measure => simp [intOf]; omega
      · have hcells := hrx.cells (g := g) rfl
        have HLo := Lib.hid (fun r (e : u5.ownBlock = some r) => (hr2.lt r e).1)
        have HX1 := Lib.hid (show (u64s (ksE (chn n j L))).length = c * 1 by rw [hrx.1])
        clear hcx hrx HCh
        go_wp2_with (first | (at_builtin; refine wpList_append_own _ rfl _ _ 48 rfl w.heap.size 29 i0 (.int .u64 0) 1 8 Try.underlying48 hi hz0 hz1 hz2 rfl (by decide) _ q _ rfl hr2 ⟨g, 0, none⟩ c cx (u64s (ksE (chn n j L))) rfl HX1.out hcells (u64s_one _) (by unfold maxLen; omega) (by omega) hsz ?_; intro v' w3 hown' hgrow _; have HO := Lib.hid hown'; have HG3 := Lib.hid hgrow; clear hown' hgrow) | fail)
        go_roundw
        case rel => exact ⟨j + 1, by omega, by go_num, by rw [HLen.out, HV.out]; exact HO.out, HC2.out.kept HG3.out HLo.out⟩
        case measure => simp [intOf]; omega
    · obtain rfl : j = n := by omega
      go_wp2
      go_ret
      exact ⟨_, rfl, by rw [HK.out]; exact HR.out, HC.out⟩
end Go.Proofs.Ytaccfjlpojglpaa
