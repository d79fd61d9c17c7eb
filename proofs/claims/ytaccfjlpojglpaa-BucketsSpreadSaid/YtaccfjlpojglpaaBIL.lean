/-
  A table of values of int: Chain, Keys.
-/
import Derived.Test.YtaccfjlpojglpaaBID
namespace Go.Proofs.Ytaccfjlpojglpaa.bI
open Go.RowKit Go.Shelf

attribute [local go_sem] Oper.semAt_some

theorem map_range (C : List E) : (List.range C.length).map (kA C) = ksE C := by
  apply List.ext_getElem?
  intro j
  by_cases hj : j < C.length
  · have h : C[j]? = some C[j] := List.getElem?_eq_getElem hj
    rw [List.getElem?_map, List.getElem?_range hj]
    simp [kA_at h, ksE, h]
  · simp [ksE, hj]

set_option maxRecDepth 100000 in
set_option maxHeartbeats 2000000 in
theorem chain_in (f S n : Nat) (p : Option Addr) (z : Int) (L : List E) (w : World) (hT : TG w S p n L) :
    CallsIn Fence.wide (f + 6) Try.prog 21 #[.pointer p, .int .i64 z] w fun e W' =>
      ∃ v, e = .returned v ∧ W'.ownsRow w.heap.size 29 1 v (chI n L z).length (u64s (ksE (chI n L z))) ∧ Ch [] w W' := by
  have HT := Lib.hid hT
  obtain ⟨C, hC⟩ : ∃ C, C = chI n L z := ⟨_, rfl⟩
  rw [← hC]
  have hC64 : C.length ≤ 64 := by rw [hC]; exact Nat.le_trans (chI_len n L z) hT.le.2
  clear hT
  have hw : ∀ f, Fence.wide.fn f := fun _ => trivial
  have hd : Fence.wide.depth = none := rfl
  have h1 : 1 ≤ f + 6 := by omega
  obtain ⟨i0, hi, hz0, hz1, hz2⟩ := info_parts infoU
  refine callsIn_of_wp_marks Try.func21 rfl trivial ?_ rfl
  simp only [Try.ntmps21, List.size_toArray, List.length_cons, List.length_nil, Nat.reduceAdd, Nat.reduceSub, Array.replicate_succ, Array.replicate_zero, List.push_toArray, List.append_toArray, List.nil_append, List.cons_append]
  gi_wp2_with (first
    | (gi_at_call 37; refine (places_in _ _ _ _).mono ?_; rintro e w' ⟨rfl, rfl⟩)
    | fail)
  obtain ⟨V1, hV1⟩ : ∃ V, V = w.alloc (.cells #[.slice none 0 0] 48) := ⟨_, rfl⟩
  obtain ⟨V2, hV2⟩ : ∃ V, V = V1.alloc (.cells #[.pointer p] 23) := ⟨_, rfl⟩
  obtain ⟨W0, hW0⟩ : ∃ V, V = V2.alloc (.cells #[.int .i64 z] 3) := ⟨_, rfl⟩
  have s1 : V1.heap.size = w.heap.size + 1 := by rw [hV1]; simp
  have s2 : V2.heap.size = w.heap.size + 1 + 1 := by rw [hV2]; simp [s1]
  have hsz : W0.heap.size = w.heap.size + 1 + 1 + 1 := by rw [hW0]; simp [s2]
  have hc0 : Ch [] w W0 := by rw [hW0, hV2, hV1]; exact (((Ch.refl [] w).alloc _).alloc _).alloc _
  have q0 : Boxed W0 w.heap.size 48 (.slice none 0 0) := by rw [hW0, hV2, hV1]; exact ((Boxed.new w _ _).alloc _).alloc _
  have q1 : Boxed W0 (w.heap.size + 1) 23 (.pointer p) := by rw [hW0, hV2, ← s1]; exact (Boxed.new V1 _ _).alloc _
  have q2 : Boxed W0 (w.heap.size + 1 + 1) 3 (.int .i64 z) := by rw [hW0, ← s2]; exact Boxed.new V2 _ _
  rw [← hV1, ← hV2, ← hW0]
  clear hV1 hV2 hW0 s1 s2
  have hseq := places_stops (f + 6 - 1) W0 q2.cell q1.cell (HT.out.quiet hc0)
  rw [← hC] at hseq
  clear hC
  refine wpIn_range_p rfl h1 (gf := 52) (lb := #[.pointer (some ⟨w.heap.size + 1 + 1, 0, none⟩), .pointer (some ⟨w.heap.size + 1, 0, none⟩)]) rfl trivial (enters_of Try.func52 (by kernel_rfl) rfl)
    hseq
    (fun A B hAB k o hk _ _ => (hAB.block k (Array.getElem?_eq_some_iff.1 hk).1 (by simp)).trans hk)
    (fun h g => h.trans g) (fun W l o o' _ ho hc _ _ => KpT.put W l o o' ho hc) (fun _ => rfl)
    (fun pre W => (∃ v, Boxed W w.heap.size 48 v ∧ W.ownsRow w.heap.size 29 1 v pre.length (u64s (pre.map (kA C))) ∧ True) ∧ Ch [] w W)
    (fun _ _ _ => False)
    (OwnFrom.and (Own.from (holdsRow_own w.heap.size w.heap.size 48 29 1 (fun pre : List Nat => pre.length) (fun pre => u64s (pre.map (kA C))) (fun _ _ => True)) _) (ownFrom_ch (by omega)))
    (fun s A B' hs hc => by
      obtain ⟨⟨v, hv, hr, _⟩, hq⟩ := hs
      exact ⟨⟨v, hv.kept hc.grown0 (by simp), own_ch hr hc (by simp), trivial⟩, hq.trans hc⟩)
    (fun _ _ _ _ _ hs _ _ => hs)
    ⟨⟨_, q0, World.ownsRow_nil _ _ _ _, trivial⟩, hc0⟩
    (fun x => { tmps := #[.pointer p, .int .i64 z, undef, undef, .slice none 0 0, .pointer (some ⟨w.heap.size, 0, none⟩), undef, .int .u64 ((kA C x : Nat) : Int), .pointer p, .int .i64 z, .func (.func 52) #[] #[.pointer (some ⟨w.heap.size + 1 + 1, 0, none⟩), .pointer (some ⟨w.heap.size + 1, 0, none⟩)], .int .i64 (x : Int), .int .u64 ((kA C x : Nat) : Int), undef, undef, undef, undef, undef], defers := [] }) ?assign ?body ?done ?stop
  case assign =>
    intro l x W K hK
    gi_wp2
    exact hK
  case body =>
    rintro l pre x W ⟨⟨v, hv, hrow, _⟩, hq⟩ hpre
    have hc := hv.cell
    have hlt : pre.length < 64 := by have := not_last hpre; omega
    obtain ⟨y, hy⟩ : ∃ y, kA C x = y := ⟨_, rfl⟩
    have HM := Lib.hid (show (pre ++ [x]).map (kA C) = pre.map (kA C) ++ [y] by rw [List.map_append, ← hy]; rfl)
    rw [hy]
    clear hy
    gi_wp2_with (gi_at_builtin; refine wpListIn_append_own _ rfl _ _ 48 rfl w.heap.size 29 i0 (.int .u64 0) 1 8 Try.underlying48 hi hz0 hz1 hz2 rfl (by decide) _ _ _ rfl (hrow.alloc _) ⟨W.heap.size, 0, none⟩ 1 1 [.int .u64 (y : Int)] rfl rfl (cell_one_new _ _ _) (by simp [Value.oneCell']) (by unfold maxLen; omega) (by omega) (by have := hq.size; simp; omega) ?_; intro v' w3 hown' hgrow _; obtain ⟨g', cap', rfl⟩ := ownsRow_succ hown'; obtain ⟨hv1, hv2, hr2, hk2, hb2⟩ := hv.appended (by decide) hrow hq.size (by omega) hown' hgrow; have hc1 := hv1.cell; have hf1 := hv1.frozen)
    refine ⟨hk2.from _, ?_, ⟨_, hv2, by rw [HM.out]; simpa [u64s] using hr2, trivial⟩, Ch.of_below ((hq.below w.heap.size (by simp) (Nat.le_refl _)).trans hb2)⟩
    exact (((KpT.ch ((Ch.refl [] W).alloc _)).grown (hrow.alloc _) (by decide) hgrow).set hv1 (by decide) _)
  case done =>
    rintro D ys W hD rfl ⟨⟨v, hv, hrow, _⟩, hq⟩ hK
    have hc := hv.cell
    gi_wp2
    refine ⟨by simp, .inl ⟨_, _, rfl, run_takeDeferred hK, ?_⟩⟩
    rw [map_range, List.length_range] at hrow
    exact ⟨_, results_tmp rfl _ _ _, v, rfl, ownsRow_putObj hrow _ hK rfl, (ownFrom_ch (β := Unit) (w := w) (Nat.le_refl _)) () W _ (some D) hq (grownBy_putObj' W D _) (fun r e => by cases e; exact ⟨by omega, _, hK, rfl⟩)⟩
  case stop =>
    rintro D c pre W _ _ h _
    exact h.elim
theorem chain_any {S n : Nat} {p : Option Addr} {L : List E} (z : Int) {w : World} (hT : TG w S p n L) :
    Calls Try.prog 21 #[.pointer p, .int .i64 z] w fun e W' =>
      ∃ v, e = .returned v ∧ W'.ownsRow w.heap.size 29 1 v (chI n L z).length (u64s (ksE (chI n L z))) ∧ Ch [] w W' := callsIn_wide.1 (chain_in 0 S n p z L w hT)

set_option maxRecDepth 100000 in
set_option maxHeartbeats 2000000 in
theorem keys_any {S n : Nat} {p : Option Addr} {L : List E} {w : World} (hT : TG w S p n L) :
    Calls Try.prog 19 #[.pointer p] w fun e W' =>
      ∃ v, e = .returned v ∧ W'.ownsRow w.heap.size 29 1 v (keysE n L).length (u64s (keysE n L)) ∧ Ch [] w W' := by
  have HB := Lib.hid (buckets_any hT)
  have HT := Lib.hid hT
  have hn64 := hT.le.1
  have HLe := Lib.hid (show ∀ m, m ≤ n → lenE n L m ≤ 64 from fun m hm => by
    rcases hT with ⟨_, rfl, rfl⟩ | ⟨R, K, room, H, rfl, h⟩
    · rw [lenE_nil]; omega
    · have h1 := lenE_le (n := n) L (m := m) (n - m)
      rw [show m + (n - m) = n by omega, lenE_all (by have := h.hn; omega)] at h1
      have := h.hl; have := h.hr; omega)
  obtain ⟨i0, hi, hz0, hz1, hz2⟩ := info_parts infoU
  have HK := Lib.hid (show keysE n L = keysN n L n from rfl)
  clear hT
  go_enter Try.func19, Try.ntmps19
  go_wp2_with fail
  with_reducible refine HB.out.mono ?_
  rintro e w1 ⟨rfl, hw1⟩
  subst w1
  go_wp2_with fail
  go_loopw [3, 7] (fun lv iv wr => ∃ j : Nat, j ≤ n ∧ iv = .int .i64 (j : Int) ∧ wr.ownsRow w.heap.size 29 1 lv (keysN n L j).length (u64s (keysN n L j)) ∧ Ch [] w wr) (fun _ iv _ => n - (intOf iv).toNat)
  case atStart => exact ⟨0, Nat.zero_le _, rfl, World.ownsRow_nil _ _ _ _, Ch.refl _ _⟩
  case round =>
    obtain ⟨j, hj, rfl, hrow, hc⟩ := hrel
    have HR := Lib.hid hrow
    have HC := Lib.hid hc
    clear hrow hc
    by_cases hlt : j < n
    · have HCh := chain_any (j : Int) (HT.out.quiet HC.out)
      rw [chI_in hlt] at HCh
      have HCh := Lib.hid HCh
      have hl1 := HLe.out (j + 1) (by omega)
      have hl2 : lenE n L (j + 1) = lenE n L j + (chn n j L).length := rfl
      have HS := Lib.hid (keysN_succ n L j)
      have hkl := keysN_len n L j
      obtain ⟨c, hcn⟩ : ∃ c, c = (chn n j L).length := ⟨_, rfl⟩
      obtain ⟨q, hq⟩ : ∃ q, q = (keysN n L j).length := ⟨_, rfl⟩
      have HR2 := HR.out
      rw [← hq] at hkl HR2
      rw [← hcn] at HCh hl2
      have HR2 := Lib.hid HR2
      have hb : q + c ≤ 64 := by omega
      have HLen := Lib.hid (show (keysN n L (j + 1)).length = q + c by rw [keysN_len]; omega)
      have HV := Lib.hid (show u64s (keysN n L (j + 1)) = u64s (keysN n L j) ++ u64s (ksE (chn n j L)) by rw [HS.out, u64s_append])
      clear hl1 hl2 hkl hcn hq
      go_wp2_with fail
      with_reducible refine HCh.out.mono ?_
      rintro e w2 ⟨x, rfl, hrx, hcx⟩
      have hr2 := own_ch HR2.out hcx (by simp)
      have HC2 := Lib.hid (HC.out.trans hcx)
      have hsz := HC2.out.size
      rcases hrx.2 with ⟨rfl, h0⟩ | ⟨g, cx, cur, rfl, _⟩
      · have HZ := Lib.hid (show ksE (chn n j L) = [] by
          have h2 := hrx.1
          rw [u64s_len, h0] at h2
          exact List.length_eq_zero_iff.1 (by omega))
        have HR3 := Lib.hid hr2
        have HR2' := Lib.hid (show w2.ownsRow w.heap.size 29 1 u3 (keysN n L j).length (u64s (keysN n L j)) from own_ch HR.out hcx (by simp))
        clear hcx hrx HCh h0
        go_wp2_with (first | (at_builtin; refine wpList_append_own_none rfl _ _ 48 rfl w.heap.size 29 i0 1 Try.underlying48 hi _ q _ rfl HR3.out rfl ?_) | fail)
        go_roundw
        case rel => exact ⟨j + 1, by omega, by go_num, by rw [HV.out, HS.out, HZ.out, List.append_nil]; simpa [u64s] using HR2'.out, HC2.out⟩
        case measure => simp [intOf]; omega
      · have hcells := hrx.cells (g := g) rfl
        have HLo := Lib.hid (fun r (e : u3.ownBlock = some r) => (hr2.lt r e).1)
        have HX1 := Lib.hid (show (u64s (ksE (chn n j L))).length = c * 1 by rw [hrx.1])
        clear hcx hrx HCh
        go_wp2_with (first | (at_builtin; refine wpList_append_own _ rfl _ _ 48 rfl w.heap.size 29 i0 (.int .u64 0) 1 8 Try.underlying48 hi hz0 hz1 hz2 rfl (by decide) _ q _ rfl hr2 ⟨g, 0, none⟩ c cx (u64s (ksE (chn n j L))) rfl HX1.out hcells (u64s_one _) (by unfold maxLen; omega) (by omega) hsz ?_; intro v' w3 hown' hgrow _; have HO := Lib.hid hown'; have HG3 := Lib.hid hgrow; clear hown' hgrow) | fail)
        go_roundw
        case rel => exact ⟨j + 1, by omega, by go_num, by rw [HLen.out, HV.out]; exact HO.out, HC2.out.kept HG3.out HLo.out⟩
        case measure => simp [intOf]; omega
    · obtain rfl : j = n := by omega
      go_wp2
      go_ret
      exact ⟨_, rfl, by rw [HK.out]; exact HR.out, HC.out⟩
end Go.Proofs.Ytaccfjlpojglpaa.bI
