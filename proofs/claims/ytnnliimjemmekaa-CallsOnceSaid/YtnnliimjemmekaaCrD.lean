/-
  The document's answer for layer 11: Done.
-/
import Derived.Test.YtnnliimjemmekaaCrC
namespace Go.Proofs.Ytnnliimjemmekaa
open Go.RowKit Go.Maps

attribute [local go_sem] Oper.semAt_some

/-- Those of a CPU that are done; those that are left. -/
def selM (c gen : Int) (x : Cb) : Bool := decide (x.c = c ∧ 0 < x.gen ∧ x.gen ≤ gen)
def leftM (gen : Int) (x : Cb) : Bool := decide (x.gen = 0 ∨ gen < x.gen)
def outC (c gen : Int) (M : List Cb) : List Int := (M.filter (selM c gen)).map (·.id)
def outM (gen : Int) (M : List Cb) (k : Nat) : List Int := (List.range k).flatMap fun (c : Nat) => outC (c : Int) gen M
theorem outM_succ (gen : Int) (M : List Cb) (k : Nat) : outM gen M (k + 1) = outM gen M k ++ outC (k : Int) gen M := by
  unfold outM; rw [List.range_succ, List.flatMap_append]; simp
theorem outC_len (c gen : Int) (M : List Cb) : (outC c gen M).length ≤ M.length := by unfold outC; rw [List.length_map]; exact List.length_filter_le _ _
theorem outM_len (gen : Int) (M : List Cb) : ∀ k, (outM gen M k).length ≤ k * M.length
  | 0 => by simp [outM]
  | k + 1 => by
    have h1 := outM_len gen M k
    have h2 := outC_len (k : Int) gen M
    rw [outM_succ, List.length_append, Nat.succ_mul]
    omega
theorem outC_snoc (c gen : Int) (M : List Cb) (x : Cb) : outC c gen (M ++ [x]) = outC c gen M ++ if selM c gen x then [x.id] else [] := by
  unfold outC
  rw [List.filter_append, List.map_append, List.filter_cons]
  by_cases h : selM c gen x <;> simp [h]
theorem left_snoc (gen : Int) (M : List Cb) (x : Cb) : (M ++ [x]).filter (leftM gen) = M.filter (leftM gen) ++ if leftM gen x then [x] else [] := by
  rw [List.filter_append, List.filter_cons]
  by_cases h : leftM gen x <;> simp [h]

/-- What Done tells and leaves. -/
def DoneR (w : World) (n last : Int) (M' : List Cb) (L : List Int) (e : Ending) (w' : World) : Prop :=
  ∃ v' o, e = .returned (retC n last v' o) ∧ RowC w' v' M' ∧ w'.ownsRow (w.heap.size + 1 + 1) 3 1 o L.length (ivs L) ∧ (∀ g, v'.ownBlock = some g → w.heap.size ≤ g) ∧ Ch [] w w'

/-- What holds while Done goes through the list: its boxes, the row of those that are told. -/
structure DK (w wr : World) (n last : Int) (va : Value) (v6 : Value) (L : List Int) : Prop where
  b : Three wr w.heap.size (.int .i64 n) (.int .i64 last) va
  r : Three wr (w.heap.size + 1) (.int .i64 0) (.int .i64 0) (.slice none 0 0)
  row : wr.ownsRow (w.heap.size + 1 + 1) 3 1 v6 L.length (ivs L)
  ch : Ch [] w wr
theorem DK.app {w wr w9 : World} {n last : Int} {va v6 v9 : Value} {L : List Int} (h : DK w wr n last va v6 L) (z : Int) (ho : w9.ownsRow (w.heap.size + 1 + 1) 3 1 v9 (L.length + 1) (ivs L ++ [.int .i64 z])) (hg : (wr.alloc (.cells #[.int .i64 z] 3)).grownBy w9 v6.ownBlock) :
    DK w w9 n last va v9 (L ++ [z]) := by
  have hrb : ∀ r, v6.ownBlock = some r → w.heap.size + 1 + 1 ≤ r := fun r e => (h.row.lt r e).1
  exact ⟨h.b.grown hg (fun r e => by have := hrb r e; omega), h.r.grown hg (fun r e => by have := hrb r e; omega), by simpa [ivs] using ho, (h.ch.alloc _).kept hg (fun r e => by have := hrb r e; omega)⟩
theorem DK.app3 {w wr w9 : World} {n last : Int} {va v6 : Value} {L : List Int} {m : Nat} {v8 : Value} {F : List Value} (h : DK w wr n last va v6 L) {o : Obj} (h8 : wr.ownsRow (w.heap.size + 1 + 1) 49 3 v8 m F) (hg : (wr.alloc o).grownBy w9 v8.ownBlock) : DK w w9 n last va v6 L := by
  have hrb : ∀ r, v8.ownBlock = some r → w.heap.size + 1 + 1 ≤ r := fun r e => (h8.lt r e).1
  refine ⟨h.b.grown hg (fun r e => by have := hrb r e; omega), h.r.grown hg (fun r e => by have := hrb r e; omega), ?_, (h.ch.alloc _).kept hg (fun r e => by have := hrb r e; omega)⟩
  exact (h.row.alloc o).kept hg (own_apart h.row h8 (by decide))

set_option maxRecDepth 100000 in
set_option maxHeartbeats 8000000 in
theorem rdone_any {w : World} {v : Value} {M : List Cb} (h : RowC w v M) (hl : M.length ≤ 100000) {n : Nat} (hn : n ≤ 64) (last gen : Int) :
    Calls Try.prog 12 #[.agg #[.int .i64 (n : Int), .int .i64 last, v], .int .i64 gen] w (DoneR w (n : Int) last (M.filter (leftM gen)) (outM gen M n)) := by
  obtain ⟨a, cap, rfl⟩ := h.form
  obtain ⟨i0, hI, hz0, hz1, hz2⟩ := info_parts infoC
  obtain ⟨j0, hJ, hy0, hy1, hy2⟩ := info_parts infoI
  have HR := Lib.hid h
  obtain ⟨m, hm⟩ : ∃ m, m = M.length := ⟨_, rfl⟩
  have HM := Lib.hid hm
  rw [← hm] at hl HR ⊢
  obtain ⟨W1, hW1⟩ : ∃ W, W = w.alloc (.cells #[.int .i64 (n : Int), .int .i64 last, .slice a m cap] 30) := ⟨_, rfl⟩
  obtain ⟨W2, hW2⟩ : ∃ W, W = W1.alloc (.cells #[.int .i64 0, .int .i64 0, .slice none 0 0] 30) := ⟨_, rfl⟩
  have hs1 : W1.heap.size = w.heap.size + 1 := by rw [hW1]; simp
  have hdk : DK w W2 (n : Int) last (.slice a m cap) (.slice none 0 0) [] := by
    refine ⟨?_, ?_, ⟨rfl, .inl ⟨rfl, rfl⟩⟩, ?_⟩
    · rw [hW2, hW1]; exact (Three.new w _ _ _ _).ch ((Ch.refl [] _).alloc _) (by simp)
    · rw [hW2, ← hs1]; exact Three.new W1 _ _ _ _
    · rw [hW2, hW1]; exact ((Ch.refl [] w).alloc _).alloc _
  have HDk := Lib.hid hdk
  have hb0 := hdk.b.c0
  have HOL := Lib.hid (fun k (hk : k ≤ n) => show (outM gen M k).length ≤ 6400000 from by
    have h1 := outM_len gen M k
    rw [← hm] at h1
    have h2 : k * m ≤ 64 * 100000 := Nat.mul_le_mul (by omega) hl
    omega)
  have HCL := Lib.hid (fun c k => show (outC c gen (M.take k)).length ≤ 100000 from by
    have h1 := outC_len c gen (M.take k)
    rw [List.length_take, ← hm] at h1
    omega)
  obtain ⟨M', hM'⟩ : ∃ M', M' = M.filter (leftM gen) := ⟨_, rfl⟩
  obtain ⟨L, hL⟩ : ∃ L, L = outM gen M n := ⟨_, rfl⟩
  rw [← hM', ← hL]
  have HM' := Lib.hid hM'
  have HL := Lib.hid hL
  rw [hW1] at hW2
  rw [hW2] at hb0
  clear h hm hs1 hW1 hdk hM' hL
  go_enter Try.func12, Try.ntmps12
  go_wp2_with fail
  rw [← hW2]
  clear hb0 hW2
  go_loopw [7, 6] (fun r v6 wr => ∃ k : Nat, k ≤ n ∧ r = .int .i64 (k : Int) ∧ DK w wr (n : Int) last (.slice a m cap) v6 (outM gen M k)) (fun r _ _ => n - (intOf r).toNat)
  case atStart => exact ⟨0, Nat.zero_le _, rfl, HDk.out⟩
  case round =>
    obtain ⟨c, hc, rfl, hdk⟩ := hrel
    have hb0 := hdk.b.c0
    by_cases hcn : c < n
    · have hlt : (c : Int) < (n : Int) := by omega
      have HDk := Lib.hid hdk
      have hol := HOL.out c hc
      have hb2 := hdk.b.c2
      clear hdk
      go_wp2_with fail
      go_loopw [8, 6] (fun r v6 wv => ∃ k : Nat, k ≤ m ∧ r = .int .i64 (k : Int) ∧ DK w wv (n : Int) last (.slice a m cap) v6 (outM gen M c ++ outC (c : Int) gen (M.take k))) (fun r _ _ => m - (intOf r).toNat)
      case atStart => exact ⟨0, Nat.zero_le _, rfl, by simpa [outC] using HDk.out⟩
      case round =>
        obtain ⟨k, hk, rfl, hdk⟩ := hrel
        have HDk := Lib.hid hdk
        have b0 := hdk.b.c0
        have b2 := hdk.b.c2
        by_cases hkm : k < m
        · obtain ⟨x, hx⟩ : ∃ x, M[k]? = some x := ⟨_, List.getElem?_eq_getElem (by rw [← HM.out]; exact hkm)⟩
          obtain ⟨g, rfl, e0, e1, e2⟩ := (HR.out.quiet hdk.ch).cells hx
          have hsn := outC_snoc (c : Int) gen (M.take k) x
          rw [← take_snoc3 hx] at hsn
          have HSn := Lib.hid hsn
          have hcl := HCL.out (c : Int) k
          obtain ⟨xc, hxc⟩ : ∃ y, y = x.c := ⟨_, rfl⟩
          obtain ⟨xi, hxi⟩ : ∃ y, y = x.id := ⟨_, rfl⟩
          obtain ⟨xg, hxg⟩ : ∃ y, y = x.gen := ⟨_, rfl⟩
          have HS := Lib.hid (show selM (c : Int) gen x = decide (xc = (c : Int) ∧ 0 < xg ∧ xg ≤ gen) by rw [hxc, hxg]; rfl)
          rw [← hxi] at HSn
          rw [← hxc] at e0
          rw [← hxi] at e1
          rw [← hxg] at e2
          have hlt2 : (k : Int) < (m : Int) := by omega
          obtain ⟨F, hF⟩ : ∃ F, F = outM gen M c ++ outC (c : Int) gen (M.take k) := ⟨_, rfl⟩
          have HF := Lib.hid hF
          rw [← hF] at HDk
          have hfl : F.length ≤ 6500000 := by rw [hF, List.length_append]; omega
          have hrow := HDk.out.row
          obtain ⟨a6, cp6, rfl⟩ := own_form hrow
          clear hdk hx hsn hxc hxi hxg hb0 hb2 hF hrow
          by_cases hc1 : xc = (c : Int)
          · rw [hc1] at e0
            by_cases hc2 : 0 < xg
            · by_cases hc3 : xg ≤ gen
              · have HT := Lib.hid (show outM gen M c ++ outC (c : Int) gen (M.take (k + 1)) = F ++ [xi] by
                  rw [HSn.out, HF.out, HS.out, decide_eq_true (show xc = (c : Int) ∧ 0 < xg ∧ xg ≤ gen from ⟨hc1, hc2, hc3⟩), ← List.append_assoc]; rfl)
                have d1 : decide (xg > 0) = true := decide_eq_true hc2
                have d2 : decide (xg ≤ gen) = true := decide_eq_true hc3
                clear HSn HS hc1 hc2 hc3
                go_wp2_with (at_builtin; go_must (refine wpList_append_own _ rfl _ _ 31 rfl (w.heap.size + 1 + 1) 3 j0 (.int .i64 0) 1 8 Try.underlying31 hJ hy0 hy1 hy2 rfl (by decide) _ _ _ rfl (HDk.out.row.alloc _) ⟨wr.heap.size, 0, none⟩ 1 1 [.int .i64 xi] rfl rfl (cell_one_new _ _ _) (by simp [Value.oneCell']) (by unfold maxLen; omega) (by omega) (by have := HDk.out.r.lt; simp; omega) ?_); intro v9 w9 hown9 hgrow9 _)
                have HD9 := Lib.hid (HDk.out.app xi hown9 hgrow9)
                clear hown9 hgrow9
                go_wp2_with fail
                go_roundw
                case rel => exact ⟨k + 1, by omega, by go_num, by rw [HT.out]; exact HD9.out⟩
                case measure => simp [intOf]; omega
              · have HT := Lib.hid (show outM gen M c ++ outC (c : Int) gen (M.take (k + 1)) = F by
                  rw [HSn.out, HF.out, HS.out, decide_eq_false (fun e => hc3 e.2.2)]; simp)
                have d1 : decide (xg > 0) = true := decide_eq_true hc2
                have d2 : decide (xg ≤ gen) = false := decide_eq_false hc3
                clear HSn HS hc1 hc2 hc3
                go_wp2
                go_roundw
                case rel => exact ⟨k + 1, by omega, by go_num, by rw [HT.out]; exact HDk.out⟩
                case measure => simp [intOf]; omega
            · have HT := Lib.hid (show outM gen M c ++ outC (c : Int) gen (M.take (k + 1)) = F by
                rw [HSn.out, HF.out, HS.out, decide_eq_false (fun e => hc2 e.2.1)]; simp)
              have d1 : decide (xg > 0) = false := decide_eq_false hc2
              clear HSn HS hc1 hc2
              go_wp2
              go_roundw
              case rel => exact ⟨k + 1, by omega, by go_num, by rw [HT.out]; exact HDk.out⟩
              case measure => simp [intOf]; omega
          · have HT := Lib.hid (show outM gen M c ++ outC (c : Int) gen (M.take (k + 1)) = F by
              rw [HSn.out, HF.out, HS.out, decide_eq_false (fun e => hc1 e.1)]; simp)
            have d1 : (xc == (c : Int)) = false := beq_false_of_ne hc1
            clear HSn HS hc1
            go_wp2
            go_roundw
            case rel => exact ⟨k + 1, by omega, by go_num, by rw [HT.out]; exact HDk.out⟩
            case measure => simp [intOf]; omega
        · have hkm' : ¬ (k : Int) < (m : Int) := by omega
          clear hdk hb0 hb2
          go_wp2
          go_roundw
          case rel =>
            refine ⟨c + 1, by omega, by go_num, ?_⟩
            have h5 := HDk.out
            rw [List.take_of_length_le (by rw [← HM.out]; omega), ← outM_succ] at h5
            exact h5
          case measure => simp [intOf]; omega
    · have hcn' : ¬ (c : Int) < (n : Int) := by omega
      obtain rfl : c = n := by omega
      have HDk := Lib.hid hdk
      rw [← HL.out] at HDk
      have hb2 := hdk.b.c2
      clear hdk
      go_wp2_with fail
      obtain ⟨a6, cp6, rfl⟩ := own_form HDk.out.row
      go_loopw [10, 9] (fun r v9 wv => ∃ (k t : Nat), k ≤ m ∧ r = .int .i64 (k : Int) ∧ t ≤ k ∧ DK w wv (c : Int) last (.slice a m cap) (.slice a6 L.length cp6) L ∧ wv.ownsRow (w.heap.size + 1 + 1) 49 3 v9 t (flat3 ((M.take k).filter (leftM gen)))) (fun r _ _ => m - (intOf r).toNat)
      case atStart => exact ⟨0, 0, Nat.zero_le _, rfl, Nat.le_refl _, HDk.out, ⟨rfl, .inl ⟨rfl, rfl⟩⟩⟩
      case round =>
        obtain ⟨k, t, hk, rfl, htk, hdk, hrow⟩ := hrel
        have HDk := Lib.hid hdk
        have HRow := Lib.hid hrow
        have b2 := hdk.b.c2
        obtain ⟨a9, cp9, rfl⟩ := own_form hrow
        by_cases hkm : k < m
        · obtain ⟨x, hx⟩ : ∃ x, M[k]? = some x := ⟨_, List.getElem?_eq_getElem (by rw [← HM.out]; exact hkm)⟩
          obtain ⟨g, rfl, e0, e1, e2⟩ := (HR.out.quiet hdk.ch).cells hx
          have hsn := left_snoc gen (M.take k) x
          rw [← take_snoc3 hx] at hsn
          have HSn := Lib.hid hsn
          have hlt2 : (k : Int) < (m : Int) := by omega
          have HT1 := Lib.hid (show leftM gen x = true → flat3 ((M.take (k + 1)).filter (leftM gen)) = flat3 ((M.take k).filter (leftM gen)) ++ [.int .i64 x.c, .int .i64 x.id, .int .i64 x.gen] from fun e => by
            rw [hsn, e, ← flat3_snoc]; rfl)
          have HT0 := Lib.hid (show leftM gen x = false → flat3 ((M.take (k + 1)).filter (leftM gen)) = flat3 ((M.take k).filter (leftM gen)) from fun e => by
            rw [hsn, e]; simp)
          obtain ⟨F, hF⟩ : ∃ F, F = flat3 ((M.take k).filter (leftM gen)) := ⟨_, rfl⟩
          rw [← hF] at HT1 HT0 HRow
          obtain ⟨xc, hxc⟩ : ∃ y, y = x.c := ⟨_, rfl⟩
          obtain ⟨xi, hxi⟩ : ∃ y, y = x.id := ⟨_, rfl⟩
          obtain ⟨xg, hxg⟩ : ∃ y, y = x.gen := ⟨_, rfl⟩
          have HS := Lib.hid (show leftM gen x = decide (xg = 0 ∨ gen < xg) by rw [hxg]; rfl)
          rw [← hxc, ← hxi, ← hxg] at HT1
          rw [← hxc] at e0
          rw [← hxi] at e1
          rw [← hxg] at e2
          clear hdk hrow hx hsn hxc hxi hxg hF hb0 hb2
          by_cases hg0 : xg = 0
          · have HT := Lib.hid (HT1.out (by rw [HS.out]; exact decide_eq_true (.inl hg0)))
            subst hg0
            clear HT1 HT0 HS
            go_wp2_with (at_builtin; go_must (refine wpList_append_own _ rfl _ _ 28 rfl (w.heap.size + 1 + 1) 49 i0 (.agg #[.int .i64 0, .int .i64 0, .int .i64 0]) 3 24 Try.underlying28 hI hz0 hz1 hz2 rfl (by decide) _ _ _ rfl (HRow.out.alloc _) ⟨wr.heap.size, 0, none⟩ 1 1 [.int .i64 xc, .int .i64 xi, .int .i64 0] rfl rfl (cells3_new _ _ _ _ _) (by simp [Value.oneCell']) (by unfold maxLen; omega) (by omega) (by have := HDk.out.r.lt; simp; omega) ?_); intro v9 w9 hown9 hgrow9 _)
            have HD9 := Lib.hid (HDk.out.app3 HRow.out hgrow9)
            have HO9 := Lib.hid hown9
            clear hown9 hgrow9
            go_wp2_with fail
            go_roundw
            case rel => exact ⟨k + 1, t + 1, by omega, by go_num, by omega, HD9.out, by rw [HT.out]; exact HO9.out⟩
            case measure => simp [intOf]; omega
          · have d1 : (xg == 0) = false := beq_false_of_ne hg0
            by_cases hg1 : gen < xg
            · have HT := Lib.hid (HT1.out (by rw [HS.out]; exact decide_eq_true (.inr hg1)))
              have d2 : decide (xg > gen) = true := decide_eq_true hg1
              clear HT1 HT0 HS hg0 hg1
              go_wp2_with (at_builtin; go_must (refine wpList_append_own _ rfl _ _ 28 rfl (w.heap.size + 1 + 1) 49 i0 (.agg #[.int .i64 0, .int .i64 0, .int .i64 0]) 3 24 Try.underlying28 hI hz0 hz1 hz2 rfl (by decide) _ _ _ rfl (HRow.out.alloc _) ⟨wr.heap.size, 0, none⟩ 1 1 [.int .i64 xc, .int .i64 xi, .int .i64 xg] rfl rfl (cells3_new _ _ _ _ _) (by simp [Value.oneCell']) (by unfold maxLen; omega) (by omega) (by have := HDk.out.r.lt; simp; omega) ?_); intro v9 w9 hown9 hgrow9 _)
              have HD9 := Lib.hid (HDk.out.app3 HRow.out hgrow9)
              have HO9 := Lib.hid hown9
              clear hown9 hgrow9
              go_wp2_with fail
              go_roundw
              case rel => exact ⟨k + 1, t + 1, by omega, by go_num, by omega, HD9.out, by rw [HT.out]; exact HO9.out⟩
              case measure => simp [intOf]; omega
            · have HT := Lib.hid (HT0.out (by rw [HS.out]; exact decide_eq_false (by omega)))
              have d2 : decide (xg > gen) = false := decide_eq_false hg1
              clear HT1 HT0 HS hg0 hg1
              go_wp2
              go_roundw
              case rel => exact ⟨k + 1, t, by omega, by go_num, by omega, HDk.out, by rw [HT.out]; exact HRow.out⟩
              case measure => simp [intOf]; omega
        · have hkm' : ¬ (k : Int) < (m : Int) := by omega
          have eM : (M.take k).filter (leftM gen) = M' := by rw [HM'.out, List.take_of_length_le (by rw [← HM.out]; omega)]
          rw [eM] at HRow
          have hsz := hdk.ch.size
          have b0 := hdk.b.c0
          have b1 := hdk.b.c1
          have r0 := hdk.r.c0
          have r1 := hdk.r.c1
          have r2 := hdk.r.c2
          have f0 := hdk.r.f0
          have f1 := hdk.r.f1
          have f2 := hdk.r.f2
          clear hdk hrow eM hb0 hb2
          go_wp2_with fail
          have hx := HDk.out.r.set (.int .i64 (c : Int)) (.int .i64 last) (.slice a9 t cp9)
          have x0 := hx.c0
          have x1 := hx.c1
          have x2 := hx.c2
          refine bodyPost_ret (v := retC (c : Int) last (.slice a9 t cp9) (.slice a6 L.length cp6)) ?_ rfl ?_
          · unfold retC; simp [results, Try.f12, go_sem, x0, x1, x2]
          · obtain ⟨k1, k2, k3⟩ := row_fin HRow.out (b := w.heap.size + 1) (by omega) (by omega) HDk.out.ch (.int .i64 (c : Int)) (.int .i64 last) (.slice a9 t cp9)
            exact ⟨_, _, rfl, k1, own_ch HDk.out.row (set3_ch _ _ _ _ _) (by simp), k2, k3⟩
end Go.Proofs.Ytnnliimjemmekaa
