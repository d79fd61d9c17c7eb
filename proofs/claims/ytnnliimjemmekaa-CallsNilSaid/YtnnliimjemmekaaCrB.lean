/-
  The document's answer for layer 11: Add.
-/
import Derived.Test.YtnnliimjemmekaaCrA
namespace Go.Proofs.Ytnnliimjemmekaa
open Go.RowKit Go.Maps

attribute [local go_sem] Oper.semAt_some

theorem infoC : (Try.prog.info? 49).map (fun i => (i.zero, i.size, i.bytes)) = some (some (.agg #[.int .i64 0, .int .i64 0, .int .i64 0]), 3, 24) := by kernel_rfl
/-- What the answer adds. -/
def mkC (c : Int) (z : Int) : Cb := ⟨c, z, 0⟩
/-- What is returned, a struct and a number, out of the result's cells. -/
def retC (n last : Int) (v : Value) (q : Value) : Value := .tuple #[.agg #[.int .i64 n, .int .i64 last, v], q]

theorem radd_bad {w : World} {v : Value} {M : List Cb} (h : RowC w v M) (n last c : Int) (hc : c < 0 ∨ n ≤ c) (vz : Value) :
    Calls Try.prog 8 #[.agg #[.int .i64 n, .int .i64 last, v], .int .i64 c, vz] w fun e w' =>
      e = .returned (retC n last v (.int .i64 2)) ∧ Ch [] w w' := by
  obtain ⟨a, cap, rfl⟩ := h.form
  have hb := (Three.new w (.int .i64 n) (.int .i64 last) (.slice a M.length cap) 30).ch ((Ch.refl [] _).alloc (.cells #[.int .i64 0, .int .i64 0, .slice none 0 0] 30)) (by simp)
  have hr := Three.new (w.alloc (.cells #[.int .i64 n, .int .i64 last, .slice a M.length cap] 30)) (.int .i64 0) (.int .i64 0) (.slice none 0 0) 30
  have hc1 := ((Ch.refl [] w).alloc (.cells #[.int .i64 n, .int .i64 last, .slice a M.length cap] 30)).alloc (.cells #[.int .i64 0, .int .i64 0, .slice none 0 0] 30)
  rw [World.size_alloc] at hr
  have HR := Lib.hid hr
  have HC := Lib.hid hc1
  generalize M.length = m at *
  rcases Int.lt_or_le c 0 with h0 | h0
  · have hd : decide (c < 0) = true := decide_eq_true h0
    clear h hc hr hc1
    have b0 := hb.c0
    have b1 := hb.c1
    have b2 := hb.c2
    go_enter Try.func8, Try.ntmps8
    go_wp2_with fail
    have hx := HR.out.set (.int .i64 n) (.int .i64 last) (.slice a m cap)
    have x0 := hx.c0
    have x1 := hx.c1
    have x2 := hx.c2
    refine bodyPost_ret (v := retC n last (.slice a m cap) (.int .i64 2)) ?_ rfl ?_
    · unfold retC; simp [results, Try.f8, go_sem]
    · exact ⟨rfl, ((Ch.refl [] w).alloc _).alloc _⟩
  · have hd : decide (c < 0) = false := decide_eq_false (by omega)
    have hd2 : decide (c ≥ n) = true := decide_eq_true (by omega)
    clear h hc hr hc1
    have b0 := hb.c0
    have b1 := hb.c1
    have b2 := hb.c2
    go_enter Try.func8, Try.ntmps8
    go_wp2_with fail
    have hx := HR.out.set (.int .i64 n) (.int .i64 last) (.slice a m cap)
    have x0 := hx.c0
    have x1 := hx.c1
    have x2 := hx.c2
    refine bodyPost_ret (v := retC n last (.slice a m cap) (.int .i64 2)) ?_ rfl ?_
    · unfold retC; simp [results, Try.f8, go_sem]
    · exact ⟨rfl, ((Ch.refl [] w).alloc _).alloc _⟩

/-- A store of a whole struct into a block. -/
theorem set3_ch (W : World) (b : Nat) (x y z : Value) : Ch [b] W (((W.setCell ⟨b, 0, none⟩ x).setCell ⟨b, 1, none⟩ y).setCell ⟨b, 2, none⟩ z) :=
  (((Ch.refl [b] W).setCell (p := ⟨b, 0, none⟩) (by simp) x).setCell (p := ⟨b, 1, none⟩) (by simp) y).setCell (p := ⟨b, 2, none⟩) (by simp) z
theorem row_fin {w wr : World} {B n : Nat} {v : Value} {M : List Cb} (h : wr.ownsRow B 49 3 v n (flat3 M)) {b : Nat} (hb : b < B) (hw : w.heap.size ≤ b) (hc : Ch [] w wr) (x y z : Value) :
    RowC (((wr.setCell ⟨b, 0, none⟩ x).setCell ⟨b, 1, none⟩ y).setCell ⟨b, 2, none⟩ z) v M ∧ (∀ g, v.ownBlock = some g → w.heap.size ≤ g) ∧ Ch [] w (((wr.setCell ⟨b, 0, none⟩ x).setCell ⟨b, 1, none⟩ y).setCell ⟨b, 2, none⟩ z) := by
  have hn : n = M.length := by
    have := h.1
    rw [flat3_len] at this
    omega
  subst hn
  exact ⟨⟨B, own_ch h (set3_ch wr b x y z) (by simp; exact hb)⟩, fun g e => by have := (h.lt g e).1; omega, hc.fresh (set3_ch wr b x y z) (by simp; exact hw)⟩
/-- What Add tells and leaves. -/
def AddR (w : World) (n last : Int) (_ M' : List Cb) (E : Int) (e : Ending) (w' : World) : Prop :=
  ∃ v', e = .returned (retC n last v' (.int .i64 E)) ∧ RowC w' v' M' ∧ (∀ g, v'.ownBlock = some g → w.heap.size ≤ g) ∧ Ch [] w w'
set_option maxRecDepth 100000 in
set_option maxHeartbeats 4000000 in
theorem radd_ok {w : World} {v : Value} {M : List Cb} (h : RowC w v M) (hl : M.length ≤ 100000) {n last : Int} {c : Int} (h0 : 0 ≤ c) (h1 : c < n) {a1 : Option Addr} {cap1 : Nat} {zs : List Int} (hz : IntsAt w a1 zs) (hzl : zs.length ≤ 1000) (hc64 : cntM M c ≤ 64) :
    Calls Try.prog 8 #[.agg #[.int .i64 n, .int .i64 last, v], .int .i64 c, .slice a1 zs.length cap1] w
      (AddR w n last M (M ++ (zs.take (64 - cntM M c)).map (mkC c)) (if 64 < cntM M c + zs.length then 3 else 0)) := by
  obtain ⟨a, cap, rfl⟩ := h.form
  obtain ⟨i0, hI, hz0, hz1, hz2⟩ := info_parts infoC
  have hc1 := (Ch.refl [] w).alloc (.cells #[.int .i64 n, .int .i64 last, .slice a M.length cap] 30)
  have hb1 := Three.new w (.int .i64 n) (.int .i64 last) (.slice a M.length cap) 30
  obtain ⟨W1, hW1⟩ : ∃ W, W = w.alloc (.cells #[.int .i64 n, .int .i64 last, .slice a M.length cap] 30) := ⟨_, rfl⟩
  have hs1 : W1.heap.size = w.heap.size + 1 := by rw [hW1]; simp
  rw [← hW1] at hc1 hb1
  have hc2 := hc1.alloc (.cells #[.int .i64 0, .int .i64 0, .slice none 0 0] 30)
  have hb2 := hb1.ch ((Ch.refl [] W1).alloc (.cells #[.int .i64 0, .int .i64 0, .slice none 0 0] 30)) (by simp)
  have hr2 := Three.new W1 (.int .i64 0) (.int .i64 0) (.slice none 0 0) 30
  rw [hs1] at hr2
  have HRow := Lib.hid (h.quiet hc2)
  have HB := Lib.hid hb2
  have HRs := Lib.hid hr2
  have HC := Lib.hid hc2
  have HZ := Lib.hid (hz.ch hc2)
  have HZ0 := Lib.hid hz
  have HOne := Lib.hid (oneCell3 M)
  obtain ⟨m, hm⟩ : ∃ m, m = M.length := ⟨_, rfl⟩
  have HM := Lib.hid hm
  obtain ⟨q, hq⟩ : ∃ q, q = zs.length := ⟨_, rfl⟩
  have HQ := Lib.hid hq
  obtain ⟨t, ht⟩ : ∃ t, t = cntM M c := ⟨_, rfl⟩
  have HT := Lib.hid ht
  rw [← hq] at hzl
  rw [← ht] at hc64
  rw [← hm] at hl HRow HB hb2 hW1
  rw [← hm, ← hq, ← ht]
  obtain ⟨E, hE⟩ : ∃ E : Int, E = if 64 < t + q then 3 else 0 := ⟨_, rfl⟩
  rw [← hE]
  have HE := Lib.hid hE
  obtain ⟨M', hM'⟩ : ∃ M', M' = M ++ (zs.take (64 - t)).map (mkC c) := ⟨_, rfl⟩
  rw [← hM']
  have HM' := Lib.hid hM'
  have b0 := hb2.c0
  have b1 := hb2.c1
  have b2 := hb2.c2
  have d0 : decide (c < 0) = false := decide_eq_false (by omega)
  have d1 : decide (c ≥ n) = false := decide_eq_false (by omega)
  clear h hz hc1 hb1 hc2 hb2 hr2 hm hq ht hE hM'
  go_enter Try.func8, Try.ntmps8
  obtain ⟨D, hrow⟩ := HRow.out
  rw [← HM.out] at hrow
  have HRw := Lib.hid hrow
  clear hrow
  rw [hW1] at b0 b1 b2 HRw
  go_wp2_with (at_builtin; go_must (refine wpList_append_row rfl _ _ 28 rfl (w.heap.size + 1 + 1) 49 i0 (.agg #[.int .i64 0, .int .i64 0, .int .i64 0]) 3 24 Try.underlying28 hI hz0 hz1 hz2 rfl (by decide) (.slice (some ⟨w.heap.size + 1 + 1, 0, none⟩) 0 0) 0 [] rfl ?c0 ?c1 D (.slice a m cap) m (flat3 M) rfl ?c2 HOne.out ?c3 ?c4 ?c5 ?_))
  case c0 =>
    have hlit := World.ownsRow_lit (e := 49) (size := 3) ((w.alloc (.cells #[.int .i64 n, .int .i64 last, .slice a m cap] 30)).alloc (.cells #[.int .i64 0, .int .i64 0, .slice none 0 0] 30)) #[] 0 (show w.heap.size + 1 + 1 ≤ _ by simp) (Nat.zero_le _) rfl
    simpa [World.size_alloc] using hlit
  case c1 => intro e; cases e
  case c2 => exact World.ownsRow.alloc HRw.out _
  case c3 => unfold maxLen; omega
  case c4 => omega
  case c5 => simp
  intro v2 w2 hown2 hgrow2 hne2
  rw [hW1] at HC HRs HB HZ HRow
  obtain ⟨W2, hW2⟩ : ∃ W, W = (w.alloc (.cells #[.int .i64 n, .int .i64 last, .slice a m cap] 30)).alloc (.cells #[.int .i64 0, .int .i64 0, .slice none 0 0] 30) := ⟨_, rfl⟩
  have hs2 : W2.heap.size = w.heap.size + 1 + 1 := by rw [hW2]; simp
  rw [← hW2] at HC HRs HB HZ HRow hgrow2
  have hq2 : Ch [] W2 w2 := ((Ch.refl [] W2).alloc (.cells #[] 49)).kept hgrow2 (fun r e => by simp [Value.ownBlock] at e; omega)
  obtain ⟨g2, cp2, rfl⟩ := own_some hown2 hne2
  have hrow2 : w2.ownsRow (w.heap.size + 1 + 1) 49 3 (.slice (some ⟨g2, 0, none⟩) m cp2) m (flat3 M) := by simpa using hown2
  have HO := Lib.hid hrow2
  have HC2 := Lib.hid (HC.out.trans hq2)
  have hb2 := HB.out.ch hq2 (by simp)
  have HB2 := Lib.hid hb2
  have HRs2 := Lib.hid (HRs.out.ch hq2 (by simp))
  have HZ2 := Lib.hid (HZ.out.ch hq2)
  have HCt := Lib.hid (count_any (HRow.out.quiet hq2) (by rw [← HM.out]; omega) n last c)
  rw [← HT.out] at HCt
  have b0 := hb2.c0
  have b1 := hb2.c1
  have b2 := hb2.c2
  clear hown2 hgrow2 hne2 hrow2 hq2 hb2 HC HRs HB HZ HRow HRw hW2 hW1 hs1 hs2
  go_wp2_with fail
  with_reducible refine HCt.out.mono ?_
  rintro e w3 ⟨rfl, hc3⟩
  have HO3 := Lib.hid (own_ch HO.out hc3 (by simp))
  have HC3 := Lib.hid (HC2.out.trans hc3)
  have HB3 := Lib.hid (HB2.out.ch hc3 (by simp))
  have HRs3 := Lib.hid (HRs2.out.ch hc3 (by simp))
  have HZ3 := Lib.hid (HZ2.out.ch hc3)
  clear hc3 HO HC2 HB2 HRs2 HZ2 HCt b0 b1 b2
  go_frame
  go_wp2_with fail
  go_loopw [10, 9, 8] (fun r u v8 wr => ∃ k : Nat, k ≤ q ∧ t + k ≤ 64 ∧ r = .int .i64 (k : Int) ∧ u = .int .i64 ((t + k : Nat) : Int) ∧ wr.ownsRow (w.heap.size + 1 + 1) 49 3 v8 (m + k) (flat3 (M ++ (zs.take k).map (mkC c))) ∧
      Three wr w.heap.size (.int .i64 n) (.int .i64 last) (.slice a m cap) ∧ Three wr (w.heap.size + 1) (.int .i64 0) (.int .i64 0) (.slice none 0 0) ∧ Ch [] w wr ∧ IntsAt wr a1 zs) (fun r _ _ _ => q - (intOf r).toNat)
  case atStart => exact ⟨0, Nat.zero_le _, by omega, rfl, rfl, by simpa using HO3.out, HB3.out, HRs3.out, HC3.out, HZ3.out⟩
  case round =>
    obtain ⟨k, hk, hk64, rfl, rfl, hrow, hb, hr, hch, hz⟩ := hrel
    obtain ⟨a8, cp8, rfl⟩ := own_form hrow
    have HRow := Lib.hid hrow
    have HB := Lib.hid hb
    have HR := Lib.hid hr
    have HCh := Lib.hid hch
    have HZ := Lib.hid hz
    have hsz := hch.size
    by_cases hkq : k < q
    · have hlt : (k : Int) < (q : Int) := by omega
      by_cases hful : 64 ≤ t + k
      · have e3 : E = 3 := by rw [HE.out, if_pos (by omega)]
        have et : zs.take (64 - t) = zs.take k := by rw [show 64 - t = k by omega]
        have eM : M ++ (zs.take k).map (mkC c) = M' := by rw [HM'.out, et]
        rw [eM] at HRow
        subst e3
        have hd : decide (((t + k : Nat) : Int) ≥ 64) = true := decide_eq_true (by omega)
        have b0 := hb.c0
        have b1 := hb.c1
        have r0 := hr.c0
        have r1 := hr.c1
        have r2 := hr.c2
        have f0 := hr.f0
        have f1 := hr.f1
        have f2 := hr.f2
        clear hrow hb hr hch hz et eM
        go_wp2_with fail
        have hx := HR.out.set (.int .i64 n) (.int .i64 last) (.slice a8 (m + k) cp8)
        have x0 := hx.c0
        have x1 := hx.c1
        have x2 := hx.c2
        refine bodyPost_ret (v := retC n last (.slice a8 (m + k) cp8) (.int .i64 3)) ?_ rfl ?_
        · unfold retC; simp [results, Try.f8, go_sem, x0, x1, x2]
        · obtain ⟨k1, k2, k3⟩ := row_fin HRow.out (b := w.heap.size + 1) (by omega) (by omega) HCh.out (.int .i64 n) (.int .i64 last) (.slice a8 (m + k) cp8)
          exact ⟨_, rfl, k1, k2, k3⟩
      · obtain ⟨z, hzk⟩ : ∃ z, z = zs[k]?.getD 0 := ⟨_, rfl⟩
        have hkz : k < zs.length := by rw [← HQ.out]; exact hkq
        obtain ⟨b, off, rfl, hcell⟩ : ∃ b off, a1 = some ⟨b, off, none⟩ ∧ wr.cell? ⟨b, off + k, none⟩ = some (.int .i64 z) := by
          rcases hz with e | ⟨b, off, e, hcs⟩
          · rw [e] at hkz; simp at hkz
          · exact ⟨b, off, e, by rw [hzk]; exact hcs k hkz⟩
        have hd : decide (((t + k : Nat) : Int) ≥ 64) = false := decide_eq_false (by omega)
        have hT := Lib.hid (show flat3 (M ++ (zs.take (k + 1)).map (mkC c)) = flat3 (M ++ (zs.take k).map (mkC c)) ++ [.int .i64 c, .int .i64 z, .int .i64 0] by
          rw [List.take_succ_eq_append_getElem hkz, List.map_append, ← List.append_assoc]
          simp only [List.map_cons, List.map_nil]
          rw [flat3_snoc, hzk, List.getElem?_eq_getElem hkz]
          rfl)
        obtain ⟨F, hF⟩ : ∃ F, F = flat3 (M ++ (zs.take k).map (mkC c)) := ⟨_, rfl⟩
        rw [← hF] at HRow hT
        have hw1 : IntKind.i64.wrap (((t + k : Nat) : Int) + 1) = ((t + (k + 1) : Nat) : Int) := by rw [IntKind.wrap_i64]; omega
        obtain ⟨u, hu⟩ : ∃ u, u = t + k := ⟨_, rfl⟩
        have HU := Lib.hid hu
        rw [← hu] at hw1 hd ⊢
        clear hrow hb hr hch hz hzk hF hu hkz
        go_wp2_with (at_builtin; go_must (refine wpList_append_own _ rfl _ _ 28 rfl (w.heap.size + 1 + 1) 49 i0 (.agg #[.int .i64 0, .int .i64 0, .int .i64 0]) 3 24 Try.underlying28 hI hz0 hz1 hz2 rfl (by decide) _ _ _ rfl (HRow.out.alloc _) ⟨wr.heap.size, 0, none⟩ 1 1 [.int .i64 c, .int .i64 z, .int .i64 0] rfl rfl (cells3_new _ _ _ _ _) (by simp [Value.oneCell']) (by unfold maxLen; omega) (by omega) (by have := HR.out.lt; simp; omega) ?_); intro v9 w9 hown9 hgrow9 _)
        have hq9 : Ch [] w w9 := (HCh.out.alloc (.cells #[.int .i64 c, .int .i64 z, .int .i64 0] 49)).kept hgrow9 (fun r e => by have := (HRow.out.lt r e).1; omega)
        have hrb : ∀ r, (Value.slice a8 (m + k) cp8).ownBlock = some r → w.heap.size + 1 + 1 ≤ r := fun r e => (HRow.out.lt r e).1
        have HB9 := Lib.hid (HB.out.grown hgrow9 (fun r e => by have := hrb r e; omega))
        have HR9 := Lib.hid (HR.out.grown hgrow9 (fun r e => by have := hrb r e; omega))
        have HO9 := Lib.hid hown9
        have HC9 := Lib.hid hq9
        clear hown9 hgrow9 hq9 hrb
        go_wp2_with fail
        go_roundw
        case rel =>
          refine ⟨k + 1, by omega, by omega, by go_num, (by first | rw [hw1] | congr 1), ?_, HB9.out, HR9.out, HC9.out, HZ0.out.ch HC9.out⟩
          rw [hT.out]
          simpa [Nat.add_assoc] using HO9.out
        case measure => simp [intOf]; omega
    · have hkm' : ¬ (k : Int) < (q : Int) := by omega
      have e3 : E = 0 := by rw [HE.out, if_neg (by omega)]
      have eM : M ++ (zs.take k).map (mkC c) = M' := by
        rw [HM'.out, List.take_of_length_le (show zs.length ≤ k by rw [← HQ.out]; omega), List.take_of_length_le (show zs.length ≤ 64 - t by rw [← HQ.out]; omega)]
      rw [eM] at HRow
      subst e3
      have b0 := hb.c0
      have b1 := hb.c1
      have r0 := hr.c0
      have r1 := hr.c1
      have r2 := hr.c2
      have f0 := hr.f0
      have f1 := hr.f1
      have f2 := hr.f2
      clear hrow hb hr hch hz eM
      go_wp2_with fail
      have hx := HR.out.set (.int .i64 n) (.int .i64 last) (.slice a8 (m + k) cp8)
      have x0 := hx.c0
      have x1 := hx.c1
      have x2 := hx.c2
      refine bodyPost_ret (v := retC n last (.slice a8 (m + k) cp8) (.int .i64 0)) ?_ rfl ?_
      · unfold retC; simp [results, Try.f8, go_sem, x0, x1, x2]
      · obtain ⟨k1, k2, k3⟩ := row_fin HRow.out (b := w.heap.size + 1) (by omega) (by omega) HCh.out (.int .i64 n) (.int .i64 last) (.slice a8 (m + k) cp8)
        exact ⟨_, rfl, k1, k2, k3⟩
end Go.Proofs.Ytnnliimjemmekaa
