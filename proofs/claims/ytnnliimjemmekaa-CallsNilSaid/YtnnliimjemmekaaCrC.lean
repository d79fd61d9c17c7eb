/-
  The document's answer for layer 11: Close.
-/
import Derived.Test.YtnnliimjemmekaaCrB
namespace Go.Proofs.Ytnnliimjemmekaa
open Go.RowKit Go.Maps

attribute [local go_sem] Oper.semAt_some

/-- A callback behind a closing. -/
def giveC (gen : Int) (x : Cb) : Cb := if x.gen = 0 then { x with gen := gen } else x
theorem rclose_no {w : World} {v : Value} {M : List Cb} (h : RowC w v M) (n last : Int) {gen : Int} (hg : gen < 1 ∨ gen < last) :
    Calls Try.prog 10 #[.agg #[.int .i64 n, .int .i64 last, v], .int .i64 gen] w fun e w' =>
      e = .returned (retC n last v (.int .i64 0)) ∧ Ch [] w w' := by
  obtain ⟨a, cap, rfl⟩ := h.form
  have hb := (Three.new w (.int .i64 n) (.int .i64 last) (.slice a M.length cap) 30).ch ((Ch.refl [] _).alloc (.cells #[.int .i64 0, .int .i64 0, .slice none 0 0] 30)) (by simp)
  have hr := Three.new (w.alloc (.cells #[.int .i64 n, .int .i64 last, .slice a M.length cap] 30)) (.int .i64 0) (.int .i64 0) (.slice none 0 0) 30
  rw [World.size_alloc] at hr
  have HR := Lib.hid hr
  generalize M.length = m at *
  rcases Int.lt_or_le gen 1 with h0 | h0
  · have hd : decide (gen < 1) = true := decide_eq_true h0
    clear h hg hr
    have b0 := hb.c0
    have b1 := hb.c1
    have b2 := hb.c2
    go_enter Try.func10, Try.ntmps10
    go_wp2_with fail
    have hx := HR.out.set (.int .i64 n) (.int .i64 last) (.slice a m cap)
    have x0 := hx.c0
    have x1 := hx.c1
    have x2 := hx.c2
    refine bodyPost_ret (v := retC n last (.slice a m cap) (.int .i64 0)) ?_ rfl ?_
    · unfold retC; simp [results, Try.f10, go_sem]
    · exact ⟨rfl, ((Ch.refl [] w).alloc _).alloc _⟩
  · have hd : decide (gen < 1) = false := decide_eq_false (by omega)
    have hd2 : decide (gen < last) = true := decide_eq_true (by omega)
    clear h hg hr
    have b0 := hb.c0
    have b1 := hb.c1
    have b2 := hb.c2
    go_enter Try.func10, Try.ntmps10
    go_wp2_with fail
    have hx := HR.out.set (.int .i64 n) (.int .i64 last) (.slice a m cap)
    have x0 := hx.c0
    have x1 := hx.c1
    have x2 := hx.c2
    refine bodyPost_ret (v := retC n last (.slice a m cap) (.int .i64 0)) ?_ rfl ?_
    · unfold retC; simp [results, Try.f10, go_sem]
    · exact ⟨rfl, ((Ch.refl [] w).alloc _).alloc _⟩

theorem flat3_set (l : List Cb) (k : Nat) (x y : Cb) (h : l[k]? = some x) (hc : y.c = x.c) (hi : y.id = x.id) : flat3 (l.set k y) = (flat3 l).set (k * 3 + 2) (.int .i64 y.gen) := by
  induction l generalizing k with
  | nil => simp at h
  | cons a t ih =>
    cases k with
    | zero =>
      simp at h
      subst h
      simp [flat3, hc, hi]
    | succ k =>
      have := ih k (by simpa using h)
      rw [show (k + 1) * 3 + 2 = (k * 3 + 2) + 3 by omega, List.set_cons_succ]
      show flat3 (a :: t.set k y) = _
      rw [flat3, List.flatMap_cons]
      show _ ++ flat3 (t.set k y) = (flat3 (a :: t)).set _ _
      rw [this, flat3, flat3, List.flatMap_cons]
      simp
/-- What Close tells and leaves. -/
def CloseR (w : World) (n gen : Int) (M' : List Cb) (q : Nat) (e : Ending) (w' : World) : Prop :=
  ∃ v', e = .returned (retC n gen v' (.int .i64 (q : Int))) ∧ RowC w' v' M' ∧ (∀ g, v'.ownBlock = some g → w.heap.size ≤ g) ∧ Ch [] w w'
/-- The list behind k of the callbacks. -/
def givK (gen : Int) (M : List Cb) (k : Nat) : List Cb := (M.take k).map (giveC gen) ++ M.drop k
theorem givK_zero (gen : Int) (M : List Cb) : givK gen M 0 = M := by simp [givK]
theorem givK_full (gen : Int) (M : List Cb) : givK gen M M.length = M.map (giveC gen) := by simp [givK]
theorem givK_len (gen : Int) (M : List Cb) (k : Nat) (h : k ≤ M.length) : (givK gen M k).length = M.length := by simp [givK]; omega
theorem givK_at (gen : Int) (M : List Cb) (k : Nat) : (givK gen M k)[k]? = M[k]? := by
  unfold givK
  by_cases h : k < M.length
  · rw [List.getElem?_append_right (by simp; omega)]
    simp [Nat.min_eq_left (Nat.le_of_lt h)]
  · rw [List.getElem?_eq_none (by simp; omega), List.getElem?_eq_none (by omega)]
theorem givK_step (gen : Int) (M : List Cb) (k : Nat) (x : Cb) (h : M[k]? = some x) : givK gen M (k + 1) = (givK gen M k).set k (giveC gen x) := by
  obtain ⟨hk, rfl⟩ := List.getElem?_eq_some_iff.1 h
  unfold givK
  have e : ∀ y, (M.drop k).set 0 y = y :: M.drop (k + 1) := fun y => by rw [List.drop_eq_getElem_cons hk]; rfl
  have e0 : k - ((M.take k).map (giveC gen)).length = 0 := by simp; omega
  rw [List.set_append_right _ _ (by simp; omega), e0, e, List.take_succ_eq_append_getElem hk, List.map_append, List.append_assoc]
  rfl
set_option maxRecDepth 100000 in
set_option maxHeartbeats 4000000 in
theorem rclose_ok {w : World} {v : Value} {M : List Cb} (h : RowC w v M) (hl : M.length ≤ 100000) {n last gen : Int} (h1 : 1 ≤ gen) (h2 : last ≤ gen) :
    Calls Try.prog 10 #[.agg #[.int .i64 n, .int .i64 last, v], .int .i64 gen] w (CloseR w n gen (M.map (giveC gen)) (zcM M)) := by
  obtain ⟨a, cap, rfl⟩ := h.form
  obtain ⟨i0, hI, hz0, hz1, hz2⟩ := info_parts infoC
  obtain ⟨m, hm⟩ : ∃ m, m = M.length := ⟨_, rfl⟩
  have HM := Lib.hid hm
  obtain ⟨D, hrow⟩ := h
  rw [← hm] at hl hrow ⊢
  obtain ⟨W1, hW1⟩ : ∃ W, W = w.alloc (.cells #[.int .i64 n, .int .i64 last, .slice a m cap] 30) := ⟨_, rfl⟩
  obtain ⟨W2, hW2⟩ : ∃ W, W = W1.alloc (.cells #[.int .i64 0, .int .i64 0, .slice none 0 0] 30) := ⟨_, rfl⟩
  have hs1 : W1.heap.size = w.heap.size + 1 := by rw [hW1]; simp
  have hs2 : W2.heap.size = w.heap.size + 1 + 1 := by rw [hW2]; simp [hs1]
  have hc2 : Ch [] w W2 := by rw [hW2, hW1]; exact ((Ch.refl [] w).alloc _).alloc _
  have hb2 : Three W2 w.heap.size (.int .i64 n) (.int .i64 last) (.slice a m cap) := by rw [hW2, hW1]; exact (Three.new w _ _ _ _).ch ((Ch.refl [] _).alloc _) (by simp)
  have hr2 : Three W2 (w.heap.size + 1) (.int .i64 0) (.int .i64 0) (.slice none 0 0) := by rw [hW2, ← hs1]; exact Three.new W1 _ _ _ _
  have HRw := Lib.hid (own_ch hrow hc2 (by simp))
  have HB := Lib.hid hb2
  have HRs := Lib.hid hr2
  have HC := Lib.hid hc2
  have HOne := Lib.hid (oneCell3 M)
  have hlit : W2.alloc (.cells #[] 49) |>.ownsRow (w.heap.size + 1 + 1) 49 3 (.slice (some ⟨w.heap.size + 1 + 1, 0, none⟩) 0 0) 0 [] := by
    have := World.ownsRow_lit (e := 49) (size := 3) W2 #[] 0 (show w.heap.size + 1 + 1 ≤ _ by rw [hs2]; exact Nat.le_refl _) (Nat.zero_le _) rfl
    rw [hs2] at this
    exact this
  have HLit := Lib.hid hlit
  have HS2 := Lib.hid hs2
  obtain ⟨M', hM'⟩ : ∃ M', M' = M.map (giveC gen) := ⟨_, rfl⟩
  rw [← hM']
  have HM' := Lib.hid hM'
  obtain ⟨qz, hqz⟩ : ∃ q, q = zcM M := ⟨_, rfl⟩
  rw [← hqz]
  have HQz := Lib.hid hqz
  rw [hW1] at hW2
  have b0 := hb2.c0
  have b1 := hb2.c1
  have b2 := hb2.c2
  rw [hW2] at b0 b1 b2
  have d0 : decide (gen < 1) = false := decide_eq_false (by omega)
  have d1 : decide (gen < last) = false := decide_eq_false (by omega)
  clear hrow hc2 hb2 hr2 hm hlit hs1 hs2 hM' hqz hW1
  go_enter Try.func10, Try.ntmps10
  go_wp2_with (at_builtin; go_must (refine wpList_append_row rfl _ _ 28 rfl (w.heap.size + 1 + 1) 49 i0 (.agg #[.int .i64 0, .int .i64 0, .int .i64 0]) 3 24 Try.underlying28 hI hz0 hz1 hz2 rfl (by decide) (.slice (some ⟨w.heap.size + 1 + 1, 0, none⟩) 0 0) 0 [] rfl ?c0 ?c1 D (.slice a m cap) m (flat3 M) rfl ?c2 HOne.out ?c3 ?c4 ?c5 ?_))
  case c0 => rw [← hW2]; exact HLit.out
  case c1 => intro e; cases e
  case c2 => rw [← hW2]; exact World.ownsRow.alloc HRw.out _
  case c3 => unfold maxLen; omega
  case c4 => omega
  case c5 => simp
  intro v2 w2 hown2 hgrow2 hne2
  rw [← hW2] at hgrow2
  have hq2 : Ch [] W2 w2 := ((Ch.refl [] W2).alloc (.cells #[] 49)).kept hgrow2 (fun r e => by have := HS2.out; simp [Value.ownBlock] at e; omega)
  obtain ⟨g2, cp2, rfl⟩ := own_some hown2 hne2
  have hrow2 : w2.ownsRow (w.heap.size + 1 + 1) 49 3 (.slice (some ⟨g2, 0, none⟩) m cp2) m (flat3 M) := by simpa using hown2
  have HO := Lib.hid hrow2
  have HC2 := Lib.hid (HC.out.trans hq2)
  have HB2 := Lib.hid (HB.out.ch hq2 (by simp))
  have HRs2 := Lib.hid (HRs.out.ch hq2 (by simp))
  clear hown2 hgrow2 hne2 hrow2 hq2 HC HRs HB HRw HLit HS2 b0 b1 b2 d0 d1 hW2
  go_wp2_with fail
  go_loopw [8, 7] (fun r u wr => ∃ k : Nat, k ≤ m ∧ r = .int .i64 (k : Int) ∧ u = .int .i64 (zcM (M.take k) : Int) ∧ wr.ownsRow (w.heap.size + 1 + 1) 49 3 (.slice (some ⟨g2, 0, none⟩) m cp2) m (flat3 (givK gen M k)) ∧
      Three wr w.heap.size (.int .i64 n) (.int .i64 last) (.slice a m cap) ∧ Three wr (w.heap.size + 1) (.int .i64 0) (.int .i64 0) (.slice none 0 0) ∧ Ch [] w wr) (fun r _ _ => m - (intOf r).toNat)
  case atStart => exact ⟨0, Nat.zero_le _, rfl, rfl, by rw [givK_zero]; exact HO.out, HB2.out, HRs2.out, HC2.out⟩
  case round =>
    obtain ⟨k, hk, rfl, rfl, hrow, hb, hr, hch⟩ := hrel
    have HRow := Lib.hid hrow
    have HB := Lib.hid hb
    have HR := Lib.hid hr
    have HCh := Lib.hid hch
    have hsz := hch.size
    by_cases hkm : k < m
    · obtain ⟨x, hx⟩ : ∃ x, M[k]? = some x := ⟨_, List.getElem?_eq_getElem (by rw [← HM.out]; exact hkm)⟩
      have hgk := (givK_at gen M k).trans hx
      obtain ⟨e0, e1, e2⟩ := flat3_at _ _ _ hgk
      have c2 : wr.cell? ⟨g2, k * 3 + 2, none⟩ = some (.int .i64 x.gen) := (hrow.cellAt _ (by omega)).trans e2
      have q2 : wr.frozen? ⟨g2, k * 3 + 2, none⟩ = false := hrow.frozenAt _
      have hglo := (hrow.lt g2 rfl).1
      have hq := zcM_snoc (M.take k) x
      rw [← take_snoc3 hx] at hq
      have hql : zcM (M.take k) ≤ k := by
        have h1 : zcM (M.take k) ≤ (M.take k).length := List.countP_le_length
        rw [List.length_take] at h1
        omega
      obtain ⟨q, hqe⟩ : ∃ q, q = zcM (M.take k) := ⟨_, rfl⟩
      rw [← hqe] at hq hql ⊢
      have HQ := Lib.hid hq
      have hlt : (k : Int) < (m : Int) := by omega
      have hw1 : IntKind.i64.wrap ((q : Int) + 1) = (q : Int) + 1 := IntWalk.i64_in _ (by omega)
      have HSt := Lib.hid (givK_step gen M k x hx)
      have HGk := Lib.hid hgk
      obtain ⟨gx, hgx⟩ : ∃ gx, gx = x.gen := ⟨_, rfl⟩
      have HGx := Lib.hid hgx
      rw [← hgx] at c2 HQ
      clear hrow hb hr hch hx hgk e0 e1 e2 hq hqe hgx
      by_cases hx0 : gx = 0
      · have HZ := Lib.hid (show zcM (M.take (k + 1)) = q + 1 by rw [HQ.out, if_pos hx0])
        have HF := Lib.hid (show flat3 (givK gen M (k + 1)) = (flat3 (givK gen M k)).set (k * 3 + 2) (.int .i64 gen) by
          have hgv : giveC gen x = { x with gen := gen } := if_pos (HGx.out.symm.trans hx0)
          rw [HSt.out, flat3_set _ k x (giveC gen x) HGk.out (by rw [hgv]) (by rw [hgv]), hgv])
        rw [hx0] at c2
        clear HQ hx0
        go_wp2
        go_roundw
        case rel =>
          have hset : Ch [g2] wr (wr.setCell ⟨g2, k * 3 + 2, none⟩ (.int .i64 gen)) := (Ch.refl [g2] wr).setCell (p := ⟨g2, k * 3 + 2, none⟩) (by simp) _
          refine ⟨k + 1, by omega, by go_num, by rw [HZ.out]; rfl, ?_, HB.out.ch hset (by simp; omega), HR.out.ch hset (by simp; omega), HCh.out.fresh hset (by simp; omega)⟩
          rw [HF.out]
          exact own_set HRow.out _ _ (by omega)
        case measure => simp [intOf]; omega
      · have HZ := Lib.hid (show zcM (M.take (k + 1)) = q by rw [HQ.out, if_neg hx0, Nat.add_zero])
        have HF := Lib.hid (show givK gen M (k + 1) = givK gen M k by
          have hgv : giveC gen x = x := if_neg (fun e => hx0 (HGx.out.trans e))
          rw [HSt.out, hgv]
          exact set_id _ _ _ HGk.out)
        have hxb : (gx == 0) = false := beq_false_of_ne hx0
        clear HQ hx0
        go_wp2
        go_roundw
        case rel => exact ⟨k + 1, by omega, by go_num, by rw [HZ.out], by rw [HF.out]; exact HRow.out, HB.out, HR.out, HCh.out⟩
        case measure => simp [intOf]; omega
    · have hkm' : ¬ (k : Int) < (m : Int) := by omega
      obtain rfl : k = m := by omega
      have eM : givK gen M k = M' := by rw [HM'.out, HM.out, givK_full]
      have eq' : zcM (M.take k) = qz := by rw [HQz.out, List.take_of_length_le (by rw [← HM.out]; exact Nat.le_refl _)]
      rw [eM] at HRow
      rw [eq']
      have b0 := hb.c0
      have b1 := hb.c1
      have r0 := hr.c0
      have r1 := hr.c1
      have r2 := hr.c2
      have f0 := hr.f0
      have f1 := hr.f1
      have f2 := hr.f2
      clear hrow hb hr hch eM eq'
      go_wp2_with fail
      have hx := HR.out.set (.int .i64 n) (.int .i64 gen) (.slice (some ⟨g2, 0, none⟩) k cp2)
      have x0 := hx.c0
      have x1 := hx.c1
      have x2 := hx.c2
      refine bodyPost_ret (v := retC n gen (.slice (some ⟨g2, 0, none⟩) k cp2) (.int .i64 (qz : Int))) ?_ rfl ?_
      · unfold retC; simp [results, Try.f10, go_sem, x0, x1, x2]
      · obtain ⟨k1, k2, k3⟩ := row_fin HRow.out (b := w.heap.size + 1) (by omega) (by omega) HCh.out (.int .i64 n) (.int .i64 gen) (.slice (some ⟨g2, 0, none⟩) k cp2)
        exact ⟨_, rfl, k1, k2, k3⟩
end Go.Proofs.Ytnnliimjemmekaa
