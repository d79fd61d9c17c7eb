/-
  The document's answer for layer 11: Close.
  The document's answer for layer 11: Done.
  Plain: the program's lists, CPU by CPU, against the answer's one list.
-/
import Derived.Test.YtjoaigadlpndcaaGreatDoorMgM
namespace Go.Proofs.YtjoaigadlpndcaaGreatDoor
open Go.RowKit Go.Maps

attribute [local go_sem] Oper.semAt_some

/-- A callback behind a closing. -/
def giveC (gen : Int) (x : Cb) : Cb := if x.gen = 0 then { x with gen := gen } else x
theorem rclose_no {w : World} {v : Value} {M : List Cb} (h : RowC w v M) (n last : Int) {gen : Int} (hg : gen < 1 ∨ gen < last) :
    Calls Tryz.prog 43 #[.agg #[.int .i64 n, .int .i64 last, v], .int .i64 gen] w fun e w' =>
      e = .returned (retC n last v (.int .i64 0)) ∧ Ch [] w w' := by
  obtain ⟨a, cap, rfl⟩ := h.form
  have hb := (Three.new w (.int .i64 n) (.int .i64 last) (.slice a M.length cap) 31).ch ((Ch.refl [] _).alloc (.cells #[.int .i64 0, .int .i64 0, .slice none 0 0] 31)) (by simp)
  have hr := Three.new (w.alloc (.cells #[.int .i64 n, .int .i64 last, .slice a M.length cap] 31)) (.int .i64 0) (.int .i64 0) (.slice none 0 0) 31
  rw [World.size_alloc] at hr
  have HR := Lib.hid hr
  generalize M.length = m at *
  rcases Int.lt_or_le gen 1 with h0 | h0
  · have hd : decide (gen < 1) = true := decide_eq_true h0
    clear h hg hr
    have b0 := hb.c0
    have b1 := hb.c1
    have b2 := hb.c2
    go_enter Tryz.func43, Tryz.ntmps43
    go_wp2_with fail
    have hx := HR.out.set (.int .i64 n) (.int .i64 last) (.slice a m cap)
    have x0 := hx.c0
    have x1 := hx.c1
    have x2 := hx.c2
    refine bodyPost_ret (v := retC n last (.slice a m cap) (.int .i64 0)) ?_ rfl ?_
    · unfold retC; simp [results, Tryz.f43, go_sem]
    · exact ⟨rfl, ((Ch.refl [] w).alloc _).alloc _⟩
  · have hd : decide (gen < 1) = false := decide_eq_false (by omega)
    have hd2 : decide (gen < last) = true := decide_eq_true (by omega)
    clear h hg hr
    have b0 := hb.c0
    have b1 := hb.c1
    have b2 := hb.c2
    go_enter Tryz.func43, Tryz.ntmps43
    go_wp2_with fail
    have hx := HR.out.set (.int .i64 n) (.int .i64 last) (.slice a m cap)
    have x0 := hx.c0
    have x1 := hx.c1
    have x2 := hx.c2
    refine bodyPost_ret (v := retC n last (.slice a m cap) (.int .i64 0)) ?_ rfl ?_
    · unfold retC; simp [results, Tryz.f43, go_sem]
    · exact ⟨rfl, ((Ch.refl [] w).alloc _).alloc _⟩

theorem flat3_set (l : List Cb) (k : Nat) (x y : Cb) (h : l[k]? = some x) (hc : y.c = x.c) (hi : y.id = x.id) : flat3 (l.set k y) = (flat3 l).set (k * 3 + 2) (.int .i64 y.gen) := by
  induction l generalizing k with
  | nil => simp at h
  | cons a t ih =>
    cases k with
    | zero =>
      simp at h
      subst h
      simp [flat3, hc, hi]
    | succ k =>
      have := ih k (by simpa using h)
      rw [show (k + 1) * 3 + 2 = (k * 3 + 2) + 3 by omega, List.set_cons_succ]
      show flat3 (a :: t.set k y) = _
      rw [flat3, List.flatMap_cons]
      show _ ++ flat3 (t.set k y) = (flat3 (a :: t)).set _ _
      rw [this, flat3, flat3, List.flatMap_cons]
      simp
/-- What Close tells and leaves. -/
def CloseR (w : World) (n gen : Int) (M' : List Cb) (q : Nat) (e : Ending) (w' : World) : Prop :=
  ∃ v', e = .returned (retC n gen v' (.int .i64 (q : Int))) ∧ RowC w' v' M' ∧ (∀ g, v'.ownBlock = some g → w.heap.size ≤ g) ∧ Ch [] w w'
/-- The list behind k of the callbacks. -/
def givK (gen : Int) (M : List Cb) (k : Nat) : List Cb := (M.take k).map (giveC gen) ++ M.drop k
theorem givK_zero (gen : Int) (M : List Cb) : givK gen M 0 = M := by simp [givK]
theorem givK_full (gen : Int) (M : List Cb) : givK gen M M.length = M.map (giveC gen) := by simp [givK]
theorem givK_len (gen : Int) (M : List Cb) (k : Nat) (h : k ≤ M.length) : (givK gen M k).length = M.length := by simp [givK]; omega
theorem givK_at (gen : Int) (M : List Cb) (k : Nat) : (givK gen M k)[k]? = M[k]? := by
  unfold givK
  by_cases h : k < M.length
  · rw [List.getElem?_append_right (by simp; omega)]
    simp [Nat.min_eq_left (Nat.le_of_lt h)]
  · rw [List.getElem?_eq_none (by simp; omega), List.getElem?_eq_none (by omega)]
theorem givK_step (gen : Int) (M : List Cb) (k : Nat) (x : Cb) (h : M[k]? = some x) : givK gen M (k + 1) = (givK gen M k).set k (giveC gen x) := by
  obtain ⟨hk, rfl⟩ := List.getElem?_eq_some_iff.1 h
  unfold givK
  have e : ∀ y, (M.drop k).set 0 y = y :: M.drop (k + 1) := fun y => by rw [List.drop_eq_getElem_cons hk]; rfl
  have e0 : k - ((M.take k).map (giveC gen)).length = 0 := by simp; omega
  rw [List.set_append_right _ _ (by simp; omega), e0, e, List.take_succ_eq_append_getElem hk, List.map_append, List.append_assoc]
  rfl
set_option maxRecDepth 100000 in
set_option maxHeartbeats 4000000 in
theorem rclose_ok {w : World} {v : Value} {M : List Cb} (h : RowC w v M) (hl : M.length ≤ 100000) {n last gen : Int} (h1 : 1 ≤ gen) (h2 : last ≤ gen) :
    Calls Tryz.prog 43 #[.agg #[.int .i64 n, .int .i64 last, v], .int .i64 gen] w (CloseR w n gen (M.map (giveC gen)) (zcM M)) := by
  obtain ⟨a, cap, rfl⟩ := h.form
  obtain ⟨i0, hI, hz0, hz1, hz2⟩ := info_parts infoC
  obtain ⟨m, hm⟩ : ∃ m, m = M.length := ⟨_, rfl⟩
  have HM := Lib.hid hm
  obtain ⟨D, hrow⟩ := h
  rw [← hm] at hl hrow ⊢
  obtain ⟨W1, hW1⟩ : ∃ W, W = w.alloc (.cells #[.int .i64 n, .int .i64 last, .slice a m cap] 31) := ⟨_, rfl⟩
  obtain ⟨W2, hW2⟩ : ∃ W, W = W1.alloc (.cells #[.int .i64 0, .int .i64 0, .slice none 0 0] 31) := ⟨_, rfl⟩
  have hs1 : W1.heap.size = w.heap.size + 1 := by rw [hW1]; simp
  have hs2 : W2.heap.size = w.heap.size + 1 + 1 := by rw [hW2]; simp [hs1]
  have hc2 : Ch [] w W2 := by rw [hW2, hW1]; exact ((Ch.refl [] w).alloc _).alloc _
  have hb2 : Three W2 w.heap.size (.int .i64 n) (.int .i64 last) (.slice a m cap) := by rw [hW2, hW1]; exact (Three.new w _ _ _ _).ch ((Ch.refl [] _).alloc _) (by simp)
  have hr2 : Three W2 (w.heap.size + 1) (.int .i64 0) (.int .i64 0) (.slice none 0 0) := by rw [hW2, ← hs1]; exact Three.new W1 _ _ _ _
  have HRw := Lib.hid (own_ch hrow hc2 (by simp))
  have HB := Lib.hid hb2
  have HRs := Lib.hid hr2
  have HC := Lib.hid hc2
  have HOne := Lib.hid (oneCell3 M)
  have hlit : W2.alloc (.cells #[] 105) |>.ownsRow (w.heap.size + 1 + 1) 105 3 (.slice (some ⟨w.heap.size + 1 + 1, 0, none⟩) 0 0) 0 [] := by
    have := World.ownsRow_lit (e := 105) (size := 3) W2 #[] 0 (show w.heap.size + 1 + 1 ≤ _ by rw [hs2]; exact Nat.le_refl _) (Nat.zero_le _) rfl
    rw [hs2] at this
    exact this
  have HLit := Lib.hid hlit
  have HS2 := Lib.hid hs2
  obtain ⟨M', hM'⟩ : ∃ M', M' = M.map (giveC gen) := ⟨_, rfl⟩
  rw [← hM']
  have HM' := Lib.hid hM'
  obtain ⟨qz, hqz⟩ : ∃ q, q = zcM M := ⟨_, rfl⟩
  rw [← hqz]
  have HQz := Lib.hid hqz
  rw [hW1] at hW2
  have b0 := hb2.c0
  have b1 := hb2.c1
  have b2 := hb2.c2
  rw [hW2] at b0 b1 b2
  have d0 : decide (gen < 1) = false := decide_eq_false (by omega)
  have d1 : decide (gen < last) = false := decide_eq_false (by omega)
  clear hrow hc2 hb2 hr2 hm hlit hs1 hs2 hM' hqz hW1
  go_enter Tryz.func43, Tryz.ntmps43
  go_wp2_with (at_builtin; go_must (refine wpList_append_row rfl _ _ 29 rfl (w.heap.size + 1 + 1) 105 i0 (.agg #[.int .i64 0, .int .i64 0, .int .i64 0]) 3 24 Tryz.underlying29 hI hz0 hz1 hz2 rfl (by decide) (.slice (some ⟨w.heap.size + 1 + 1, 0, none⟩) 0 0) 0 [] rfl ?c0 ?c1 D (.slice a m cap) m (flat3 M) rfl ?c2 HOne.out ?c3 ?c4 ?c5 ?_))
  case c0 => rw [← hW2]; exact HLit.out
  case c1 => intro e; cases e
  case c2 => rw [← hW2]; exact World.ownsRow.alloc HRw.out _
  case c3 => unfold maxLen; omega
  case c4 => omega
  case c5 => simp
  intro v2 w2 hown2 hgrow2 hne2
  rw [← hW2] at hgrow2
  have hq2 : Ch [] W2 w2 := ((Ch.refl [] W2).alloc (.cells #[] 105)).kept hgrow2 (fun r e => by have := HS2.out; simp [Value.ownBlock] at e; omega)
  obtain ⟨g2, cp2, rfl⟩ := own_some hown2 hne2
  have hrow2 : w2.ownsRow (w.heap.size + 1 + 1) 105 3 (.slice (some ⟨g2, 0, none⟩) m cp2) m (flat3 M) := by simpa using hown2
  have HO := Lib.hid hrow2
  have HC2 := Lib.hid (HC.out.trans hq2)
  have HB2 := Lib.hid (HB.out.ch hq2 (by simp))
  have HRs2 := Lib.hid (HRs.out.ch hq2 (by simp))
  clear hown2 hgrow2 hne2 hrow2 hq2 HC HRs HB HRw HLit HS2 b0 b1 b2 d0 d1 hW2
  go_wp2_with fail
  go_loopw [8, 7] (fun r u wr => ∃ k : Nat, k ≤ m ∧ r = .int .i64 (k : Int) ∧ u = .int .i64 (zcM (M.take k) : Int) ∧ wr.ownsRow (w.heap.size + 1 + 1) 105 3 (.slice (some ⟨g2, 0, none⟩) m cp2) m (flat3 (givK gen M k)) ∧
      Three wr w.heap.size (.int .i64 n) (.int .i64 last) (.slice a m cap) ∧ Three wr (w.heap.size + 1) (.int .i64 0) (.int .i64 0) (.slice none 0 0) ∧ Ch [] w wr) (fun r _ _ => m - (intOf r).toNat)
  case atStart => exact ⟨0, Nat.zero_le _, rfl, rfl, by rw [givK_zero]; exact HO.out, HB2.out, HRs2.out, HC2.out⟩
  case round =>
    obtain ⟨k, hk, rfl, rfl, hrow, hb, hr, hch⟩ := hrel
    have HRow := Lib.hid hrow
    have HB := Lib.hid hb
    have HR := Lib.hid hr
    have HCh := Lib.hid hch
    have hsz := hch.size
    by_cases hkm : k < m
    · obtain ⟨x, hx⟩ : ∃ x, M[k]? = some x := ⟨_, List.getElem?_eq_getElem (by rw [← HM.out]; exact hkm)⟩
      have hgk := (givK_at gen M k).trans hx
      obtain ⟨e0, e1, e2⟩ := flat3_at _ _ _ hgk
      have c2 : wr.cell? ⟨g2, k * 3 + 2, none⟩ = some (.int .i64 x.gen) := (hrow.cellAt _ (by omega)).trans e2
      have q2 : wr.frozen? ⟨g2, k * 3 + 2, none⟩ = false := hrow.frozenAt _
      have hglo := (hrow.lt g2 rfl).1
      have hq := zcM_snoc (M.take k) x
      rw [← take_snoc3 hx] at hq
      have hql : zcM (M.take k) ≤ k := by
        have h1 : zcM (M.take k) ≤ (M.take k).length := List.countP_le_length
        rw [List.length_take] at h1
        omega
      obtain ⟨q, hqe⟩ : ∃ q, q = zcM (M.take k) := ⟨_, rfl⟩
      rw [← hqe] at hq hql ⊢
      have HQ := Lib.hid hq
      have hlt : (k : Int) < (m : Int) := by omega
      have hw1 : IntKind.i64.wrap ((q : Int) + 1) = (q : Int) + 1 := IntWalk.i64_in _ (by omega)
      have HSt := Lib.hid (givK_step gen M k x hx)
      have HGk := Lib.hid hgk
      obtain ⟨gx, hgx⟩ : ∃ gx, gx = x.gen := ⟨_, rfl⟩
      have HGx := Lib.hid hgx
      rw [← hgx] at c2 HQ
      clear hrow hb hr hch hx hgk e0 e1 e2 hq hqe hgx
      by_cases hx0 : gx = 0
      · have HZ := Lib.hid (show zcM (M.take (k + 1)) = q + 1 by rw [HQ.out, if_pos hx0])
        have HF := Lib.hid (show flat3 (givK gen M (k + 1)) = (flat3 (givK gen M k)).set (k * 3 + 2) (.int .i64 gen) by
          have hgv : giveC gen x = { x with gen := gen } := if_pos (HGx.out.symm.trans hx0)
          rw [HSt.out, flat3_set _ k x (giveC gen x) HGk.out (by rw [hgv]) (by rw [hgv]), hgv])
        rw [hx0] at c2
        clear HQ hx0
        go_wp2
        go_roundw
        case rel =>
          have hset : Ch [g2] wr (wr.setCell ⟨g2, k * 3 + 2, none⟩ (.int .i64 gen)) := (Ch.refl [g2] wr).setCell (p := ⟨g2, k * 3 + 2, none⟩) (by simp) _
          refine ⟨k + 1, by omega, by go_num, by rw [HZ.out]; rfl, ?_, HB.out.ch hset (by simp; omega), HR.out.ch hset (by simp; omega), HCh.out.fresh hset (by simp; omega)⟩
          rw [HF.out]
          exact own_set HRow.out _ _ (by omega)
        case measure => simp [intOf]; omega
      · have HZ := Lib.hid (show zcM (M.take (k + 1)) = q by rw [HQ.out, if_neg hx0, Nat.add_zero])
        have HF := Lib.hid (show givK gen M (k + 1) = givK gen M k by
          have hgv : giveC gen x = x := if_neg (fun e => hx0 (HGx.out.trans e))
          rw [HSt.out, hgv]
          exact set_id _ _ _ HGk.out)
        have hxb : (gx == 0) = false := beq_false_of_ne hx0
        clear HQ hx0
        go_wp2
        go_roundw
        case rel => exact ⟨k + 1, by omega, by go_num, by rw [HZ.out], by rw [HF.out]; exact HRow.out, HB.out, HR.out, HCh.out⟩
        case measure => simp [intOf]; omega
    · have hkm' : ¬ (k : Int) < (m : Int) := by omega
      obtain rfl : k = m := by omega
      have eM : givK gen M k = M' := by rw [HM'.out, HM.out, givK_full]
      have eq' : zcM (M.take k) = qz := by rw [HQz.out, List.take_of_length_le (by rw [← HM.out]; exact Nat.le_refl _)]
      rw [eM] at HRow
      rw [eq']
      have b0 := hb.c0
      have b1 := hb.c1
      have r0 := hr.c0
      have r1 := hr.c1
      have r2 := hr.c2
      have f0 := hr.f0
      have f1 := hr.f1
      have f2 := hr.f2
      clear hrow hb hr hch eM eq'
      go_wp2_with fail
      have hx := HR.out.set (.int .i64 n) (.int .i64 gen) (.slice (some ⟨g2, 0, none⟩) k cp2)
      have x0 := hx.c0
      have x1 := hx.c1
      have x2 := hx.c2
      refine bodyPost_ret (v := retC n gen (.slice (some ⟨g2, 0, none⟩) k cp2) (.int .i64 (qz : Int))) ?_ rfl ?_
      · unfold retC; simp [results, Tryz.f43, go_sem, x0, x1, x2]
      · obtain ⟨k1, k2, k3⟩ := row_fin HRow.out (b := w.heap.size + 1) (by omega) (by omega) HCh.out (.int .i64 n) (.int .i64 gen) (.slice (some ⟨g2, 0, none⟩) k cp2)
        exact ⟨_, rfl, k1, k2, k3⟩
end Go.Proofs.YtjoaigadlpndcaaGreatDoor
namespace Go.Proofs.YtjoaigadlpndcaaGreatDoor
open Go.RowKit Go.Maps

attribute [local go_sem] Oper.semAt_some

/-- Those of a CPU that are done; those that are left. -/
def selM (c gen : Int) (x : Cb) : Bool := decide (x.c = c ∧ 0 < x.gen ∧ x.gen ≤ gen)
def leftM (gen : Int) (x : Cb) : Bool := decide (x.gen = 0 ∨ gen < x.gen)
def outC (c gen : Int) (M : List Cb) : List Int := (M.filter (selM c gen)).map (·.id)
def outM (gen : Int) (M : List Cb) (k : Nat) : List Int := (List.range k).flatMap fun (c : Nat) => outC (c : Int) gen M
theorem outM_succ (gen : Int) (M : List Cb) (k : Nat) : outM gen M (k + 1) = outM gen M k ++ outC (k : Int) gen M := by
  unfold outM; rw [List.range_succ, List.flatMap_append]; simp
theorem outC_len (c gen : Int) (M : List Cb) : (outC c gen M).length ≤ M.length := by unfold outC; rw [List.length_map]; exact List.length_filter_le _ _
theorem outM_len (gen : Int) (M : List Cb) : ∀ k, (outM gen M k).length ≤ k * M.length
  | 0 => by simp [outM]
  | k + 1 => by
    have h1 := outM_len gen M k
    have h2 := outC_len (k : Int) gen M
    rw [outM_succ, List.length_append, Nat.succ_mul]
    omega
theorem outC_snoc (c gen : Int) (M : List Cb) (x : Cb) : outC c gen (M ++ [x]) = outC c gen M ++ if selM c gen x then [x.id] else [] := by
  unfold outC
  rw [List.filter_append, List.map_append, List.filter_cons]
  by_cases h : selM c gen x <;> simp [h]
theorem left_snoc (gen : Int) (M : List Cb) (x : Cb) : (M ++ [x]).filter (leftM gen) = M.filter (leftM gen) ++ if leftM gen x then [x] else [] := by
  rw [List.filter_append, List.filter_cons]
  by_cases h : leftM gen x <;> simp [h]

/-- What Done tells and leaves. -/
def DoneR (w : World) (n last : Int) (M' : List Cb) (L : List Int) (e : Ending) (w' : World) : Prop :=
  ∃ v' o, e = .returned (retC n last v' o) ∧ RowC w' v' M' ∧ w'.ownsRow (w.heap.size + 1 + 1) 3 1 o L.length (ivs L) ∧ (∀ g, v'.ownBlock = some g → w.heap.size ≤ g) ∧ Ch [] w w'

/-- What holds while Done goes through the list: its boxes, the row of those that are told. -/
structure DK (w wr : World) (n last : Int) (va : Value) (v6 : Value) (L : List Int) : Prop where
  b : Three wr w.heap.size (.int .i64 n) (.int .i64 last) va
  r : Three wr (w.heap.size + 1) (.int .i64 0) (.int .i64 0) (.slice none 0 0)
  row : wr.ownsRow (w.heap.size + 1 + 1) 3 1 v6 L.length (ivs L)
  ch : Ch [] w wr
theorem DK.app {w wr w9 : World} {n last : Int} {va v6 v9 : Value} {L : List Int} (h : DK w wr n last va v6 L) (z : Int) (ho : w9.ownsRow (w.heap.size + 1 + 1) 3 1 v9 (L.length + 1) (ivs L ++ [.int .i64 z])) (hg : (wr.alloc (.cells #[.int .i64 z] 3)).grownBy w9 v6.ownBlock) :
    DK w w9 n last va v9 (L ++ [z]) := by
  have hrb : ∀ r, v6.ownBlock = some r → w.heap.size + 1 + 1 ≤ r := fun r e => (h.row.lt r e).1
  exact ⟨h.b.grown hg (fun r e => by have := hrb r e; omega), h.r.grown hg (fun r e => by have := hrb r e; omega), by simpa [ivs] using ho, (h.ch.alloc _).kept hg (fun r e => by have := hrb r e; omega)⟩
theorem DK.app3 {w wr w9 : World} {n last : Int} {va v6 : Value} {L : List Int} {m : Nat} {v8 : Value} {F : List Value} (h : DK w wr n last va v6 L) {o : Obj} (h8 : wr.ownsRow (w.heap.size + 1 + 1) 105 3 v8 m F) (hg : (wr.alloc o).grownBy w9 v8.ownBlock) : DK w w9 n last va v6 L := by
  have hrb : ∀ r, v8.ownBlock = some r → w.heap.size + 1 + 1 ≤ r := fun r e => (h8.lt r e).1
  refine ⟨h.b.grown hg (fun r e => by have := hrb r e; omega), h.r.grown hg (fun r e => by have := hrb r e; omega), ?_, (h.ch.alloc _).kept hg (fun r e => by have := hrb r e; omega)⟩
  exact (h.row.alloc o).kept hg (own_apart h.row h8 (by decide))

set_option maxRecDepth 100000 in
set_option maxHeartbeats 8000000 in
theorem rdone_any {w : World} {v : Value} {M : List Cb} (h : RowC w v M) (hl : M.length ≤ 100000) {n : Nat} (hn : n ≤ 64) (last gen : Int) :
    Calls Tryz.prog 41 #[.agg #[.int .i64 (n : Int), .int .i64 last, v], .int .i64 gen] w (DoneR w (n : Int) last (M.filter (leftM gen)) (outM gen M n)) := by
  obtain ⟨a, cap, rfl⟩ := h.form
  obtain ⟨i0, hI, hz0, hz1, hz2⟩ := info_parts infoC
  obtain ⟨j0, hJ, hy0, hy1, hy2⟩ := info_parts infoI
  have HR := Lib.hid h
  obtain ⟨m, hm⟩ : ∃ m, m = M.length := ⟨_, rfl⟩
  have HM := Lib.hid hm
  rw [← hm] at hl HR ⊢
  obtain ⟨W1, hW1⟩ : ∃ W, W = w.alloc (.cells #[.int .i64 (n : Int), .int .i64 last, .slice a m cap] 31) := ⟨_, rfl⟩
  obtain ⟨W2, hW2⟩ : ∃ W, W = W1.alloc (.cells #[.int .i64 0, .int .i64 0, .slice none 0 0] 31) := ⟨_, rfl⟩
  have hs1 : W1.heap.size = w.heap.size + 1 := by rw [hW1]; simp
  have hdk : DK w W2 (n : Int) last (.slice a m cap) (.slice none 0 0) [] := by
    refine ⟨?_, ?_, ⟨rfl, .inl ⟨rfl, rfl⟩⟩, ?_⟩
    · rw [hW2, hW1]; exact (Three.new w _ _ _ _).ch ((Ch.refl [] _).alloc _) (by simp)
    · rw [hW2, ← hs1]; exact Three.new W1 _ _ _ _
    · rw [hW2, hW1]; exact ((Ch.refl [] w).alloc _).alloc _
  have HDk := Lib.hid hdk
  have hb0 := hdk.b.c0
  have HOL := Lib.hid (fun k (hk : k ≤ n) => show (outM gen M k).length ≤ 6400000 from by
    have h1 := outM_len gen M k
    rw [← hm] at h1
    have h2 : k * m ≤ 64 * 100000 := Nat.mul_le_mul (by omega) hl
    omega)
  have HCL := Lib.hid (fun c k => show (outC c gen (M.take k)).length ≤ 100000 from by
    have h1 := outC_len c gen (M.take k)
    rw [List.length_take, ← hm] at h1
    omega)
  obtain ⟨M', hM'⟩ : ∃ M', M' = M.filter (leftM gen) := ⟨_, rfl⟩
  obtain ⟨L, hL⟩ : ∃ L, L = outM gen M n := ⟨_, rfl⟩
  rw [← hM', ← hL]
  have HM' := Lib.hid hM'
  have HL := Lib.hid hL
  rw [hW1] at hW2
  rw [hW2] at hb0
  clear h hm hs1 hW1 hdk hM' hL
  go_enter Tryz.func41, Tryz.ntmps41
  go_wp2_with fail
  rw [← hW2]
  clear hb0 hW2
  go_loopw [7, 6] (fun r v6 wr => ∃ k : Nat, k ≤ n ∧ r = .int .i64 (k : Int) ∧ DK w wr (n : Int) last (.slice a m cap) v6 (outM gen M k)) (fun r _ _ => n - (intOf r).toNat)
  case atStart => exact ⟨0, Nat.zero_le _, rfl, HDk.out⟩
  case round =>
    obtain ⟨c, hc, rfl, hdk⟩ := hrel
    have hb0 := hdk.b.c0
    by_cases hcn : c < n
    · have hlt : (c : Int) < (n : Int) := by omega
      have HDk := Lib.hid hdk
      have hol := HOL.out c hc
      have hb2 := hdk.b.c2
      clear hdk
      go_wp2_with fail
      go_loopw [8, 6] (fun r v6 wv => ∃ k : Nat, k ≤ m ∧ r = .int .i64 (k : Int) ∧ DK w wv (n : Int) last (.slice a m cap) v6 (outM gen M c ++ outC (c : Int) gen (M.take k))) (fun r _ _ => m - (intOf r).toNat)
      case atStart => exact ⟨0, Nat.zero_le _, rfl, by simpa [outC] using HDk.out⟩
      case round =>
        obtain ⟨k, hk, rfl, hdk⟩ := hrel
        have HDk := Lib.hid hdk
        have b0 := hdk.b.c0
        have b2 := hdk.b.c2
        by_cases hkm : k < m
        · obtain ⟨x, hx⟩ : ∃ x, M[k]? = some x := ⟨_, List.getElem?_eq_getElem (by rw [← HM.out]; exact hkm)⟩
          obtain ⟨g, rfl, e0, e1, e2⟩ := (HR.out.quiet hdk.ch).cells hx
          have hsn := outC_snoc (c : Int) gen (M.take k) x
          rw [← take_snoc3 hx] at hsn
          have HSn := Lib.hid hsn
          have hcl := HCL.out (c : Int) k
          obtain ⟨xc, hxc⟩ : ∃ y, y = x.c := ⟨_, rfl⟩
          obtain ⟨xi, hxi⟩ : ∃ y, y = x.id := ⟨_, rfl⟩
          obtain ⟨xg, hxg⟩ : ∃ y, y = x.gen := ⟨_, rfl⟩
          have HS := Lib.hid (show selM (c : Int) gen x = decide (xc = (c : Int) ∧ 0 < xg ∧ xg ≤ gen) by rw [hxc, hxg]; rfl)
          rw [← hxi] at HSn
          rw [← hxc] at e0
          rw [← hxi] at e1
          rw [← hxg] at e2
          have hlt2 : (k : Int) < (m : Int) := by omega
          obtain ⟨F, hF⟩ : ∃ F, F = outM gen M c ++ outC (c : Int) gen (M.take k) := ⟨_, rfl⟩
          have HF := Lib.hid hF
          rw [← hF] at HDk
          have hfl : F.length ≤ 6500000 := by rw [hF, List.length_append]; omega
          have hrow := HDk.out.row
          obtain ⟨a6, cp6, rfl⟩ := own_form hrow
          clear hdk hx hsn hxc hxi hxg hb0 hb2 hF hrow
          by_cases hc1 : xc = (c : Int)
          · rw [hc1] at e0
            by_cases hc2 : 0 < xg
            · by_cases hc3 : xg ≤ gen
              · have HT := Lib.hid (show outM gen M c ++ outC (c : Int) gen (M.take (k + 1)) = F ++ [xi] by
                  rw [HSn.out, HF.out, HS.out, decide_eq_true (show xc = (c : Int) ∧ 0 < xg ∧ xg ≤ gen from ⟨hc1, hc2, hc3⟩), ← List.append_assoc]; rfl)
                have d1 : decide (xg > 0) = true := decide_eq_true hc2
                have d2 : decide (xg ≤ gen) = true := decide_eq_true hc3
                clear HSn HS hc1 hc2 hc3
                go_wp2_with (at_builtin; go_must (refine wpList_append_own _ rfl _ _ 48 rfl (w.heap.size + 1 + 1) 3 j0 (.int .i64 0) 1 8 Tryz.underlying48 hJ hy0 hy1 hy2 rfl (by decide) _ _ _ rfl (HDk.out.row.alloc _) ⟨wr.heap.size, 0, none⟩ 1 1 [.int .i64 xi] rfl rfl (cell_one_new _ _ _) (by simp [Value.oneCell']) (by unfold maxLen; omega) (by omega) (by have := HDk.out.r.lt; simp; omega) ?_); intro v9 w9 hown9 hgrow9 _)
                have HD9 := Lib.hid (HDk.out.app xi hown9 hgrow9)
                clear hown9 hgrow9
                go_wp2_with fail
                go_roundw
                case rel => exact ⟨k + 1, by omega, by go_num, by rw [HT.out]; exact HD9.out⟩
                case measure => simp [intOf]; omega
              · have HT := Lib.hid (show outM gen M c ++ outC (c : Int) gen (M.take (k + 1)) = F by
                  rw [HSn.out, HF.out, HS.out, decide_eq_false (fun e => hc3 e.2.2)]; simp)
                have d1 : decide (xg > 0) = true := decide_eq_true hc2
                have d2 : decide (xg ≤ gen) = false := decide_eq_false hc3
                clear HSn HS hc1 hc2 hc3
                go_wp2
                go_roundw
                case rel => exact ⟨k + 1, by omega, by go_num, by rw [HT.out]; exact HDk.out⟩
                case measure => simp [intOf]; omega
            · have HT := Lib.hid (show outM gen M c ++ outC (c : Int) gen (M.take (k + 1)) = F by
                rw [HSn.out, HF.out, HS.out, decide_eq_false (fun e => hc2 e.2.1)]; simp)
              have d1 : decide (xg > 0) = false := decide_eq_false hc2
              clear HSn HS hc1 hc2
              go_wp2
              go_roundw
              case rel => exact ⟨k + 1, by omega, by go_num, by rw [HT.out]; exact HDk.out⟩
              case measure => simp [intOf]; omega
          · have HT := Lib.hid (show outM gen M c ++ outC (c : Int) gen (M.take (k + 1)) = F by
              rw [HSn.out, HF.out, HS.out, decide_eq_false (fun e => hc1 e.1)]; simp)
            have d1 : (xc == (c : Int)) = false := beq_false_of_ne hc1
            clear HSn HS hc1
            go_wp2
            go_roundw
            case rel => exact ⟨k + 1, by omega, by go_num, by rw [HT.out]; exact HDk.out⟩
            case measure => simp [intOf]; omega
        · have hkm' : ¬ (k : Int) < (m : Int) := by omega
          clear hdk hb0 hb2
          go_wp2
          go_roundw
          case rel =>
            refine ⟨c + 1, by omega, by go_num, ?_⟩
            have h5 := HDk.out
            rw [List.take_of_length_le (by rw [← HM.out]; omega), ← outM_succ] at h5
            exact h5
          case measure => simp [intOf]; omega
    · have hcn' : ¬ (c : Int) < (n : Int) := by omega
      obtain rfl : c = n := by omega
      have HDk := Lib.hid hdk
      rw [← HL.out] at HDk
      have hb2 := hdk.b.c2
      clear hdk
      go_wp2_with fail
      obtain ⟨a6, cp6, rfl⟩ := own_form HDk.out.row
      go_loopw [10, 9] (fun r v9 wv => ∃ (k t : Nat), k ≤ m ∧ r = .int .i64 (k : Int) ∧ t ≤ k ∧ DK w wv (c : Int) last (.slice a m cap) (.slice a6 L.length cp6) L ∧ wv.ownsRow (w.heap.size + 1 + 1) 105 3 v9 t (flat3 ((M.take k).filter (leftM gen)))) (fun r _ _ => m - (intOf r).toNat)
      case atStart => exact ⟨0, 0, Nat.zero_le _, rfl, Nat.le_refl _, HDk.out, ⟨rfl, .inl ⟨rfl, rfl⟩⟩⟩
      case round =>
        obtain ⟨k, t, hk, rfl, htk, hdk, hrow⟩ := hrel
        have HDk := Lib.hid hdk
        have HRow := Lib.hid hrow
        have b2 := hdk.b.c2
        obtain ⟨a9, cp9, rfl⟩ := own_form hrow
        by_cases hkm : k < m
        · obtain ⟨x, hx⟩ : ∃ x, M[k]? = some x := ⟨_, List.getElem?_eq_getElem (by rw [← HM.out]; exact hkm)⟩
          obtain ⟨g, rfl, e0, e1, e2⟩ := (HR.out.quiet hdk.ch).cells hx
          have hsn := left_snoc gen (M.take k) x
          rw [← take_snoc3 hx] at hsn
          have HSn := Lib.hid hsn
          have hlt2 : (k : Int) < (m : Int) := by omega
          have HT1 := Lib.hid (show leftM gen x = true → flat3 ((M.take (k + 1)).filter (leftM gen)) = flat3 ((M.take k).filter (leftM gen)) ++ [.int .i64 x.c, .int .i64 x.id, .int .i64 x.gen] from fun e => by
            rw [hsn, e, ← flat3_snoc]; rfl)
          have HT0 := Lib.hid (show leftM gen x = false → flat3 ((M.take (k + 1)).filter (leftM gen)) = flat3 ((M.take k).filter (leftM gen)) from fun e => by
            rw [hsn, e]; simp)
          obtain ⟨F, hF⟩ : ∃ F, F = flat3 ((M.take k).filter (leftM gen)) := ⟨_, rfl⟩
          rw [← hF] at HT1 HT0 HRow
          obtain ⟨xc, hxc⟩ : ∃ y, y = x.c := ⟨_, rfl⟩
          obtain ⟨xi, hxi⟩ : ∃ y, y = x.id := ⟨_, rfl⟩
          obtain ⟨xg, hxg⟩ : ∃ y, y = x.gen := ⟨_, rfl⟩
          have HS := Lib.hid (show leftM gen x = decide (xg = 0 ∨ gen < xg) by rw [hxg]; rfl)
          rw [← hxc, ← hxi, ← hxg] at HT1
          rw [← hxc] at e0
          rw [← hxi] at e1
          rw [← hxg] at e2
          clear hdk hrow hx hsn hxc hxi hxg hF hb0 hb2
          by_cases hg0 : xg = 0
          · have HT := Lib.hid (HT1.out (by rw [HS.out]; exact decide_eq_true (.inl hg0)))
            subst hg0
            clear HT1 HT0 HS
            go_wp2_with (at_builtin; go_must (refine wpList_append_own _ rfl _ _ 29 rfl (w.heap.size + 1 + 1) 105 i0 (.agg #[.int .i64 0, .int .i64 0, .int .i64 0]) 3 24 Tryz.underlying29 hI hz0 hz1 hz2 rfl (by decide) _ _ _ rfl (HRow.out.alloc _) ⟨wr.heap.size, 0, none⟩ 1 1 [.int .i64 xc, .int .i64 xi, .int .i64 0] rfl rfl (cells3_new _ _ _ _ _) (by simp [Value.oneCell']) (by unfold maxLen; omega) (by omega) (by have := HDk.out.r.lt; simp; omega) ?_); intro v9 w9 hown9 hgrow9 _)
            have HD9 := Lib.hid (HDk.out.app3 HRow.out hgrow9)
            have HO9 := Lib.hid hown9
            clear hown9 hgrow9
            go_wp2_with fail
            go_roundw
            case rel => exact ⟨k + 1, t + 1, by omega, by go_num, by omega, HD9.out, by rw [HT.out]; exact HO9.out⟩
            case measure => simp [intOf]; omega
          · have d1 : (xg == 0) = false := beq_false_of_ne hg0
            by_cases hg1 : gen < xg
            · have HT := Lib.hid (HT1.out (by rw [HS.out]; exact decide_eq_true (.inr hg1)))
              have d2 : decide (xg > gen) = true := decide_eq_true hg1
              clear HT1 HT0 HS hg0 hg1
              go_wp2_with (at_builtin; go_must (refine wpList_append_own _ rfl _ _ 29 rfl (w.heap.size + 1 + 1) 105 i0 (.agg #[.int .i64 0, .int .i64 0, .int .i64 0]) 3 24 Tryz.underlying29 hI hz0 hz1 hz2 rfl (by decide) _ _ _ rfl (HRow.out.alloc _) ⟨wr.heap.size, 0, none⟩ 1 1 [.int .i64 xc, .int .i64 xi, .int .i64 xg] rfl rfl (cells3_new _ _ _ _ _) (by simp [Value.oneCell']) (by unfold maxLen; omega) (by omega) (by have := HDk.out.r.lt; simp; omega) ?_); intro v9 w9 hown9 hgrow9 _)
              have HD9 := Lib.hid (HDk.out.app3 HRow.out hgrow9)
              have HO9 := Lib.hid hown9
              clear hown9 hgrow9
              go_wp2_with fail
              go_roundw
              case rel => exact ⟨k + 1, t + 1, by omega, by go_num, by omega, HD9.out, by rw [HT.out]; exact HO9.out⟩
              case measure => simp [intOf]; omega
            · have HT := Lib.hid (HT0.out (by rw [HS.out]; exact decide_eq_false (by omega)))
              have d2 : decide (xg > gen) = false := decide_eq_false hg1
              clear HT1 HT0 HS hg0 hg1
              go_wp2
              go_roundw
              case rel => exact ⟨k + 1, t, by omega, by go_num, by omega, HDk.out, by rw [HT.out]; exact HRow.out⟩
              case measure => simp [intOf]; omega
        · have hkm' : ¬ (k : Int) < (m : Int) := by omega
          have eM : (M.take k).filter (leftM gen) = M' := by rw [HM'.out, List.take_of_length_le (by rw [← HM.out]; omega)]
          rw [eM] at HRow
          have hsz := hdk.ch.size
          have b0 := hdk.b.c0
          have b1 := hdk.b.c1
          have r0 := hdk.r.c0
          have r1 := hdk.r.c1
          have r2 := hdk.r.c2
          have f0 := hdk.r.f0
          have f1 := hdk.r.f1
          have f2 := hdk.r.f2
          clear hdk hrow eM hb0 hb2
          go_wp2_with fail
          have hx := HDk.out.r.set (.int .i64 (c : Int)) (.int .i64 last) (.slice a9 t cp9)
          have x0 := hx.c0
          have x1 := hx.c1
          have x2 := hx.c2
          refine bodyPost_ret (v := retC (c : Int) last (.slice a9 t cp9) (.slice a6 L.length cp6)) ?_ rfl ?_
          · unfold retC; simp [results, Tryz.f41, go_sem, x0, x1, x2]
          · obtain ⟨k1, k2, k3⟩ := row_fin HRow.out (b := w.heap.size + 1) (by omega) (by omega) HDk.out.ch (.int .i64 (c : Int)) (.int .i64 last) (.slice a9 t cp9)
            exact ⟨_, _, rfl, k1, own_ch HDk.out.row (set3_ch _ _ _ _ _) (by simp), k2, k3⟩
end Go.Proofs.YtjoaigadlpndcaaGreatDoor
namespace Go.Proofs.YtjoaigadlpndcaaGreatDoor
open rC (Th)

/-- What a CPU has, of the answer's list. -/
def strip (x : Cb) : Th := (x.id, x.gen)
def fOf (M : List Cb) (i : Nat) : List Th := (M.filter fun x => decide (x.c = (i : Int))).map strip
/-- What always holds of the answer's list. -/
structure MI (M : List Cb) (n : Nat) (last : Int) : Prop where
  cpu : ∀ x ∈ M, 0 ≤ x.c ∧ x.c < (n : Int)
  gen : ∀ x ∈ M, 0 ≤ x.gen ∧ x.gen ≤ last
  ord : M.Pairwise fun x y => y.gen = 0 ∨ (1 ≤ x.gen ∧ x.gen ≤ y.gen)
  lo : 0 ≤ last
theorem MI.nil (n : Nat) : MI [] n 0 := ⟨by simp, by simp, List.Pairwise.nil, by omega⟩
theorem MI.add {M : List Cb} {n : Nat} {last : Int} (h : MI M n last) {c : Nat} (hc : c < n) (zs : List Int) : MI (M ++ zs.map (mkC (c : Int))) n last := by
  have hn : ∀ x ∈ zs.map (mkC (c : Int)), x.c = (c : Int) ∧ x.gen = 0 := fun x hx => by
    obtain ⟨z, _, rfl⟩ := List.mem_map.1 hx
    exact ⟨rfl, rfl⟩
  have hl := h.lo
  refine ⟨fun x hx => ?_, fun x hx => ?_, ?_, h.lo⟩
  · rcases List.mem_append.1 hx with h1 | h1
    · exact h.cpu x h1
    · have := (hn x h1).1; omega
  · rcases List.mem_append.1 hx with h1 | h1
    · exact h.gen x h1
    · have := (hn x h1).2; omega
  · rw [List.pairwise_append]
    refine ⟨h.ord, ?_, fun x _ y hy => .inl (hn y hy).2⟩
    exact List.Pairwise.imp_of_mem (fun {a b} _ hb _ => .inl (hn b hb).2) (List.pairwise_of_forall (R := fun _ _ => True) (fun _ _ => trivial))
theorem MI.close {M : List Cb} {n : Nat} {last gen : Int} (h : MI M n last) (h1 : 1 ≤ gen) (h2 : last ≤ gen) : MI (M.map (giveC gen)) n gen := by
  have hg : ∀ x : Cb, (giveC gen x).c = x.c ∧ (x.gen = 0 → (giveC gen x).gen = gen) ∧ (x.gen ≠ 0 → (giveC gen x).gen = x.gen) := fun x => by
    unfold giveC
    by_cases e : x.gen = 0
    · rw [if_pos e]; exact ⟨rfl, fun _ => rfl, fun f => absurd e f⟩
    · rw [if_neg e]; exact ⟨rfl, fun f => absurd f e, fun _ => rfl⟩
  refine ⟨fun x hx => ?_, fun x hx => ?_, ?_, by omega⟩
  · obtain ⟨y, hy, rfl⟩ := List.mem_map.1 hx
    rw [(hg y).1]
    exact h.cpu y hy
  · obtain ⟨y, hy, rfl⟩ := List.mem_map.1 hx
    have := h.gen y hy
    by_cases e : y.gen = 0
    · rw [(hg y).2.1 e]; omega
    · rw [(hg y).2.2 e]; omega
  · rw [List.pairwise_map]
    refine List.Pairwise.imp_of_mem (fun {a b} ha hb hab => .inr ?_) h.ord
    have ga := h.gen a ha
    have gb := h.gen b hb
    by_cases ea : a.gen = 0
    · rw [(hg a).2.1 ea]
      by_cases eb : b.gen = 0
      · rw [(hg b).2.1 eb]; omega
      · omega
    · rw [(hg a).2.2 ea]
      by_cases eb : b.gen = 0
      · rw [(hg b).2.1 eb]; omega
      · rw [(hg b).2.2 eb]; omega
theorem MI.done {M : List Cb} {n : Nat} {last : Int} (h : MI M n last) (p : Cb → Bool) : MI (M.filter p) n last :=
  ⟨fun x hx => h.cpu x (List.mem_filter.1 hx).1, fun x hx => h.gen x (List.mem_filter.1 hx).1, h.ord.filter p, h.lo⟩

theorem fOf_len (M : List Cb) (c : Nat) : (fOf M c).length = cntM M (c : Int) := by
  unfold fOf cntM
  rw [List.length_map, List.countP_eq_length_filter]
theorem fOf_add (M : List Cb) (c : Nat) (zs : List Int) (i : Nat) : fOf (M ++ zs.map (mkC (c : Int))) i = if i = c then fOf M i ++ zs.map fresh else fOf M i := by
  unfold fOf
  rw [List.filter_append, List.map_append]
  by_cases e : i = c
  · subst e
    have h1 : (zs.map (mkC (i : Int))).filter (fun x => decide (x.c = (i : Int))) = zs.map (mkC (i : Int)) := List.filter_eq_self.2 (fun x hx => by obtain ⟨z, _, rfl⟩ := List.mem_map.1 hx; exact decide_eq_true rfl)
    rw [if_pos rfl, h1, List.map_map]
    rfl
  · have h1 : (zs.map (mkC (c : Int))).filter (fun x => decide (x.c = (i : Int))) = [] := List.filter_eq_nil_iff.2 (fun x hx => by
      obtain ⟨z, _, rfl⟩ := List.mem_map.1 hx
      intro e2
      have e3 : (c : Int) = (i : Int) := of_decide_eq_true e2
      omega)
    rw [if_neg e, h1]
    simp
theorem add_rel (M : List Cb) (c : Nat) (zs : List Int) (h64 : cntM M (c : Int) ≤ 64) : updF (fOf M) c ((fOf M c ++ zs.map fresh).take 64) = fOf (M ++ (zs.take (64 - cntM M (c : Int))).map (mkC (c : Int))) := by
  funext i
  rw [fOf_add]
  by_cases e : i = c
  · subst e
    rw [updF_same, if_pos rfl, List.take_append, fOf_len, List.take_of_length_le (by rw [fOf_len]; exact h64), List.map_take]
  · rw [updF_other _ e, if_neg e]
theorem close_rel (M : List Cb) (gen : Int) (i : Nat) : fOf (M.map (giveC gen)) i = (fOf M i).map (giveT gen) := by
  unfold fOf
  rw [List.filter_map, List.map_map, List.map_map]
  have e1 : ((fun x : Cb => decide (x.c = (i : Int))) ∘ giveC gen) = fun x => decide (x.c = (i : Int)) := by
    funext x
    show decide ((giveC gen x).c = (i : Int)) = _
    unfold giveC
    split <;> rfl
  rw [e1]
  apply List.map_congr_left
  intro x _
  show strip (giveC gen x) = giveT gen (strip x)
  unfold giveC giveT strip
  by_cases e : x.gen = 0
  · rw [if_pos e, if_pos e]
  · rw [if_neg e, if_neg e]

/-- Where generations never fall, and those without one stand last. -/
def OrdT (l : List Th) : Prop := l.Pairwise fun x y => y.2 = 0 ∨ (1 ≤ x.2 ∧ x.2 ≤ y.2)
theorem fOf_ord {M : List Cb} {n : Nat} {last : Int} (h : MI M n last) (i : Nat) : OrdT (fOf M i) := by
  unfold OrdT fOf
  rw [List.pairwise_map]
  exact h.ord.filter _
theorem ord_while {l : List Th} (h : OrdT l) (gen : Int) : l.takeWhile (up gen) = l.filter (up gen) ∧ l.dropWhile (up gen) = l.filter (fun x => !up gen x) := by
  unfold OrdT at h
  induction l with
  | nil => simp
  | cons x t ih =>
    obtain ⟨h1, h2⟩ := List.pairwise_cons.1 h
    obtain ⟨i1, i2⟩ := ih h2
    by_cases e : up gen x = true
    · simp [e, i1, i2]
    · have hall : ∀ y ∈ t, up gen y = false := fun y hy => by
        have e2 : ¬ (1 ≤ x.2 ∧ x.2 ≤ gen) := by unfold up at e; simpa using e
        unfold up
        refine decide_eq_false ?_
        rcases h1 y hy with h3 | h3 <;> omega
      have e' : up gen x = false := by simpa using e
      have f1 : t.filter (up gen) = [] := List.filter_eq_nil_iff.2 (fun y hy => by rw [hall y hy]; simp)
      have f2 : t.filter (fun x => !up gen x) = t := List.filter_eq_self.2 (fun y hy => by rw [hall y hy]; rfl)
      simp [e', f1, f2]
theorem out_rel {M : List Cb} {n : Nat} {last : Int} (h : MI M n last) (gen : Int) (k : Nat) : outN gen (fOf M) k = outM gen M k := by
  unfold outN outM
  congr 1
  funext i
  rw [(ord_while (fOf_ord h i) gen).1]
  unfold fOf outC
  rw [List.filter_map, List.map_map, List.filter_filter]
  have e1 : (fun a : Cb => (up gen ∘ strip) a && decide (a.c = (i : Int))) = selM (i : Int) gen := by
    funext x
    show (decide (1 ≤ x.gen ∧ x.gen ≤ gen) && decide (x.c = (i : Int))) = decide (x.c = (i : Int) ∧ 0 < x.gen ∧ x.gen ≤ gen)
    rw [Bool.eq_iff_iff]
    simp only [Bool.and_eq_true, decide_eq_true_eq]
    omega
  rw [e1]
  rfl
theorem done_rel {M : List Cb} {n : Nat} {last : Int} (h : MI M n last) (gen : Int) (i : Nat) : fOf (M.filter (leftM gen)) i = (fOf M i).dropWhile (up gen) := by
  rw [(ord_while (fOf_ord h i) gen).2]
  unfold fOf
  rw [List.filter_map, List.filter_filter, List.filter_filter]
  congr 1
  apply List.filter_congr
  intro x hx
  have hg := h.gen x hx
  show (decide (x.c = (i : Int)) && decide (x.gen = 0 ∨ gen < x.gen)) = (!decide (1 ≤ x.gen ∧ x.gen ≤ gen) && decide (x.c = (i : Int)))
  rw [Bool.eq_iff_iff]
  simp only [Bool.and_eq_true, decide_eq_true_eq, Bool.not_eq_true', decide_eq_false_iff_not]
  omega

theorem filter_split {α : Type} (p q r : α → Bool) (hr : ∀ x, r x = (p x || q x)) (hd : ∀ x, p x = true → q x = false) : ∀ l : List α, (l.filter p ++ l.filter q).Perm (l.filter r)
  | [] => List.Perm.refl _
  | x :: t => by
    have ih := filter_split p q r hr hd t
    rw [List.filter_cons, List.filter_cons, List.filter_cons, hr x]
    cases hp : p x with
    | true =>
      rw [hd x hp]
      simpa using ih
    | false =>
      cases hq : q x with
      | true => simpa using List.perm_middle.trans (List.Perm.cons x ih)
      | false => simpa using ih
theorem cat_perm {M : List Cb} {n : Nat} (h : ∀ x ∈ M, 0 ≤ x.c ∧ x.c < (n : Int)) : (catL (fOf M) n).Perm (M.map strip) := by
  have key : ∀ k, (catL (fOf M) k).Perm ((M.filter fun x => decide (x.c < (k : Int))).map strip) := by
    intro k
    induction k with
    | zero =>
      have : M.filter (fun x => decide (x.c < ((0 : Nat) : Int))) = [] := List.filter_eq_nil_iff.2 (fun x hx => by have := (h x hx).1; simp; omega)
      rw [this]
      exact List.Perm.refl _
    | succ k ih =>
      rw [catL_succ]
      refine (ih.append_right _).trans ?_
      unfold fOf
      rw [← List.map_append]
      refine List.Perm.map _ (filter_split _ _ _ (fun x => ?_) (fun x hx => ?_) M)
      · rw [Bool.eq_iff_iff]
        simp only [Bool.or_eq_true, decide_eq_true_eq]
        omega
      · simp only [decide_eq_true_eq] at hx
        exact decide_eq_false (by omega)
  have h2 := key n
  rwa [List.filter_eq_self.2 (fun x hx => decide_eq_true (h x hx).2)] at h2
theorem sum_zc (f : Nat → List Th) : ∀ n, sumN (fun i => zc (f i)) n = zc (catL f n)
  | 0 => rfl
  | n + 1 => by
    rw [catL_succ]
    show sumN (fun i => zc (f i)) n + zc (f n) = _
    rw [sum_zc f n]
    unfold zc
    rw [List.countP_append]
theorem zc_rel {M : List Cb} {n : Nat} (h : ∀ x ∈ M, 0 ≤ x.c ∧ x.c < (n : Int)) : zc (catL (fOf M) n) = zcM M := by
  unfold zc zcM
  rw [(cat_perm h).countP_eq, List.countP_map]
  rfl
theorem len_rel {M : List Cb} {n : Nat} (h : ∀ x ∈ M, 0 ≤ x.c ∧ x.c < (n : Int)) : (catL (fOf M) n).length = M.length := by
  rw [(cat_perm h).length_eq, List.length_map]
theorem mx_le {α : Type} (g : α → Int) (b : Int) : ∀ (l : List α) (s : Int), l.foldl (fun m x => if m < g x then g x else m) s ≤ b ↔ s ≤ b ∧ ∀ x ∈ l, g x ≤ b
  | [], s => by simp
  | x :: t, s => by
    rw [List.foldl_cons, mx_le g b t]
    constructor
    · rintro ⟨h1, h2⟩
      split at h1
      · exact ⟨by omega, fun y hy => by rcases List.mem_cons.1 hy with rfl | h3; exact h1; exact h2 y h3⟩
      · exact ⟨h1, fun y hy => by rcases List.mem_cons.1 hy with rfl | h3; omega; exact h2 y h3⟩
    · rintro ⟨h1, h2⟩
      have := h2 x (by simp)
      refine ⟨by split <;> omega, fun y hy => h2 y (by simp [hy])⟩
theorem mx_rel {M : List Cb} {n : Nat} (h : ∀ x ∈ M, 0 ≤ x.c ∧ x.c < (n : Int)) : mxI (catL (fOf M) n) = mxM M := by
  have hp := cat_perm h
  have h1 : ∀ b, mxI (catL (fOf M) n) ≤ b ↔ mxM M ≤ b := fun b => by
    unfold mxI mxM
    rw [mx_le (fun x : Th => x.2), mx_le (fun x : Cb => x.gen)]
    refine and_congr_right fun _ => ⟨fun h2 x hx => ?_, fun h2 x hx => ?_⟩
    · exact h2 (strip x) (hp.mem_iff.2 (List.mem_map.2 ⟨x, hx, rfl⟩))
    · obtain ⟨y, hy, rfl⟩ := List.mem_map.1 (hp.mem_iff.1 hx)
      exact h2 y hy
  exact Int.le_antisymm ((h1 _).2 (Int.le_refl _)) ((h1 _).1 (Int.le_refl _))

/-- Where one of the answer's callbacks stands in its CPU's list. -/
theorem fOf_at {M : List Cb} {k : Nat} {x : Cb} (hx : M[k]? = some x) {c : Nat} (hc : x.c = (c : Int)) : (fOf M c)[cntM (M.take k) (c : Int)]? = some (strip x) := by
  obtain ⟨hk, rfl⟩ := List.getElem?_eq_some_iff.1 hx
  have e : M = M.take k ++ M[k] :: M.drop (k + 1) := by
    rw [← List.drop_eq_getElem_cons hk, List.take_append_drop]
  have e2 : fOf M c = fOf (M.take k) c ++ strip M[k] :: fOf (M.drop (k + 1)) c := by
    have e3 : fOf (M.take k ++ M[k] :: M.drop (k + 1)) c = fOf (M.take k) c ++ strip M[k] :: fOf (M.drop (k + 1)) c := by
      unfold fOf
      rw [List.filter_append, List.map_append, List.filter_cons, decide_eq_true hc]
      rfl
    rwa [← e] at e3
  rw [e2, ← fOf_len, List.getElem?_append_right (Nat.le_refl _)]
  simp
end Go.Proofs.YtjoaigadlpndcaaGreatDoor
