/-
  The document's answer for the wheel: To; a spot of the program as the answer's.
-/
import Derived.Test.YtnndofeomakpiaaGreatDoorWpD
import Derived.Test.YtnndofeomakpiaaGreatDoorWpE
namespace Go.Proofs.YtnndofeomakpiaaGreatDoor
open Go.RowKit

attribute [local go_sem] Oper.semAt_some

theorem ofs_any (lv sl sa sd : Int) (w : World) :
    Calls Tryz.prog 9 #[.agg #[.int .i64 lv, .int .i64 sl, .int .u64 sa, .int .u64 sd]] w fun e w' => e = .returned (.agg #[.int .i64 lv, .int .i64 sl, .int .u64 sa, .int .u64 sd]) ∧ Ch [] w w' := by
  obtain ⟨k0, k1, k2, k3⟩ := Four.new w (.int .i64 lv) (.int .i64 sl) (.int .u64 sa) (.int .u64 sd) 40
  go_enter Tryz.func9, Tryz.ntmps9
  go_wp2_with fail
  obtain ⟨s0, s1, s2, s3⟩ := Four.new (w.alloc (.cells #[.int .i64 lv, .int .i64 sl, .int .u64 sa, .int .u64 sd] 40)) (.int .i64 lv) (.int .i64 sl) (.int .u64 sa) (.int .u64 sd) 37
  simp only [World.size_alloc] at s0 s1 s2 s3
  refine bodyPost_ret (v := .agg #[.int .i64 lv, .int .i64 sl, .int .u64 sa, .int .u64 sd]) ?_ rfl ?_
  · simp [results, Tryz.f9, go_sem, s0, s1, s2, s3]
  · exact ⟨rfl, ((Ch.refl [] w).alloc _).alloc _⟩
theorem best_head {m : List Tm} (hr : Rising m) (hnd : (m.map (·.id)).Nodup) {j : Nat} {x : Tm} (h : Best m m.length j x) : DL m = x :: DL (less m x.id) := by
  have hx : x ∈ m := List.mem_of_getElem? h.at'
  obtain ⟨A, B, e, hA, hl⟩ := split_id hnd hx
  rw [hl]
  refine (DL_only hr ?_ ?_).symm
  · rw [e]
    exact (List.Perm.cons x (DL_perm (A ++ B))).trans List.perm_middle.symm
  · rw [List.pairwise_cons]
    have hsub : (A ++ B).Sublist m := by rw [e]; simp
    refine ⟨fun y hy => ?_, DL_sorted (List.Pairwise.sublist hsub hr)⟩
    rw [DL_mem] at hy
    have hy' : y ∈ m := hsub.subset hy
    obtain ⟨i, hi, ey⟩ := List.mem_iff_getElem.1 hy'
    have hyi : m[i]? = some y := by rw [List.getElem?_eq_getElem hi, ey]
    obtain ⟨hj, ex⟩ := List.getElem?_eq_some_iff.1 h.at'
    rcases Nat.lt_trichotomy i j with hij | hij | hij
    · exact .inl (h.ahead i y hij hyi)
    · exfalso
      subst hij
      rw [h.at'] at hyi
      cases hyi
      rw [e, List.map_append, List.map_cons, List.nodup_append] at hnd
      rcases List.mem_append.1 hy with h1 | h1
      · exact hA x h1 rfl
      · exact (List.nodup_cons.1 hnd.2.1).1 (List.mem_map.2 ⟨x, h1, rfl⟩)
    · have h1 := h.behind i y hi hyi
      have h2 := (List.pairwise_iff_getElem.1 hr) j i hj hi hij
      rw [ex, ey] at h2
      unfold dueLt
      omega
theorem delL_snoc' (m : List Tm) (pre : List Tm) (x : Tm) : less (delL m (pre.map (·.id))) x.id = delL m ((pre ++ [x]).map (·.id)) := by
  rw [List.map_append, List.map_cons, List.map_nil, delL_snoc]
theorem delL_rise {m : List Tm} (h : Rising m) (zs : List Int) : Rising (delL m zs) := by rw [delL_eq]; exact h.filter _
theorem delL_nd {m : List Tm} (h : (m.map (·.id)).Nodup) (zs : List Int) : ((delL m zs).map (·.id)).Nodup := by rw [delL_eq]; exact (List.Sublist.map _ List.filter_sublist).nodup h
def lenV (v : Value) : Nat := match v with | .slice _ n _ => n | _ => 0
theorem next_out {m : List Tm} {R : Int} (h : NextIs m R) : (m = [] ∧ R = -1) ∨ ∃ (j : Nat) (x : Tm), R = (j : Int) ∧ j < m.length ∧ m[j]? = some x ∧ Best m m.length j x := by
  rcases h with h | ⟨j, x, h1, h2⟩
  · exact .inl h
  · exact .inr ⟨j, x, h1, h2.lt, h2.at', h2⟩
set_option maxRecDepth 100000 in
set_option maxHeartbeats 2000000 in
theorem rto_less {w : World} {D : Nat} {v : Value} {m : List Tm} (h : RT w D v m) {now x : Int} (hle : x ≤ now) :
    Calls Tryz.prog 33 #[rw7 now v, .int .u64 x] w fun e w' => e = .returned (.tuple #[rw7 now v, .slice none 0 0]) ∧ Ch [] w w' := by
  obtain ⟨a, c, rfl⟩ := own_form h
  generalize m.length = n
  clear h
  unfold rw7
  have hd : decide (x ≤ now) = true := decide_eq_true hle
  obtain ⟨q0, q1⟩ := two_new w (.int .u64 now) (.slice a n c) 58
  have hX1 := Box2.new (w.alloc (.cells #[.int .u64 now, .slice a n c] 58)) (.int .u64 0) (.slice none 0 0) 58
  have r0 := Mk.cell_allocd (.cells #[.int .u64 0, .slice none 0 0] 58) q0
  have r1 := Mk.cell_allocd (.cells #[.int .u64 0, .slice none 0 0] 58) q1
  have hal : Ch [] w ((w.alloc (.cells #[.int .u64 now, .slice a n c] 58)).alloc (.cells #[.int .u64 0, .slice none 0 0] 58)) := ((Ch.refl [] w).alloc _).alloc _
  simp only [World.size_alloc] at hX1
  obtain ⟨W1, hW1⟩ : ∃ W1, ((w.alloc (.cells #[.int .u64 now, .slice a n c] 58)).alloc (.cells #[.int .u64 0, .slice none 0 0] 58)) = W1 := ⟨_, rfl⟩
  rw [hW1] at hX1 r0 r1 hal
  have HAl := Lib.hid hal
  have HX1 := Lib.hid hX1
  obtain ⟨b0, b1, bf0, bf1⟩ := hX1
  clear q0 q1 hal hle
  go_enter Tryz.func33, Tryz.ntmps33
  go_wp2_with fail
  have hb5 := HX1.out.set (.int .u64 now) (.slice a n c)
  have hc5 : Ch [w.heap.size + 1] W1 ((W1.setCell ⟨w.heap.size + 1, 0, none⟩ (.int .u64 now)).setCell ⟨w.heap.size + 1, 1, none⟩ (.slice a n c)) := ((Ch.refl [w.heap.size + 1] W1).setCell (p := ⟨w.heap.size + 1, 0, none⟩) (by simp) _).setCell (p := ⟨w.heap.size + 1, 1, none⟩) (by simp) _
  have HC5 := Lib.hid (HAl.out.fresh hc5 (fun k hk => by simp at hk; omega))
  obtain ⟨p0, p1, _, _⟩ := hb5
  clear hc5 b0 b1 bf0 bf1
  refine bodyPost_ret (v := .tuple #[.agg #[.int .u64 now, .slice a n c], .slice none 0 0]) ?_ rfl ?_
  · simp [results, Tryz.f33, go_sem, p0, p1]
  · exact ⟨rfl, HC5.out⟩
set_option maxRecDepth 100000 in
set_option maxHeartbeats 4000000 in
theorem rto_any {w : World} {D : Nat} {v : Value} {m : List Tm} (h : RT w D v m) (hD : D ≤ w.heap.size) (hl : m.length ≤ 256) (hr : Rising m) (hnd : (m.map (·.id)).Nodup) {now x : Int} (hlt : now < x) :
    Calls Tryz.prog 33 #[rw7 now v, .int .u64 x] w fun e w' => ∃ v' u, e = .returned (.tuple #[rw7 x v', u]) ∧ RT w' D v' (later m x) ∧ (v' = v ∨ ∀ g, v'.ownBlock = some g → w.heap.size ≤ g) ∧ w'.ownsRow w.heap.size 3 1 u (outs m x).length ((outs m x).map iv) ∧ Ch [] w w' := by
  obtain ⟨i0, hI, hz0, hz1, hz2⟩ := info_parts infoI
  obtain ⟨a, c, rfl⟩ := own_form h
  obtain ⟨n, hn⟩ : ∃ n, n = m.length := ⟨_, rfl⟩
  rw [← hn] at hl ⊢
  have HH := Lib.hid (show RT w D (.slice a n c) m from by rw [hn]; exact h)
  have HN := Lib.hid hn
  have HRi := Lib.hid hr
  have HNd := Lib.hid hnd
  have HDl := Lib.hid hD
  unfold rw7
  have hd : decide (x ≤ now) = false := decide_eq_false (by omega)
  have hX0 := (Box2.new w (.int .u64 now) (.slice a n c) 58).alloc (.cells #[.int .u64 0, .slice none 0 0] 58)
  have hX1 := Box2.new (w.alloc (.cells #[.int .u64 now, .slice a n c] 58)) (.int .u64 0) (.slice none 0 0) 58
  have hal : Ch [] w ((w.alloc (.cells #[.int .u64 now, .slice a n c] 58)).alloc (.cells #[.int .u64 0, .slice none 0 0] 58)) := ((Ch.refl [] w).alloc _).alloc _
  simp only [World.size_alloc] at hX1
  obtain ⟨W1, hW1⟩ : ∃ W1, ((w.alloc (.cells #[.int .u64 now, .slice a n c] 58)).alloc (.cells #[.int .u64 0, .slice none 0 0] 58)) = W1 := ⟨_, rfl⟩
  rw [hW1] at hX0 hX1 hal
  have HAl := Lib.hid hal
  have HX0 := Lib.hid hX0
  have HX1 := Lib.hid hX1
  obtain ⟨b0, b1, bf0, bf1⟩ := hX0
  have HNx := Lib.hid (fun (W : World) (hc : Ch [] w W) (v' : Value) (m' : List Tm) (h' : RT W D v' m') (hl' : m'.length ≤ 256) => rnext_any now h' hl')
  unfold rw7 at HNx
  clear h hn hr hnd hlt hal hX1 hD
  go_enter Tryz.func33, Tryz.ntmps33
  go_wp2_with fail
  with_reducible refine (HNx.out W1 HAl.out _ m (HH.out.quiet HAl.out) (by rw [← HN.out]; exact hl)).mono ?_
  rintro e w2 ⟨R0, rfl, hR0, hc2⟩
  obtain ⟨E, hE⟩ : ∃ E, E = w2.heap.size := ⟨_, rfl⟩
  have HX0' := Lib.hid (HX0.out.ch hc2 (by simp))
  have HX1' := Lib.hid (HX1.out.ch hc2 (by simp))
  have HC2 := Lib.hid (HAl.out.trans hc2)
  have HR0 := Lib.hid hR0
  have HE0 := Lib.hid (show w.heap.size < E ∧ w.heap.size + 1 < E from ⟨by rw [hE]; exact HX0'.out.lt, by rw [hE]; exact HX1'.out.lt⟩)
  have HEe := Lib.hid hE
  clear hR0 hc2 b0 b1 bf0 bf1 hE
  go_frame
  go_wp2_with fail
  go_loopw [6, 7] (fun ov rv wr => ∃ (pre : List Tm) (vk : Value) (R : Int), rv = .int .i64 R ∧ NextIs (delL m (pre.map (·.id))) R ∧ pre ++ DL (delL m (pre.map (·.id))) = DL m ∧ (∀ t ∈ pre, t.sp.due ≤ x) ∧ (Box2 wr w.heap.size (.int .u64 now) vk ∧ Box2 wr (w.heap.size + 1) (.int .u64 0) (.slice none 0 0)) ∧ RT wr D vk (delL m (pre.map (·.id))) ∧
    (vk = .slice a n c ∨ ∀ g, vk.ownBlock = some g → E ≤ g) ∧ wr.ownsRow E 3 1 ov pre.length (pre.map fun t => iv t.id) ∧ Ch [] w wr ∧ E ≤ wr.heap.size) (fun ov _ _ => n - lenV ov)
  case atStart => exact ⟨[], _, R0, rfl, HR0.out, rfl, by simp, ⟨HX0'.out, HX1'.out⟩, HH.out.quiet HC2.out, .inl rfl, World.ownsRow_nil _ _ _ _, HC2.out, Nat.le_of_eq HEe.out⟩
  case round =>
    obtain ⟨pre, vk, R, rfl, hnx, hdl, hpre, ⟨hb0, hb1⟩, hrow, hlies, ho, hc, hEs⟩ := hrel
    obtain ⟨mk, hmk⟩ : ∃ mk, mk = delL m (pre.map (·.id)) := ⟨_, rfl⟩
    rw [← hmk] at hnx hdl hrow
    obtain ⟨oa, oc, rfl⟩ := own_form ho
    have HMk := Lib.hid hmk
    have HDl' := Lib.hid hdl
    have HPre := Lib.hid hpre
    have HB0 := Lib.hid hb0
    have HB1 := Lib.hid hb1
    have HRow := Lib.hid hrow
    have HLies := Lib.hid hlies
    have HO := Lib.hid ho
    have HC := Lib.hid hc
    have hkl : mk.length ≤ n := by rw [hmk, HN.out, delL_eq]; exact List.length_filter_le _ _
    have hpl : pre.length + mk.length = n := by have h1 := congrArg List.length hdl; rw [List.length_append, DL_length, DL_length] at h1; rw [HN.out]; exact h1
    obtain ⟨b0, b1, bf0, bf1⟩ := hb0
    clear hdl hpre hb1 hlies ho hc hmk
    rcases next_out hnx with ⟨hnil, rfl⟩ | ⟨j, y, rfl, hjl, hjy, hbest⟩
    · have HFe := Lib.hid (show later m x = mk ∧ outs m x = pre.map (·.id) from by
        have e1 : pre = DL (upto m x) := upto_all (by rw [← HDl'.out, hnil, DL_nil, List.append_nil]) HPre.out
        refine ⟨?_, by unfold outs; rw [← e1]⟩
        rw [HMk.out, e1, delL_out HNd.out])
      obtain ⟨ka, kc, rfl⟩ := own_form hrow
      clear hnil hnx hrow
      generalize mk.length = q at *
      obtain ⟨e0, e1, ef0, ef1⟩ := HB1.out
      go_wp2_with fail
      have hb5 := HB1.out.set (.int .u64 x) (.slice ka q kc)
      have hc5 : Ch [w.heap.size + 1] wr ((wr.setCell ⟨w.heap.size + 1, 0, none⟩ (.int .u64 x)).setCell ⟨w.heap.size + 1, 1, none⟩ (.slice ka q kc)) := ((Ch.refl [w.heap.size + 1] wr).setCell (p := ⟨w.heap.size + 1, 0, none⟩) (by simp) _).setCell (p := ⟨w.heap.size + 1, 1, none⟩) (by simp) _
      have HC5 := Lib.hid (HC.out.fresh hc5 (fun k hk => by simp at hk; omega))
      have HR5 := Lib.hid (show RT _ D (.slice ka q kc) (later m x) from by
        rw [HFe.out.1]
        refine RT.chP HRow.out (.of hc5 (S := fun k => k = w.heap.size + 1) (fun k hk => by simpa using hk)) (fun g hg e => ?_)
        rcases HLies.out with h1 | h1
        · rw [h1] at hg
          have := (World.ownsRow.lt HH.out g hg).2
          omega
        · have := h1 g hg
          have := HE0.out
          omega)
      have HO5 := Lib.hid (own_chP HO.out (.of hc5 (S := fun k => k = w.heap.size + 1) (fun k hk => by simpa using hk)) (fun g hg e => by have := (HO.out.lt g hg).1; have := HE0.out; omega))
      obtain ⟨p0, p1, _, _⟩ := hb5
      clear hc5 b0 b1 bf0 bf1 e0 e1 ef0 ef1
      refine bodyPost_ret (v := .tuple #[.agg #[.int .u64 x, .slice ka q kc], .slice oa pre.length oc]) ?_ rfl ?_
      · simp [results, Tryz.f33, go_sem, p0, p1]
      · refine ⟨_, _, rfl, HR5.out, ?_, ?_, HC5.out⟩
        · rcases HLies.out with h1 | h1
          · exact .inl h1
          · exact .inr (fun g hg => by have := h1 g hg; have := HE0.out; omega)
        · rw [HFe.out.2, List.length_map, List.map_map]
          exact own_mono HO5.out (by have := HE0.out; omega)
    · obtain ⟨A, B, hAB, hA, hlessy⟩ := split_id (by rw [HMk.out]; exact delL_nd HNd.out _) (List.mem_of_getElem? hjy)
      have HBh := Lib.hid (best_head (by rw [HMk.out]; exact delL_rise HRi.out _) (by rw [HMk.out]; exact delL_nd HNd.out _) hbest)
      obtain ⟨g, cp, rfl, hDg, hgl, hlc, hcm, c0, c1, c2, c3, c4⟩ := hrow.cells hjy
      have hj0 : (0 : Int) ≤ (j : Int) := by omega
      have hj1 : (j : Int) < (mk.length : Int) := by omega
      obtain ⟨q, hq⟩ : ∃ q, q = mk.length := ⟨_, rfl⟩
      rw [← hq] at b1 hj1 hkl hpl HB0 HLies HRow
      have HAB := Lib.hid hAB
      have HLy := Lib.hid hlessy
      have HAn := Lib.hid hA
      have HBest := Lib.hid hbest
      have HJy := Lib.hid hjy
      have HQ := Lib.hid hq
      have c4' : wr.cell? ⟨g, j * 5 + 1 + 3, none⟩ = some (.int .u64 y.sp.due) := c4
      clear hnx hrow hlc hcm c1 c2 c3 hAB hlessy hA hbest hjy hq hjl
      by_cases hdue : y.sp.due ≤ x
      · have hd1 : decide (y.sp.due ≤ x) = true := decide_eq_true hdue
        have HDue := Lib.hid hdue
        have hpl1 : pre.length < n := by omega
        have e0 := HE0.out
        obtain ⟨dy, hdy⟩ : ∃ dy, dy = y.sp.due := ⟨_, rfl⟩
        rw [← hdy] at c4 c4' hd1
        obtain ⟨pl, hpl'⟩ : ∃ pl, pl = pre.length := ⟨_, rfl⟩
        rw [← hpl'] at HO hpl hpl1 ⊢
        have HPl := Lib.hid hpl'
        clear hdue hdy hpl'
        go_wp2_with (at_builtin; go_must (refine wpList_append_own_at _ rfl _ _ 24 rfl E 3 i0 (.int .i64 0) 1 8 Tryz.underlying24 hI hz0 hz1 hz2 rfl (by decide) (.slice oa pl oc) pl (pre.map fun t => iv t.id) rfl (HO.out.alloc _) ⟨wr.heap.size, 0, none⟩ 1 1 [.int .i64 y.id] rfl rfl (Go.cell_one_new _ _ _) (by simp [Value.oneCell']) (by unfold maxLen; omega) (by omega) (by simp; omega) ?_); intro v5 w5 hown5 hg5 hnil5 hat5)
        obtain ⟨og, ocp, rfl⟩ := ownsRow_succ hown5
        have hcP : ChP (fun k => E ≤ k) wr w5 := ((ChP.refl (fun k => E ≤ k) wr).alloc (.cells #[.int .i64 y.id] 3)).trans (.grown hg5 (fun r e => (HO.out.lt r e).1))
        have hog : E ≤ og := (hown5.lt og rfl).1
        have hb5 : Box2 w5 w.heap.size (.int .u64 now) (.slice (some ⟨g, 0, none⟩) q cp) := ⟨(hcP.cell (p := ⟨w.heap.size, 0, none⟩) HB0.out.lt (by show ¬ E ≤ w.heap.size; omega)).trans HB0.out.c0, (hcP.cell (p := ⟨w.heap.size, 1, none⟩) HB0.out.lt (by show ¬ E ≤ w.heap.size; omega)).trans HB0.out.c1, (hcP.frozen (p := ⟨w.heap.size, 0, none⟩) HB0.out.lt (by show ¬ E ≤ w.heap.size; omega)).trans HB0.out.f0, (hcP.frozen (p := ⟨w.heap.size, 1, none⟩) HB0.out.lt (by show ¬ E ≤ w.heap.size; omega)).trans HB0.out.f1⟩
        have hb6 : Box2 w5 (w.heap.size + 1) (.int .u64 0) (.slice none 0 0) := ⟨(hcP.cell (p := ⟨w.heap.size + 1, 0, none⟩) HB1.out.lt (by show ¬ E ≤ w.heap.size + 1; omega)).trans HB1.out.c0, (hcP.cell (p := ⟨w.heap.size + 1, 1, none⟩) HB1.out.lt (by show ¬ E ≤ w.heap.size + 1; omega)).trans HB1.out.c1, (hcP.frozen (p := ⟨w.heap.size + 1, 0, none⟩) HB1.out.lt (by show ¬ E ≤ w.heap.size + 1; omega)).trans HB1.out.f0, (hcP.frozen (p := ⟨w.heap.size + 1, 1, none⟩) HB1.out.lt (by show ¬ E ≤ w.heap.size + 1; omega)).trans HB1.out.f1⟩
        have hgne : some g ≠ (Value.slice oa pl oc).ownBlock := by
          rcases own_apart HO.out HRow.out (by decide) with h1 | h1
          · rw [h1]; simp
          · exact fun e => h1 e.symm
        have hrow5 : RT w5 D (.slice (some ⟨g, 0, none⟩) q cp) mk := RT.chP (RT.quiet HRow.out ((Ch.refl [] wr).alloc (.cells #[.int .i64 y.id] 3))) (.grown hg5 (S := fun k => (Value.slice oa pl oc).ownBlock = some k) (fun r e => e)) (fun g' hg' e => by cases hg'; exact hgne e.symm)
        have hc5 : Ch [] w w5 := ⟨hcP.os.trans HC.out.os, hcP.tape.trans HC.out.tape, hcP.output.trans HC.out.output, Nat.le_trans HC.out.size hcP.size, fun k hk hn => (hcP.block k (Nat.lt_of_lt_of_le hk HC.out.size) (by omega)).trans (HC.out.block k hk hn)⟩
        have c5 : w5.cell? ⟨g, j * 5, none⟩ = some (.int .i64 y.id) := by
          obtain ⟨g', cp', e, _, _, _, _, z0, _⟩ := hrow5.cells HJy.out
          obtain ⟨rfl, rfl⟩ : g = g' ∧ cp = cp' := by simpa [HQ.out] using e
          exact z0
        have hDel := rdel_in (w := w5.drew) (D := D) (v := .slice (some ⟨g, 0, none⟩) q cp) (A := A) (B := B) (x := y) (by rw [← HAB.out]; exact hrow5.quiet ((Ch.refl [] w5).drew)) (Nat.le_trans HDl.out hc5.size) (by rw [← HAB.out, ← HQ.out]; omega) HAn.out now
        unfold rw7 at hDel
        obtain ⟨M2, hM2⟩ : ∃ M2, M2 = (A ++ B).length := ⟨_, rfl⟩
        have HM2 := Lib.hid hM2
        clear hM2
        have HDel := Lib.hid hDel
        have HO5 := Lib.hid hown5
        have HB5 := Lib.hid hb5
        have HB6 := Lib.hid hb6
        have HC5 := Lib.hid hc5
        have HOg := Lib.hid hog
        have hsz5 := hcP.size
        obtain ⟨b0', b1', bf0', bf1'⟩ := hb5
        clear b0 b1 bf0 bf1 c0 c4 c4' hown5 hg5 hnil5 hat5 hcP hb6 hgne hrow5 hc5 hDel hog
        go_wp2_with fail
        go_region_with (go_at_call 29; refine HDel.out.mono ?_; rintro e w6 ⟨v6, rfl, hr6, hc6⟩; have hv6 := own_form hr6; rw [← HM2.out] at hv6; obtain ⟨a6, c6, rfl⟩ := hv6; obtain ⟨y0, y1, y2, y3⟩ := (show Box2 w5.drew w.heap.size (.int .u64 now) (.slice (some ⟨g, 0, none⟩) q cp) from HB5.out.drewN 1).ch hc6 (by simp); have HR6 := Lib.hid hr6; have HC6 := Lib.hid hc6; clear hr6 hc6)
        all_goals
          have hb7 := ((show Box2 w5.drew w.heap.size (.int .u64 now) (.slice (some ⟨g, 0, none⟩) q cp) from HB5.out.drewN 1).ch HC6.out (by simp)).set (.int .u64 now) (.slice a6 M2 c6)
          have hch7 : Ch [w.heap.size] w6 ((w6.setCell ⟨w.heap.size, 0, none⟩ (.int .u64 now)).setCell ⟨w.heap.size, 1, none⟩ (.slice a6 M2 c6)) := ((Ch.refl [w.heap.size] w6).setCell (p := ⟨w.heap.size, 0, none⟩) (by simp) _).setCell (p := ⟨w.heap.size, 1, none⟩) (by simp) _
          have hb8 := ((show Box2 w5.drew (w.heap.size + 1) (.int .u64 0) (.slice none 0 0) from HB6.out.drewN 1).ch HC6.out (by simp)).ch hch7 (by simp)
          have hs6 : w5.heap.size ≤ w6.heap.size := HC6.out.size
          have hr7 : RT ((w6.setCell ⟨w.heap.size, 0, none⟩ (.int .u64 now)).setCell ⟨w.heap.size, 1, none⟩ (.slice a6 M2 c6)) w5.heap.size (.slice a6 M2 c6) (A ++ B) := RT.chP (show RT w6 w5.heap.size (.slice a6 M2 c6) (A ++ B) from HR6.out) (.of hch7 (S := fun k => k = w.heap.size) (fun k hk => by simpa using hk)) (fun g' hg' e => by have h1 := (World.ownsRow.lt HR6.out g' hg').1; have h2 : w5.heap.size ≤ g' := h1; have := HB5.out.lt; omega)
          have ho7 := own_chP (own_ch (own_ch HO5.out ((Ch.refl [] w5).drew) (by simp)) HC6.out (by simp)) (.of hch7 (S := fun k => k = w.heap.size) (fun k hk => by simpa using hk)) (fun g' hg' e => by have := (HO5.out.lt g' hg').1; omega)
          have hc7 : Ch [] w ((w6.setCell ⟨w.heap.size, 0, none⟩ (.int .u64 now)).setCell ⟨w.heap.size, 1, none⟩ (.slice a6 M2 c6)) := ((HC5.out.drew).trans HC6.out).fresh hch7 (fun k hk => by simp at hk; omega)
          have HB7 := Lib.hid hb7
          have HB8 := Lib.hid hb8
          have HR7 := Lib.hid hr7
          have HO7 := Lib.hid ho7
          have HC7 := Lib.hid hc7
          have hsz7 : w5.heap.size ≤ ((w6.setCell ⟨w.heap.size, 0, none⟩ (.int .u64 now)).setCell ⟨w.heap.size, 1, none⟩ (.slice a6 M2 c6)).heap.size := Nat.le_trans hs6 hch7.size
          obtain ⟨p0, p1, p2, p3⟩ := hb7
          clear hch7 hb8 hr7 ho7 hc7 y0 y1 y2 y3 b0' b1' bf0' bf1' c5
          go_wp2_with fail
          have hNx := rnext_any now (HR7.out.mono (D' := D) (Nat.le_trans HDl.out HC5.out.size)) (by rw [← HLy.out]; exact Nat.le_trans (List.length_filter_le _ _) (by rw [← HQ.out]; omega))
          unfold rw7 at hNx
          with_reducible refine hNx.mono ?_
          rintro e w8 ⟨R8, rfl, hR8, hc8⟩
          have HX8 := Lib.hid hR8
          have HC8 := Lib.hid hc8
          have HD8 := Lib.hid (show delL m ((pre ++ [y]).map (·.id)) = A ++ B from by rw [← delL_snoc', ← HMk.out, HLy.out])
          clear hNx hR8 hc8
          go_frame
          go_wp2_with fail
          refine ⟨⟨pre ++ [y], .slice a6 M2 c6, R8, rfl, by rw [HD8.out]; exact HX8.out, by rw [HD8.out, ← HLy.out, List.append_assoc]; show pre ++ (y :: DL (less mk y.id)) = DL m; rw [← HBh.out]; exact HDl'.out, fun t ht => ?_, ⟨HB7.out.ch HC8.out (by simp), HB8.out.ch HC8.out (by simp)⟩, by rw [HD8.out]; exact (HR7.out.mono (Nat.le_trans HDl.out HC5.out.size)).quiet HC8.out, .inr (fun g' hg' => ?_), ?_, HC7.out.trans HC8.out, Nat.le_trans (Nat.le_trans hEs (Nat.le_trans hsz5 hsz7)) HC8.out.size⟩, ?_⟩
          · rcases List.mem_append.1 ht with ht | ht
            · exact HPre.out t ht
            · obtain rfl : t = y := by simpa using ht
              exact HDue.out
          · have h1 : w5.heap.size ≤ g' := (World.ownsRow.lt HR7.out g' hg').1
            exact Nat.le_trans hEs (Nat.le_trans hsz5 h1)
          · rw [List.length_append, List.map_append, ← HPl.out]
            exact own_ch HO7.out HC8.out (by simp)
          · simp [lenV]; omega
      · have hd1 : decide (y.sp.due ≤ x) = false := decide_eq_false hdue
        have HFe := Lib.hid (show later m x = mk ∧ outs m x = pre.map (·.id) from by
          have e1 : pre = DL (upto m x) := by
            have h1 : DL m = pre ++ y :: DL (less mk y.id) := by rw [← HDl'.out, HBh.out]
            exact DL_cut HRi.out h1 x HPre.out (DL_rest HRi.out h1 (by omega))
          refine ⟨?_, by unfold outs; rw [← e1]⟩
          rw [HMk.out, e1, delL_out HNd.out])
        generalize y.sp.due = dy at c4 c4' hd1
        clear hdue c0
        obtain ⟨e0, e1, ef0, ef1⟩ := HB1.out
        go_wp2_with fail
        have hb5 := HB1.out.set (.int .u64 x) (.slice (some ⟨g, 0, none⟩) q cp)
        have hc5 : Ch [w.heap.size + 1] wr ((wr.setCell ⟨w.heap.size + 1, 0, none⟩ (.int .u64 x)).setCell ⟨w.heap.size + 1, 1, none⟩ (.slice (some ⟨g, 0, none⟩) q cp)) := ((Ch.refl [w.heap.size + 1] wr).setCell (p := ⟨w.heap.size + 1, 0, none⟩) (by simp) _).setCell (p := ⟨w.heap.size + 1, 1, none⟩) (by simp) _
        have HC5 := Lib.hid (HC.out.fresh hc5 (fun k hk => by simp at hk; omega))
        have HR5 := Lib.hid (show RT _ D (.slice (some ⟨g, 0, none⟩) q cp) (later m x) from by
          rw [HFe.out.1]
          refine RT.chP HRow.out (.of hc5 (S := fun k => k = w.heap.size + 1) (fun k hk => by simpa using hk)) (fun g hg e => ?_)
          rcases HLies.out with h1 | h1
          · rw [h1] at hg
            have := (World.ownsRow.lt HH.out g hg).2
            omega
          · have := h1 g hg
            have := HE0.out
            omega)
        have HO5 := Lib.hid (own_chP HO.out (.of hc5 (S := fun k => k = w.heap.size + 1) (fun k hk => by simpa using hk)) (fun g hg e => by have := (HO.out.lt g hg).1; have := HE0.out; omega))
        obtain ⟨p0, p1, _, _⟩ := hb5
        clear hc5 b0 b1 bf0 bf1 e0 e1 ef0 ef1
        refine bodyPost_ret (v := .tuple #[.agg #[.int .u64 x, .slice (some ⟨g, 0, none⟩) q cp], .slice oa pre.length oc]) ?_ rfl ?_
        · simp [results, Tryz.f33, go_sem, p0, p1]
        · refine ⟨_, _, rfl, HR5.out, ?_, ?_, HC5.out⟩
          · rcases HLies.out with h1 | h1
            · exact .inl h1
            · exact .inr (fun g hg => by have := h1 g hg; have := HE0.out; omega)
          · rw [HFe.out.2, List.length_map, List.map_map]
            exact own_mono HO5.out (by have := HE0.out; omega)
end Go.Proofs.YtnndofeomakpiaaGreatDoor
