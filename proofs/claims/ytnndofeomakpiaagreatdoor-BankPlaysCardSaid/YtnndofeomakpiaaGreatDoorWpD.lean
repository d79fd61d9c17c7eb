/-
  The document's answer for the wheel: Del.
-/
import Derived.Test.YtnndofeomakpiaaGreatDoorWpC
namespace Go.Proofs.YtnndofeomakpiaaGreatDoor
open Go.RowKit

attribute [local go_sem] Oper.semAt_some

theorem ixOf_in {A B : List Tm} {x : Tm} (hA : ∀ t ∈ A, t.id ≠ x.id) : ixOf (A ++ x :: B) x.id = (A.length : Int) := by
  unfold ixOf
  have : (A ++ x :: B).findIdx? (fun t => decide (t.id = x.id)) = some A.length := by
    rw [List.findIdx?_eq_some_iff_getElem]
    refine ⟨by simp, by simp, fun j hj => ?_⟩
    rw [List.getElem_append_left hj]
    simpa using hA _ (List.getElem_mem hj)
  rw [this]
theorem split_id {m : List Tm} (hnd : (m.map (·.id)).Nodup) {x : Tm} (hx : x ∈ m) : ∃ A B, m = A ++ x :: B ∧ (∀ t ∈ A, t.id ≠ x.id) ∧ less m x.id = A ++ B := by
  obtain ⟨A, B, rfl⟩ := List.append_of_mem hx
  rw [List.map_append, List.map_cons, List.nodup_append] at hnd
  obtain ⟨h1, h2, h3⟩ := hnd
  rw [List.nodup_cons] at h2
  have hA : ∀ t ∈ A, t.id ≠ x.id := fun t ht e => h3 t.id (List.mem_map.2 ⟨t, ht, rfl⟩) x.id (by simp) e
  have hB : ∀ t ∈ B, t.id ≠ x.id := fun t ht e => h2.1 (List.mem_map.2 ⟨t, ht, e⟩)
  refine ⟨A, B, rfl, hA, ?_⟩
  unfold less
  rw [List.filter_append, List.filter_cons, if_neg (by simp), List.filter_eq_self.2 (fun t ht => by simpa using hA t ht), List.filter_eq_self.2 (fun t ht => by simpa using hB t ht)]
section
variable {w : World} {D : Nat} {v : Value} {m A B : List Tm} {x : Tm} {now id : Int}
set_option maxRecDepth 100000 in
set_option maxHeartbeats 1000000 in
theorem rdel_not (h : RT w D v m) (hl : m.length ≤ 256) (hno : ∀ t ∈ m, t.id ≠ id) (now : Int) :
    Calls Tryz.prog 29 #[rw7 now v, .int .i64 id] w fun e w' => e = .returned (.tuple #[rw7 now v, .bool false]) ∧ Ch [] w w' := by
  obtain ⟨a, c, rfl⟩ := own_form h
  have hix := ixOf_neg hno
  have HF := Lib.hid (fun (W : World) (hc : Ch [] w W) => rfind_any now id (h.quiet hc) hl)
  rw [hix] at HF
  unfold rw7 at *
  generalize m.length = n at *
  clear h hno hl hix
  obtain ⟨q0, q1⟩ := two_new w (.int .u64 now) (.slice a n c) 58
  have hX1 := Box2.new (w.alloc (.cells #[.int .u64 now, .slice a n c] 58)) (.int .u64 0) (.slice none 0 0) 58
  have r0 := Mk.cell_allocd (.cells #[.int .u64 0, .slice none 0 0] 58) q0
  have r1 := Mk.cell_allocd (.cells #[.int .u64 0, .slice none 0 0] 58) q1
  simp only [World.size_alloc] at hX1
  have hal : Ch [] w ((w.alloc (.cells #[.int .u64 now, .slice a n c] 58)).alloc (.cells #[.int .u64 0, .slice none 0 0] 58)) := ((Ch.refl [] w).alloc _).alloc _
  have HX1 := Lib.hid hX1
  have HAl := Lib.hid hal
  clear q0 q1 hX1 hal
  go_enter Tryz.func29, Tryz.ntmps29
  go_wp2_with fail
  with_reducible refine (HF.out _ HAl.out).mono ?_
  rintro e w4 ⟨rfl, hc4⟩
  have hb4 := HX1.out.ch hc4 (by simp)
  have r0' := (hc4.cell (cell_lt r0) (by simp)).trans r0
  have r1' := (hc4.cell (cell_lt r1) (by simp)).trans r1
  have HB4 := Lib.hid hb4
  have HC4 := Lib.hid (HAl.out.trans hc4)
  obtain ⟨b0, b1, bf0, bf1⟩ := hb4
  clear hc4 r0 r1 HF
  go_frame
  go_wp2_with fail
  have hb5 := HB4.out.set (.int .u64 now) (.slice a n c)
  have hc5 : Ch [w.heap.size + 1] w4 ((w4.setCell ⟨w.heap.size + 1, 0, none⟩ (.int .u64 now)).setCell ⟨w.heap.size + 1, 1, none⟩ (.slice a n c)) := ((Ch.refl [w.heap.size + 1] w4).setCell (p := ⟨w.heap.size + 1, 0, none⟩) (by simp) _).setCell (p := ⟨w.heap.size + 1, 1, none⟩) (by simp) _
  have HC5 := Lib.hid (HC4.out.fresh hc5 (fun k hk => by simp at hk; omega))
  obtain ⟨p0, p1, _, _⟩ := hb5
  clear hc5 b0 b1 bf0 bf1
  refine bodyPost_ret (v := .tuple #[.agg #[.int .u64 now, .slice a n c], .bool false]) ?_ rfl ?_
  · simp [results, Tryz.f29, go_sem, p0, p1]
  · exact ⟨rfl, HC5.out⟩
set_option maxRecDepth 100000 in
set_option maxHeartbeats 4000000 in
theorem rdel_in (h : RT w D v (A ++ x :: B)) (_hD : D ≤ w.heap.size) (hl : (A ++ x :: B).length ≤ 256) (hA : ∀ t ∈ A, t.id ≠ x.id) (now : Int) :
    Calls Tryz.prog 29 #[rw7 now v, .int .i64 x.id] w fun e w' => ∃ v', e = .returned (.tuple #[rw7 now v', .bool true]) ∧ RT w' w.heap.size v' (A ++ B) ∧ Ch [] w w' := by
  obtain ⟨i0, hI, hz0, hz1, hz2⟩ := info_parts infoT
  obtain ⟨g, cap, rfl, hDg, hgl, hlc, hcm, _⟩ := h.cells (k := A.length) (x := x) (by simp)
  have HF := Lib.hid (fun (W : World) (hc : Ch [] w W) => rfind_any now x.id (h.quiet hc) hl)
  rw [ixOf_in hA] at HF
  obtain ⟨i, hi⟩ : ∃ i, i = A.length := ⟨_, rfl⟩
  obtain ⟨q, hq⟩ : ∃ q, q = B.length := ⟨_, rfl⟩
  obtain ⟨n, hn⟩ : ∃ n, n = (A ++ x :: B).length := ⟨_, rfl⟩
  have hnq : n = i + 1 + q := by rw [hn, hi, hq]; simp; omega
  rw [← hn] at HF hl hlc ⊢
  rw [← hi] at HF
  have HH := Lib.hid (show w.ownsRow D 55 5 (.slice (some ⟨g, 0, none⟩) n cap) n (rt (A ++ x :: B)) from by unfold RT at h; rw [← hn] at h; exact h)
  have HNq := Lib.hid hnq
  have HI := Lib.hid hi
  have HQ := Lib.hid hq
  have HOneA := Lib.hid (rt_one A)
  have HOneB := Lib.hid (rt_one B)
  have HLenA := Lib.hid (show (rt A).length = i * 5 by rw [rt_len, hi])
  have HLenB := Lib.hid (show (rt B).length = q * 5 by rw [rt_len, hq])
  -- the row's cells, wherever it stands
  have HCa := Lib.hid (fun (W : World) (hW : W.ownsRow D 55 5 (.slice (some ⟨g, 0, none⟩) n cap) n (rt (A ++ x :: B))) => (show (∀ j u, (rt A)[j]? = some u → W.cell? ((⟨g, 0, none⟩ : Addr).add j) = some u) ∧ (∀ j u, (rt B)[j]? = some u → W.cell? ((⟨g, (i + 1) * 5, none⟩ : Addr).add j) = some u) from by
    refine ⟨fun j u hu => ?_, fun j u hu => ?_⟩
    · have hj := (List.getElem?_eq_some_iff.1 hu).1
      rw [HLenA.out] at hj
      rw [addr_add, Nat.zero_add, World.ownsRow.cellAt hW j (by have := HNq.out; omega), rt_append, List.getElem?_append_left (by rw [HLenA.out]; exact hj)]
      exact hu
    · have hj := (List.getElem?_eq_some_iff.1 hu).1
      rw [HLenB.out] at hj
      have e5 : (rt (A ++ x :: B))[(i + 1) * 5 + j]? = some u := by
        rw [show A ++ x :: B = (A ++ [x]) ++ B by simp, rt_append, List.getElem?_append_right (by rw [rt_len]; simp; rw [← HI.out]; omega), rt_len, List.length_append, ← HI.out]
        rw [show (i + 1) * 5 + j - (i + [x].length) * 5 = j by simp]
        exact hu
      rw [addr_add, World.ownsRow.cellAt hW ((i + 1) * 5 + j) (by have := HNq.out; omega)]
      exact e5))
  have hnq1 : i + 1 + q ≤ n := Nat.le_of_eq hnq.symm
  have hnq2 : n ≤ i + 1 + q := Nat.le_of_eq hnq
  generalize x.id = id at *
  clear h hn hA hi hq hnq
  unfold rw7 at *
  obtain ⟨q0, q1⟩ := two_new w (.int .u64 now) (.slice (some ⟨g, 0, none⟩) n cap) 58
  have hX1 := Box2.new (w.alloc (.cells #[.int .u64 now, .slice (some ⟨g, 0, none⟩) n cap] 58)) (.int .u64 0) (.slice none 0 0) 58
  have r0 := Mk.cell_allocd (.cells #[.int .u64 0, .slice none 0 0] 58) q0
  have r1 := Mk.cell_allocd (.cells #[.int .u64 0, .slice none 0 0] 58) q1
  simp only [World.size_alloc] at hX1
  have hal : Ch [] w ((w.alloc (.cells #[.int .u64 now, .slice (some ⟨g, 0, none⟩) n cap] 58)).alloc (.cells #[.int .u64 0, .slice none 0 0] 58)) := ((Ch.refl [] w).alloc _).alloc _
  have HX1 := Lib.hid hX1
  have HAl := Lib.hid hal
  clear q0 q1 hX1 hal
  go_enter Tryz.func29, Tryz.ntmps29
  go_wp2_with fail
  with_reducible refine (HF.out _ HAl.out).mono ?_
  rintro e w4 ⟨rfl, hc4⟩
  have HB4 := Lib.hid (HX1.out.ch hc4 (by simp))
  have r0' := (hc4.cell (cell_lt r0) (by simp)).trans r0
  have r1' := (hc4.cell (cell_lt r1) (by simp)).trans r1
  have HC4 := Lib.hid (HAl.out.trans hc4)
  have hs4 : w.heap.size < w4.heap.size := cell_lt r0'
  have hs41 : w.heap.size + 1 < w4.heap.size := HB4.out.lt
  have H4 := Lib.hid (own_ch HH.out HC4.out (by simp))
  have hii : (0 : Int) ≤ (i : Int) := by omega
  have hin : (i : Int) ≤ (n : Int) := by omega
  have hic : (i : Int) ≤ (cap : Int) := by omega
  have htn0 : ((i : Int)).toNat = i := rfl
  have hcm2 : cap ≤ 9223372036854775807 := hcm
  clear hc4 r0 r1 HF
  go_frame
  go_wp2_with (at_builtin; go_must (refine wpList_append_own _ rfl _ _ 56 rfl w4.heap.size 55 i0 (.agg #[.int .i64 0, .int .i64 0, .int .i64 0, .int .u64 0, .int .u64 0]) 5 40 Tryz.underlying56 hI hz0 hz1 hz2 rfl (by decide) (.slice (some ⟨w4.heap.size, 0, none⟩) 0 0) 0 [] rfl ?c0 ⟨g, 0, none⟩ i cap (rt A) rfl HLenA.out ?c2 HOneA.out ?c4 ?c5 ?c6 ?_))
  case c0 => exact World.ownsRow_lit w4 #[] 0 (by simp) (Nat.zero_le _) rfl
  case c2 => exact (HCa.out _ (World.ownsRow.alloc H4.out _)).1
  case c4 => unfold maxLen; omega
  case c5 => omega
  case c6 => simp
  intro v1 w7 hown1 hgrow1 hne1
  have hown1' : w7.ownsRow w4.heap.size 55 5 v1 i (rt A) := by simpa using hown1
  have hc7 : Ch [] w4 w7 := ((Ch.refl [] w4).alloc (.cells #[] 55)).kept hgrow1 (fun r e => by simp [Value.ownBlock] at e; omega)
  have HB7 := Lib.hid (HB4.out.ch hc7 (by simp))
  have r0 := (hc7.cell (cell_lt r0') (by simp)).trans r0'
  have r1 := (hc7.cell (cell_lt r1') (by simp)).trans r1'
  have HC7 := Lib.hid hc7
  have HO7 := Lib.hid hown1'
  have hs7 := hc7.size
  have HCb := Lib.hid (HCa.out w7.drew (own_ch (own_ch H4.out hc7 (by simp)) ((Ch.refl [] w7).drew) (by simp))).2
  obtain ⟨M2, hM2⟩ : ∃ M2, M2 = (A ++ B).length := ⟨_, rfl⟩
  have hMe : i + q = M2 := by rw [hM2, List.length_append, ← HI.out, ← HQ.out]
  have HM2 := Lib.hid hM2
  have HMe := Lib.hid hMe
  have HFin := Lib.hid (fun (a2 : Option Addr) (cp2 : Nat) (w8 : World) (hown : w8.ownsRow w4.heap.size 55 5 (.slice a2 M2 cp2) M2 (rt A ++ rt B)) (hg : w7.drew.grownBy w8 v1.ownBlock) => (show Box2 w8 (w.heap.size + 1) (.int .u64 0) (.slice none 0 0) ∧ w8.cell? ⟨w.heap.size, 0, none⟩ = some (.int .u64 now) ∧ ∃ a3 cp3, (((w8.setCell ⟨w.heap.size + 1, 0, none⟩ (.int .u64 now)).setCell ⟨w.heap.size + 1, 1, none⟩ (.slice a2 M2 cp2)).cell? ⟨w.heap.size + 1, 0, none⟩ = some (.int .u64 now) ∧ ((w8.setCell ⟨w.heap.size + 1, 0, none⟩ (.int .u64 now)).setCell ⟨w.heap.size + 1, 1, none⟩ (.slice a2 M2 cp2)).cell? ⟨w.heap.size + 1, 1, none⟩ = some (.slice a3 M2 cp3)) ∧ RT ((w8.setCell ⟨w.heap.size + 1, 0, none⟩ (.int .u64 now)).setCell ⟨w.heap.size + 1, 1, none⟩ (.slice a2 M2 cp2)) w.heap.size (.slice a3 M2 cp3) (A ++ B) ∧ Ch [] w ((w8.setCell ⟨w.heap.size + 1, 0, none⟩ (.int .u64 now)).setCell ⟨w.heap.size + 1, 1, none⟩ (.slice a2 M2 cp2)) from by
    have hc8 : Ch [] w4 w8 := (HC7.out.drew).kept hg (fun r e => (HO7.out.lt r e).1)
    have hb8 := HB4.out.ch hc8 (by simp)
    have hb9 := hb8.set (.int .u64 now) (.slice a2 M2 cp2)
    have hc9 : Ch [w.heap.size + 1] w8 ((w8.setCell ⟨w.heap.size + 1, 0, none⟩ (.int .u64 now)).setCell ⟨w.heap.size + 1, 1, none⟩ (.slice a2 M2 cp2)) := ((Ch.refl [w.heap.size + 1] w8).setCell (p := ⟨w.heap.size + 1, 0, none⟩) (by simp) _).setCell (p := ⟨w.heap.size + 1, 1, none⟩) (by simp) _
    refine ⟨hb8, (hc8.cell (cell_lt r0') (by simp)).trans r0', a2, cp2, ⟨hb9.c0, hb9.c1⟩, ?_, (HC4.out.trans hc8).fresh hc9 (fun k hk => by simp at hk; omega)⟩
    unfold RT
    rw [← HM2.out, rt_append]
    exact own_mono (own_ch hown hc9 (fun k hk => by simp at hk; omega)) (by omega)))
  have HLs := Lib.hid (show w4.heap.size ≤ w7.drew.heap.size from hs7)
  have hn41 : w.heap.size + 1 < w7.heap.size := by omega
  clear hown1 hown1' hgrow1 hne1 hc7 r0' r1' hM2 hMe
  go_upto_region 5 with (fail)
  go_cut [5] from 20 (fun t5 wr => t5 = .bool true ∧ ∃ a2 cp2, (wr.cell? ⟨w.heap.size + 1, 0, none⟩ = some (.int .u64 now) ∧ wr.cell? ⟨w.heap.size + 1, 1, none⟩ = some (.slice a2 M2 cp2)) ∧ RT wr w.heap.size (.slice a2 M2 cp2) (A ++ B) ∧ Ch [] w wr)
  case rest =>
    obtain ⟨rfl, a2, cp2, ⟨p0, p1⟩, hr9, hc9⟩ := hcut
    have HR9 := Lib.hid hr9
    have HC9 := Lib.hid hc9
    clear hr9 hc9 r0 r1
    go_wp2_with fail
    refine bodyPost_ret (v := .tuple #[.agg #[.int .u64 now, .slice a2 M2 cp2], .bool true]) ?_ rfl ?_
    · simp [results, Tryz.f29, go_sem, p0, p1]
    · exact ⟨_, rfl, HR9.out, HC9.out⟩
  case first =>
    have hge : (0 : Int) ≤ (i : Int) + 1 := by omega
    have hle : (i : Int) + 1 ≤ (n : Int) := by omega
    have hlc3 : (i : Int) + 1 ≤ (cap : Int) := by omega
    have hle2 : (n : Int) ≤ (cap : Int) := by omega
    have htn : ((i : Int) + 1).toNat = i + 1 := by omega
    have hsum : IntKind.i64.wrap ((i : Int) + 1) = (i : Int) + 1 := IntWalk.i64_in _ (by omega)
    have hm1 : i + q ≤ maxLen := by unfold maxLen; omega
    have hm2 : (i + q) * 40 ≤ 140737488355328 := by omega
    by_cases hc : cap = i + 1
    · obtain rfl : q = 0 := by omega
      have hni : n = i + 1 := by omega
      have HB0 := Lib.hid (show rt B = [] by have := HQ.out; rw [List.eq_nil_of_length_eq_zero this.symm]; rfl)
      subst hni
      subst hc
      have HUp := Lib.hid (fun (v2 : Value) (w8 : World) (h8 : w8.ownsRow w4.heap.size 55 5 v2 (i + 0) (rt A ++ [])) => (show w8.ownsRow w4.heap.size 55 5 v2 M2 (rt A ++ rt B) from by rw [← HMe.out, HB0.out]; exact h8))
      have HLN := Lib.hid (show ([] : List Value).length = 0 * 5 from rfl)
      have HNW := Lib.hid (show ∀ (j : Nat) (u : Value), ([] : List Value)[j]? = some u → w7.drew.cell? ((⟨g, 0, none⟩ : Addr).add j) = some u from fun j u hu => by simp at hu)
      have HON := Lib.hid (show ∀ u ∈ ([] : List Value), u.oneCell' = true from by simp)
      go_region_law ((refine step_append_own rfl (.tmp 22) (.tmp 27) 56 rfl w4.heap.size 55 i0 (.agg #[.int .i64 0, .int .i64 0, .int .i64 0, .int .u64 0, .int .u64 0]) 5 40 Tryz.underlying56 hI hz0 hz1 hz2 rfl (by decide) v1 i (rt A) (by simp [Act.eval, Act.put]) HO7.out ⟨g, 0, none⟩ 0 0 [] (by simp [Act.eval, Act.put]) HLN.out HNW.out HON.out hm1 hm2 HLs.out ?_); intro v2 w8 hown8 hg8 hnil8; obtain ⟨a2, cp2, rfl⟩ := own_form (HUp.out _ _ hown8); obtain ⟨⟨b0, b1, bf0, bf1⟩, hr8, _⟩ := HFin.out _ _ _ (HUp.out _ _ hown8) hg8; have HO8 := Lib.hid (HUp.out _ _ hown8); have HG8 := Lib.hid hg8; clear hown8 hg8 hnil8)
      all_goals
        go_wp2_with fail
        go_meet
        case rel => exact ⟨rfl, (HFin.out _ _ _ HO8.out HG8.out).2.2⟩
    · have hqn : q = n - (i + 1) := by omega
      have HUp := Lib.hid (fun (v2 : Value) (w8 : World) (h8 : w8.ownsRow w4.heap.size 55 5 v2 (i + (n - (i + 1))) (rt A ++ rt B)) => (show w8.ownsRow w4.heap.size 55 5 v2 M2 (rt A ++ rt B) from by rw [← HMe.out, hqn]; exact h8))
      have HLN := Lib.hid (show (rt B).length = (n - (i + 1)) * 5 from by rw [HLenB.out, hqn])
      have HNW := HCb
      have HON := HOneB
      rw [hqn] at hm1 hm2
      have hcc : (i : Int) + 1 < (cap : Int) := by omega
      have hcn : ¬ (i : Int) + 1 = (cap : Int) := by omega
      have hcn2 : ¬ i + 1 = cap := fun e => hc e.symm
      clear hqn
      go_region_law ((refine step_append_own rfl (.tmp 22) (.tmp 27) 56 rfl w4.heap.size 55 i0 (.agg #[.int .i64 0, .int .i64 0, .int .i64 0, .int .u64 0, .int .u64 0]) 5 40 Tryz.underlying56 hI hz0 hz1 hz2 rfl (by decide) v1 i (rt A) (by simp [Act.eval, Act.put]) HO7.out ⟨g, (i + 1) * 5, none⟩ (n - (i + 1)) (cap - (i + 1)) (rt B) (by simp [Act.eval, Act.put]) HLN.out HNW.out HON.out hm1 hm2 HLs.out ?_); intro v2 w8 hown8 hg8 hnil8; obtain ⟨a2, cp2, rfl⟩ := own_form (HUp.out _ _ hown8); obtain ⟨⟨b0, b1, bf0, bf1⟩, hr8, _⟩ := HFin.out _ _ _ (HUp.out _ _ hown8) hg8; have HO8 := Lib.hid (HUp.out _ _ hown8); have HG8 := Lib.hid hg8; clear hown8 hg8 hnil8)
      all_goals
        go_wp2_with fail
        go_meet
        case rel => exact ⟨rfl, (HFin.out _ _ _ HO8.out HG8.out).2.2⟩
end
end Go.Proofs.YtnndofeomakpiaaGreatDoor
