/-
  VmBytes. (Written by gen/vm19b.py.)
-/
import Derived.Test.YtpbdmlipdfdblaaDoorVmB1
namespace Go.Proofs.YtpbdmlipdfdblaaDoor
open Go.RowKit Go.BigFrame

attribute [local go_sem] Oper.semAt_some

set_option maxRecDepth 100000 in
set_option maxHeartbeats 16000000 in
theorem bytes_law19 {v : Option Addr} {n1 c1 : Nat} {fuel at' : Int} {l1 : List Nat} {w : World} (hl1 : l1.length = n1) (hn1 : n1 ≤ c1) (hb1 : ∀ x ∈ l1, x < 256) (hA1 : BA w v l1) (hT : Tb w) :
    Calls Tryd.prog 5 #[.int .i64 fuel, .int .i64 at', .slice v n1 c1] w fun e w' => e = .returned (.bool true) ∧ Ch [] w w' := by
  obtain ⟨m, hmin⟩ : ∃ m : Nat, (if (64 : Int) < (n1 : Int) then (64 : Int) else (n1 : Int)) = (m : Int) := ⟨min n1 64, by split <;> omega⟩
  have hmm : m = min n1 64 := by split at hmin <;> omega
  have hmin2 : min (n1 : Int) 64 = (m : Int) := by omega
  obtain ⟨l, hlt⟩ : ∃ l, l1.take 64 = l := ⟨_, rfl⟩
  have hl : l.length = m := by rw [← hlt, List.length_take]; omega
  have hb : ∀ x ∈ l, x < 256 := by rw [← hlt]; exact fun x hx => hb1 x (List.mem_of_mem_take hx)
  have hA : BA w v l := by rw [← hlt]; exact hA1.take 64
  have hmc : m ≤ c1 := by omega
  have hneg : decide ((m : Int) < 0) = false := decide_eq_false (by omega)
  obtain ⟨q, hq⟩ : ∃ q : Nat, q = wdN fuel := ⟨_, rfl⟩
  obtain ⟨r, hr⟩ : ∃ r : Nat, r = q % 255 := ⟨_, rfl⟩
  have g1 : IntKind.u64.wrap fuel = (q : Int) := by rw [IntKind.wrap_u64, hq]; unfold wdN; omega
  have g2 : (q : Int).tmod 255 = (r : Int) := by rw [Int.tmod_eq_emod_of_nonneg (by omega)]; omega
  have hr256 : r < 255 := by omega
  have g3 : IntKind.i64.wrap (r : Int) = (r : Int) := by rw [IntKind.wrap_i64]; clear g1 g2 hq hr; omega
  obtain ⟨u, hu⟩ : ∃ u : Nat, u = 2 + r := ⟨_, rfl⟩
  have g4 : IntKind.i64.wrap (2 + (r : Int)) = (u : Int) := by rw [IntKind.wrap_i64]; clear g1 g2 g3 hq hr; omega
  have HU := Lib.hid (show 2 ≤ u ∧ u ≤ 256 by omega)
  obtain ⟨q2, hq2⟩ : ∃ q : Nat, q = wdN at' := ⟨_, rfl⟩
  obtain ⟨k, hk⟩ : ∃ r : Nat, r = q2 % 8 := ⟨_, rfl⟩
  have f1 : IntKind.u64.wrap at' = (q2 : Int) := by rw [IntKind.wrap_u64, hq2]; unfold wdN; omega
  have f2 : (q2 : Int).tmod 8 = (k : Int) := by rw [Int.tmod_eq_emod_of_nonneg (by omega)]; omega
  have hk8 : k < 8 := by omega
  have f3 : IntKind.i64.wrap (k : Int) = (k : Int) := by rw [IntKind.wrap_i64]; clear f1 f2 g1 g2 g3 g4 hq2 hk; omega
  obtain ⟨ii, hii⟩ : ∃ ii, 10 + k = ii := ⟨_, rfl⟩
  have f5 : IntKind.i64.wrap (10 + (k : Int)) = (ii : Int) := by rw [IntKind.wrap_i64]; clear f1 f2 f3 g1 g2 g3 g4 hq2 hk; omega
  have i18 : (ii : Int) < 18 := by omega
  obtain ⟨r8, hr8⟩ : ∃ r, m / 8 = r := ⟨_, rfl⟩
  have p2 : (m : Int).tdiv 8 = (r8 : Int) := by rw [Int.tdiv_eq_ediv_of_nonneg (by omega)]; omega
  have p3 : IntKind.i64.wrap (r8 : Int) = (r8 : Int) := by rw [IntKind.wrap_i64]; clear f1 f2 f3 f5 g1 g2 g3 g4 hq2 hk p2; omega
  have HII := Lib.hid (And.intro hii (show ii < 18 by omega))
  have HK8 := Lib.hid hk8
  have HT := Lib.hid hT
  have HL := Lib.hid hl
  have HB := Lib.hid hb
  have HA := Lib.hid hA
  have HM := Lib.hid (show m ≤ 64 by omega)
  have HMc := Lib.hid hmc
  have HFit := Lib.hid (show fit (k : Int) from ⟨by omega, by omega⟩)
  have HKn := Lib.hid (fun W (h : Ch [] w W) => known19 (HT.out.ch h))
  obtain ⟨G, hG⟩ : ∃ G, wrT F0 (k : Int) l = G := ⟨_, rfl⟩
  obtain ⟨E, hE⟩ : ∃ E, wrE (k : Int) m = E := ⟨_, rfl⟩
  have HGW := Lib.hid (show FW G by rw [← hG]; exact wrT_fw FW0 _ hb)
  have HRw := Lib.hid (fun W (h : Ch [] w W) => show Calls Tryd.prog 23 #[.agg (fl F0).toArray, .int .i64 (k : Int), .slice v m c1] W fun e w' => e = .returned (.tuple #[.agg (fl G).toArray, .int .i64 E]) ∧ Ch [] W w' from by
    have := rwrite_any (w := W) (F := F0) (a := (k : Int)) (cap := c1) (by have := HM.out; omega) HL.out HB.out (HA.out.ch h (by simp))
    rw [hG, hE] at this
    exact this)
  have HWr := Lib.hid (fun W b c (h : RB W b c (kL k) (newS u [])) (hc : Ch [] w W) (hbl : w.heap.size ≤ b) => show Calls Tryd.prog 24 #[.pointer (some ⟨b, 0, none⟩), .int .i64 (k : Int), .slice v m c1] W fun e w' => e = .returned (.int .i64 E) ∧ RB w' b c (kL k) { newS u [] with F := G } ∧ Ch [b] W w' from by
    have := vwrite_any (cap := c1) h HFit.out (by have := HM.out; omega) HMc.out HL.out HB.out (HA.out.ch hc (by simp)) (fun y e hne => by
      rcases HA.out with h | ⟨B, off, e', hcc⟩
      · exact absurd h hne
      · rw [e'] at e; cases e
        have h0 : 0 < l.length := List.length_pos_iff.2 hne
        have := cell_lt (hcc 0 h0)
        simp only at this ⊢
        omega)
    rw [show (newS u []).F = F0 from rfl, hG, hE] at this
    exact this)
  have hRr := fun W => rread_any (w := W) (n := (r8 : Int)) HGW.out HFit.out
  have hRf := fun W b c s (h : RB W b c (kL k) s) => vread_any h HFit.out (n := (r8 : Int))
  have hln := rdE_len G (k : Int) (r8 : Int)
  obtain ⟨Bs, hBs⟩ : ∃ B, (rdE G (k : Int) (r8 : Int)).1 = B := ⟨_, rfl⟩
  obtain ⟨E2, hE2⟩ : ∃ E, (rdE G (k : Int) (r8 : Int)).2 = E := ⟨_, rfl⟩
  obtain ⟨qq, hqq⟩ : ∃ q, Bs.length = q := ⟨_, rfl⟩
  have HRr := Lib.hid (fun W => show Calls Tryd.prog 25 #[.agg (fl G).toArray, .int .i64 (k : Int), .int .i64 (r8 : Int)] W fun e w' => ∃ va cp, e = .returned (.tuple #[.slice va qq cp, .int .i64 E2]) ∧ BA w' va Bs ∧ Ch [] W w' from by
    refine (hRr W).mono ?_
    rintro e w' ⟨x, rfl, hx, hc⟩
    rw [hBs] at hx
    obtain ⟨xa, xc, rfl, hxa, -⟩ := hx.form
    exact ⟨xa, xc, by rw [hqq, hE2], hxa, hc⟩)
  have HRf := Lib.hid (fun W b c (h : RB W b c (kL k) { newS u [] with F := G }) => show Calls Tryd.prog 26 #[.pointer (some ⟨b, 0, none⟩), .int .i64 (k : Int), .int .i64 (r8 : Int)] W fun e w' => ∃ va cp, e = .returned (.tuple #[.slice va qq cp, .int .i64 E2]) ∧ BA w' va Bs ∧ Ch [] W w' from by
    refine (hRf W b c _ h).mono ?_
    rintro e w' ⟨xa, xc, rfl, hxa, hc⟩
    rw [show ({ newS u [] with F := G } : RNS).F = G from rfl, hBs] at hxa
    exact ⟨xa, xc, by rw [show ({ newS u [] with F := G } : RNS).F = G from rfl, hBs, hqq, hE2], hxa, hc⟩)
  have HQ := Lib.hid (And.intro hqq (show qq ≤ 64 by rw [← hqq, ← hBs]; exact hln))
  obtain ⟨vv0, hvv⟩ : ∃ z : Int, (((G (10 + k)).n : Nat) : Int) = z := ⟨_, rfl⟩
  have HRun := runL k u hk8 (by omega) G
  have HRun := Lib.hid (show _ ∧ _ ∧ (((goS (kL k) 2 { newS u [] with F := G }).v : Nat) : Int) = vv0 from ⟨HRun.1, HRun.2.1, by rw [HRun.2.2]; exact hvv⟩)
  have HGs := Lib.hid (show GS (kL k) { newS u [] with F := G } from by
    have h := gs0 (rpL k hk8) (u := u) (by omega)
    exact ⟨HGW.out, h.p0, h.p1, h.k, h.u⟩)
  have HGo := Lib.hid (fun W b c (h : RB W b c (kL k) { newS u [] with F := G }) => go_at h (rpL k HK8.out) HGs.out (n := 2) (by decide) (N := 2) rfl HRun.out.1)
  have HVV := Lib.hid hvv
  have HNew := Lib.hid (show Calls Tryd.prog 8 #[.agg #[.slice (some ⟨w.heap.size, 0, none⟩) 2 2, .bool false], .int .i64 (u : Int), .slice none 0 0] (w.alloc (.cells #[.int .i64 64, .int .i64 0, .int .i64 0, .int .i64 (k : Int), .int .i64 0, .int .i64 73, .int .i64 0, .int .i64 0, .int .i64 0, .int .i64 0] 59)) fun r w' => ∃ b c, r = .returned (.tuple #[.pointer (some ⟨b, 0, none⟩), .int .i64 0]) ∧ RB w' b c (kL k) (newS u []) ∧ Ch [] w w' ∧ w.heap.size ≤ b ∧ w.heap.size ≤ c from vnew_lit (L := kL k) (u := u) rfl rfl (fitL k hk8) (resL k hk8) hT (by omega))
  clear hmm hlt hl hb hA hmc hq hr hr256 hu hq2 hk hk8 hii hr8 hG hE hRr hRf hln hBs hE2 hqq hvv hl1 hn1 hb1 hA1 hT
  go_enter Tryd.func5, Tryd.ntmps5
  go_wp2_with fail
  with_reducible refine HNew.out.mono ?_
  rintro e w1 ⟨b, c, rfl, hB, hc1, hbl, -⟩
  obtain ⟨Zr, hZr⟩ : ∃ Z, (fl F0 ++ zrest).toArray = Z := ⟨_, rfl⟩
  have hz : ∀ w, Sem.run Tryd.prog (zeroValue 67) w = .ok (.agg Zr) w := fun w => by rw [← hZr]; exact zR w
  obtain ⟨M, hMd⟩ : ∃ M, w1.heap.size = M := ⟨_, rfl⟩
  obtain ⟨w2, hw2⟩ : ∃ W, w1.alloc (.cells Zr 67) = W := ⟨_, rfl⟩
  have HFM := Lib.hid (show FR w2 M F0 from by rw [← hw2, ← hMd, ← hZr]; exact frR w1 zrest _)
  have HC2 := Lib.hid (show Ch [] w w2 from by rw [← hw2]; exact hc1.alloc _)
  have HB2 := Lib.hid (show RB w2 b c (kL k) (newS u []) from by rw [← hw2]; exact hB.quiet ((Ch.refl [] w1).alloc _))
  have HMs := Lib.hid hMd
  have HW2 := Lib.hid hw2
  have HZz := Lib.hid hz
  have HLb := Lib.hid (show ∀ k ∈ [b], w.heap.size ≤ k from by simpa using hbl)
  have HBl := Lib.hid hbl
  clear hB hc1 hbl hZr hz hMd hw2 HNew
  go_wp2_with (first
    | ((with_reducible show wpList _ _ _ (Oper.mk _ (Op.alloc 67) _ _ _ _ :: _) _ _); refine wpList_allocZ HZz.out rfl (by rfl) ?_; rw [HMs.out, HW2.out])
    | ((with_reducible show wpList _ _ _ (Oper.mk _ (Op.load 62 _) _ _ _ _ :: _) _ _); refine wpList_readF rfl HFM.out (by rfl) (by rfl) ?_)
    | fail)
  with_reducible refine (HRw.out _ HC2.out).mono ?_
  rintro e w3 ⟨rfl, hc3⟩
  have hz := z90b w3
  obtain ⟨NB, hN⟩ : ∃ b, w3.heap.size = b := ⟨_, rfl⟩
  obtain ⟨w4, hw4⟩ : ∃ W, w3.alloc (.cells (fl F0).toArray 62) = W := ⟨_, rfl⟩
  have hn4 : FR w4 NB F0 := by rw [← hw4, ← hN]; exact FR.new w3 F0 _
  have hc4 : Ch [] w2 w4 := by rw [← hw4]; exact hc3.alloc _
  obtain ⟨w5, hw5⟩ : ∃ W, w4.setCells NB 0 (fl G) = W := ⟨_, rfl⟩
  have hn5 : FR w5 NB G := by rw [← hw5]; exact hn4.setAll G
  have hc5 : Ch [] w2 w5 := by rw [← hw5]; exact hc4.fresh (chCells w4 NB _ 0) (by have := hc3.size; simp; omega)
  have HN4 := Lib.hid hn4
  have HN5 := Lib.hid hn5
  have HW4 := Lib.hid hw4
  have HW5 := Lib.hid hw5
  have HNs := Lib.hid hN
  have HC5 := Lib.hid (HC2.out.trans hc5)
  have HNb := Lib.hid (show NB ∉ [b] from by have := HB2.out.lt; have := hc3.size; simp; omega)
  have HWs := Lib.hid (HWr.out w5 b c (HB2.out.quiet hc5) (HC2.out.trans hc5) HBl.out)
  clear hc3 hc4 hc5 hn4 hn5 hw4 hw5 hN HRw HWr
  go_wp2_with (first | ((with_reducible show wpList _ _ _ (Oper.mk _ (Op.store 62 _ _) _ _ _ _ :: _) _ _); rw [HNs.out, HW4.out]; refine wpList_writeF rfl HN4.out G (by rfl) (by rfl) (by rfl) ?_) | fail)
  rw [HW5.out]
  clear hz
  with_reducible refine HWs.out.mono ?_
  rintro e w6 ⟨rfl, hb6, hc6⟩
  have HB6 := Lib.hid hb6
  have HN6 := Lib.hid (HN5.out.ch hc6 HNb.out)
  have HC6 := Lib.hid (HC5.out.fresh hc6 HLb.out)
  clear hb6 hc6 HWs HN5 HC5 HW5 HW4 HN4 HNs HB2 HFM HC2
  go_wp2_with (first | ((with_reducible show wpList _ _ _ (Oper.mk _ (Op.load 62 _) _ _ _ _ :: _) _ _); refine wpList_readF rfl HN6.out (by rfl) (by rfl) ?_) | fail)
  with_reducible refine (HRr.out _).mono ?_
  rintro e w7 ⟨xa, xc, rfl, hx, hc7⟩
  have HB7 := Lib.hid (HB6.out.quiet hc7)
  have HN7 := Lib.hid (HN6.out.quiet hc7)
  have HC7 := Lib.hid (HC6.out.trans hc7)
  have HX7 := Lib.hid hx
  have HRg := Lib.hid (HRf.out w7 b c HB7.out)
  clear hc7 hx HRr HRf HB6 HN6 HC6
  go_wp2_with fail
  with_reducible refine HRg.out.mono ?_
  rintro e w8 ⟨ya, yc, rfl, hy, hc8⟩
  have HB8 := Lib.hid (HB7.out.quiet hc8)
  have HN8 := Lib.hid (HN7.out.quiet hc8)
  have HC8 := Lib.hid (HC7.out.trans hc8)
  have HX8 := Lib.hid (HX7.out.ch hc8 (by simp))
  have HY8 := Lib.hid hy
  clear hc8 hy HRg HB7 HN7 HC7 HX7
  go_wp2_with fail
  go_loopw [16] (fun i wr => Ch [] w8 wr ∧ ∃ j : Nat, i = .int .i64 (j : Int) ∧ j ≤ qq) (fun i _ => qq - (intOf i).toNat)
  case atStart => exact ⟨Ch.refl _ _, 0, rfl, Nat.zero_le _⟩
  case round =>
    obtain ⟨hcw, j, rfl, hj1⟩ := hrel
    by_cases hlt : j < qq
    · have hjl : j < Bs.length := by rw [HQ.out.1]; exact hlt
      have hlt' : (j : Int) < (qq : Int) := by omega
      have ew : IntKind.i64.wrap ((j : Int) + 1) = ((j + 1 : Nat) : Int) := by rw [IntKind.wrap_i64]; have := HQ.out.2; omega
      have k1 := HX8.out.ch hcw (by simp)
      have k2 := HY8.out.ch hcw (by simp)
      have HC := Lib.hid hcw
      rcases k1 with h0 | ⟨b1, o1, rfl, k1⟩
      · rw [h0] at hjl; simp at hjl
      · rcases k2 with h0 | ⟨b2, o2, rfl, k2⟩
        · rw [h0] at hjl; simp at hjl
        · have d1 := k1 j hjl
          have d2 := k2 j hjl
          generalize (Bs[j] : Int) = z at d1 d2
          clear k1 k2 hcw hjl
          go_wp2_with fail
          go_region
          go_wp2_with fail
          go_roundw
          case rel => exact ⟨HC.out.drew, j + 1, by go_num, by omega⟩
          case measure => simp [intOf]; omega
    · obtain rfl : j = qq := by omega
      have HCw := Lib.hid (HC8.out.trans hcw)
      have HBq := Lib.hid (HB8.out.quiet hcw)
      have hnn := (HN8.out.quiet hcw).a ii HII.out.2
      have hn0 : wr.cell? ⟨NB, ii * 5 + 4, none⟩ = some (.int .u64 vv0) := by
        have := hnn.c4
        rw [← HII.out.1, HVV.out, HII.out.1] at this
        exact this
      clear hcw hnn
      go_wp2_with fail
      refine wp_region_noPanic ?_
      refine wp_region_held_drew (S := fun w' : World => w'.cell? ⟨NB, ii * 5 + 4, none⟩ = some (.int .u64 vv0)) (by kernel_rfl) (show _ = _ from hn0) (fun hHeld => ?_)
      refine wpAnyH_ready (rs := [0]) (by kernel_rfl) (by simp) ?_
      refine AllReadyH.cons (o := { dst := some 100, op := _, type := _, pos := _, after := _, guard := _ }) rfl (fun K hK => ?_) AllReadyH.nil
      go_simp
      with_reducible refine (HKn.out _ HCw.out.drew).mono ?_
      rintro e y1 ⟨rfl, hd1⟩
      have hd2 := (Ch.refl [] wr).drew.trans hd1
      have HY1 := Lib.hid (HBq.out.quiet hd2)
      have HD1 := Lib.hid (HCw.out.trans hd2)
      have hn1 := (hd2.cell (cell_lt hn0) (by simp)).trans hn0
      clear hd1 hd2
      refine hK.out _ _ hn1 (fun hHeld => ?_)
      clear hK K
      try simp only [Act.put, List.setIfInBounds_toArray, List.set_cons_zero, List.set_cons_succ]
      refine wpAnyH_take (i := 1) (oi := { dst := some 101, op := _, type := _, pos := _, after := _, guard := _ }) (v := ?v1_1) rfl (by kernel_rfl) (by kernel_rfl) (by kernel_rfl) (fun _ _ _ h => h) (.inl ⟨by rfl, ?h1_1⟩) (by assumption) ?_
      case h1_1 => intro wz hSw; have hSw2 : wz.cell? ⟨NB, ii * 5 + 4, none⟩ = some (.int .u64 vv0) := hSw; go_simp; (try with_reducible rfl)
      try simp only [Act.put, List.setIfInBounds_toArray, List.set_cons_zero, List.set_cons_succ]
      refine wpAnyH_take (i := 2) (oi := { dst := some 102, op := _, type := _, pos := _, after := _, guard := _ }) (v := ?v2_2) rfl (by kernel_rfl) (by kernel_rfl) (by kernel_rfl) (fun _ _ _ h => h) (.inl ⟨by rfl, ?h2_2⟩) (by assumption) ?_
      case h2_2 => intro wz hSw; have hSw2 : wz.cell? ⟨NB, ii * 5 + 4, none⟩ = some (.int .u64 vv0) := hSw; go_simp; (try with_reducible rfl)
      try simp only [Act.put, List.setIfInBounds_toArray, List.set_cons_zero, List.set_cons_succ]
      refine wpAnyH_ready (rs := [3]) (by kernel_rfl) (by simp) ?_
      refine AllReadyH.cons (o := { dst := some 103, op := _, type := _, pos := _, after := _, guard := _ }) rfl (fun K hK => ?_) AllReadyH.nil
      go_simp
      with_reducible refine (HGo.out _ _ _ HY1.out).mono ?_
      rintro e y2 ⟨Z, rfl, hfd, -, hb2, hd2⟩
      have HY2 := Lib.hid hb2
      have HD2 := Lib.hid (HD1.out.fresh hd2 HLb.out)
      have hn2 := (hd2.cell (cell_lt hn1) HNb.out).trans hn1
      clear hb2 hd2
      refine hK.out _ _ hn2 (fun hHeld => ?_)
      clear hK K
      try simp only [Act.put, List.setIfInBounds_toArray, List.set_cons_zero, List.set_cons_succ]
      refine wpAnyH_take (i := 4) (oi := { dst := some 104, op := _, type := _, pos := _, after := _, guard := _ }) (v := ?v3_4) rfl (by kernel_rfl) (by kernel_rfl) (by kernel_rfl) (fun _ _ _ h => h) (.inl ⟨by rfl, ?h3_4⟩) (by assumption) ?_
      case h3_4 => intro wz hSw; have hSw2 : wz.cell? ⟨NB, ii * 5 + 4, none⟩ = some (.int .u64 vv0) := hSw; go_simp; (try with_reducible rfl)
      try simp only [Act.put, List.setIfInBounds_toArray, List.set_cons_zero, List.set_cons_succ]
      refine wpAnyH_take (i := 5) (oi := { dst := some 105, op := _, type := _, pos := _, after := _, guard := _ }) (v := ?v4_5) rfl (by kernel_rfl) (by kernel_rfl) (by kernel_rfl) (fun _ _ _ h => h) (.inl ⟨by rfl, ?h4_5⟩) (by assumption) ?_
      case h4_5 => intro wz hSw; have hSw2 : wz.cell? ⟨NB, ii * 5 + 4, none⟩ = some (.int .u64 vv0) := hSw; go_simp; (try with_reducible rfl)
      try simp only [Act.put, List.setIfInBounds_toArray, List.set_cons_zero, List.set_cons_succ]
      refine wpAnyH_take (i := 6) (oi := { dst := some 106, op := _, type := _, pos := _, after := _, guard := _ }) (v := ?v5_6) rfl (by kernel_rfl) (by kernel_rfl) (by kernel_rfl) (fun _ _ _ h => h) (.inl ⟨by rfl, ?h5_6⟩) (by assumption) ?_
      case h5_6 => intro wz hSw; have hSw2 : wz.cell? ⟨NB, ii * 5 + 4, none⟩ = some (.int .u64 vv0) := hSw; go_simp; (try with_reducible rfl)
      try simp only [Act.put, List.setIfInBounds_toArray, List.set_cons_zero, List.set_cons_succ]
      refine wpAnyH_take (i := 7) (oi := { dst := some 107, op := _, type := _, pos := _, after := _, guard := _ }) (v := ?v6_7) rfl (by kernel_rfl) (by kernel_rfl) (by kernel_rfl) (fun _ _ _ h => h) (.inl ⟨by rfl, ?h6_7⟩) (by assumption) ?_
      case h6_7 => intro wz hSw; have hSw2 : wz.cell? ⟨NB, ii * 5 + 4, none⟩ = some (.int .u64 vv0) := hSw; go_simp; (try with_reducible rfl)
      try simp only [Act.put, List.setIfInBounds_toArray, List.set_cons_zero, List.set_cons_succ]
      refine wpAnyH_take (i := 8) (oi := { dst := some 108, op := _, type := _, pos := _, after := _, guard := _ }) (v := ?v7_8) rfl (by kernel_rfl) (by kernel_rfl) (by kernel_rfl) (fun _ _ _ h => h) (.inl ⟨by rfl, ?h7_8⟩) (by assumption) ?_
      case h7_8 => intro wz hSw; have hSw2 : wz.cell? ⟨NB, ii * 5 + 4, none⟩ = some (.int .u64 vv0) := hSw; go_simp; (try with_reducible rfl)
      try simp only [Act.put, List.setIfInBounds_toArray, List.set_cons_zero, List.set_cons_succ]
      have HCo := codeE_any HY2.out
      rw [HRun.out.2.1] at HCo
      replace HCo := Lib.hid HCo
      have HRe := result_any HY2.out
      rw [HRun.out.2.2] at HRe
      replace HRe := Lib.hid HRe
      refine wpAnyH_ready (rs := [9]) (by kernel_rfl) (by simp) ?_
      refine AllReadyH.cons (o := { dst := some 109, op := _, type := _, pos := _, after := _, guard := _ }) rfl (fun K hK => ?_) AllReadyH.nil
      go_simp
      with_reducible refine HCo.out.mono ?_
      rintro e y3 ⟨rfl, rfl⟩
      refine hK.out _ _ hn2 (fun hHeld => ?_)
      clear hK K
      try simp only [Act.put, List.setIfInBounds_toArray, List.set_cons_zero, List.set_cons_succ]
      refine wpAnyH_take (i := 10) (oi := { dst := some 110, op := _, type := _, pos := _, after := _, guard := _ }) (v := ?v8_10) rfl (by kernel_rfl) (by kernel_rfl) (by kernel_rfl) (fun _ _ _ h => h) (.inl ⟨by rfl, ?h8_10⟩) (by assumption) ?_
      case h8_10 => intro wz hSw; have hSw2 : wz.cell? ⟨NB, ii * 5 + 4, none⟩ = some (.int .u64 vv0) := hSw; go_simp; (try with_reducible rfl)
      try simp only [Act.put, List.setIfInBounds_toArray, List.set_cons_zero, List.set_cons_succ]
      refine wpAnyH_take (i := 11) (oi := { dst := some 111, op := _, type := _, pos := _, after := _, guard := _ }) (v := ?v9_11) rfl (by kernel_rfl) (by kernel_rfl) (by kernel_rfl) (fun _ _ _ h => h) (.inl ⟨by rfl, ?h9_11⟩) (by assumption) ?_
      case h9_11 => intro wz hSw; have hSw2 : wz.cell? ⟨NB, ii * 5 + 4, none⟩ = some (.int .u64 vv0) := hSw; go_simp; (try with_reducible rfl)
      try simp only [Act.put, List.setIfInBounds_toArray, List.set_cons_zero, List.set_cons_succ]
      refine wpAnyH_take (i := 12) (oi := { dst := some 112, op := _, type := _, pos := _, after := _, guard := _ }) (v := ?v10_12) rfl (by kernel_rfl) (by kernel_rfl) (by kernel_rfl) (fun _ _ _ h => h) (.inl ⟨by rfl, ?h10_12⟩) (by assumption) ?_
      case h10_12 => intro wz hSw; have hSw2 : wz.cell? ⟨NB, ii * 5 + 4, none⟩ = some (.int .u64 vv0) := hSw; go_simp; (try with_reducible rfl)
      try simp only [Act.put, List.setIfInBounds_toArray, List.set_cons_zero, List.set_cons_succ]
      refine wpAnyH_take (i := 13) (oi := { dst := some 113, op := _, type := _, pos := _, after := _, guard := _ }) (v := ?v11_13) rfl (by kernel_rfl) (by kernel_rfl) (by kernel_rfl) (fun _ _ _ h => h) (.inl ⟨by rfl, ?h11_13⟩) (by assumption) ?_
      case h11_13 => intro wz hSw; have hSw2 : wz.cell? ⟨NB, ii * 5 + 4, none⟩ = some (.int .u64 vv0) := hSw; go_simp; (try with_reducible rfl)
      try simp only [Act.put, List.setIfInBounds_toArray, List.set_cons_zero, List.set_cons_succ]
      refine wpAnyH_take (i := 15) (oi := { dst := some 115, op := _, type := _, pos := _, after := _, guard := _ }) (v := ?v12_15) rfl (by kernel_rfl) (by kernel_rfl) (by kernel_rfl) (fun _ _ _ h => h) (.inl ⟨by rfl, ?h12_15⟩) (by assumption) ?_
      case h12_15 => intro wz hSw; have hSw2 : wz.cell? ⟨NB, ii * 5 + 4, none⟩ = some (.int .u64 vv0) := hSw; go_simp; (try with_reducible rfl)
      try simp only [Act.put, List.setIfInBounds_toArray, List.set_cons_zero, List.set_cons_succ]
      refine wpAnyH_take (i := 16) (oi := { dst := some 116, op := _, type := _, pos := _, after := _, guard := _ }) (v := ?v13_16) rfl (by kernel_rfl) (by kernel_rfl) (by kernel_rfl) (fun _ _ _ h => h) (.inl ⟨by rfl, ?h13_16⟩) (by assumption) ?_
      case h13_16 => intro wz hSw; have hSw2 : wz.cell? ⟨NB, ii * 5 + 4, none⟩ = some (.int .u64 vv0) := hSw; go_simp; (try with_reducible rfl)
      try simp only [Act.put, List.setIfInBounds_toArray, List.set_cons_zero, List.set_cons_succ]
      refine wpAnyH_take (i := 17) (oi := { dst := some 117, op := _, type := _, pos := _, after := _, guard := _ }) (v := ?v14_17) rfl (by kernel_rfl) (by kernel_rfl) (by kernel_rfl) (fun _ _ _ h => h) (.inl ⟨by rfl, ?h14_17⟩) (by assumption) ?_
      case h14_17 => intro wz hSw; have hSw2 : wz.cell? ⟨NB, ii * 5 + 4, none⟩ = some (.int .u64 vv0) := hSw; go_simp; (try with_reducible rfl)
      try simp only [Act.put, List.setIfInBounds_toArray, List.set_cons_zero, List.set_cons_succ]
      refine wpAnyH_take (i := 18) (oi := { dst := some 118, op := _, type := _, pos := _, after := _, guard := _ }) (v := ?v15_18) rfl (by kernel_rfl) (by kernel_rfl) (by kernel_rfl) (fun _ _ _ h => h) (.inl ⟨by rfl, ?h15_18⟩) (by assumption) ?_
      case h15_18 => intro wz hSw; have hSw2 : wz.cell? ⟨NB, ii * 5 + 4, none⟩ = some (.int .u64 vv0) := hSw; go_simp; (try with_reducible rfl)
      try simp only [Act.put, List.setIfInBounds_toArray, List.set_cons_zero, List.set_cons_succ]
      refine wpAnyH_take (i := 19) (oi := { dst := some 119, op := _, type := _, pos := _, after := _, guard := _ }) (v := ?v16_19) rfl (by kernel_rfl) (by kernel_rfl) (by kernel_rfl) (fun _ _ _ h => h) (.inl ⟨by rfl, ?h16_19⟩) (by assumption) ?_
      case h16_19 => intro wz hSw; have hSw2 : wz.cell? ⟨NB, ii * 5 + 4, none⟩ = some (.int .u64 vv0) := hSw; go_simp; (try with_reducible rfl)
      try simp only [Act.put, List.setIfInBounds_toArray, List.set_cons_zero, List.set_cons_succ]
      refine wpAnyH_take (i := 20) (oi := { dst := some 120, op := _, type := _, pos := _, after := _, guard := _ }) (v := ?v17_20) rfl (by kernel_rfl) (by kernel_rfl) (by kernel_rfl) (fun _ _ _ h => h) (.inl ⟨by rfl, ?h17_20⟩) (by assumption) ?_
      case h17_20 => intro wz hSw; have hSw2 : wz.cell? ⟨NB, ii * 5 + 4, none⟩ = some (.int .u64 vv0) := hSw; go_simp; (try with_reducible rfl)
      try simp only [Act.put, List.setIfInBounds_toArray, List.set_cons_zero, List.set_cons_succ]
      refine wpAnyH_ready (rs := [14]) (by kernel_rfl) (by simp) ?_
      refine AllReadyH.cons (o := { dst := some 114, op := _, type := _, pos := _, after := _, guard := _ }) rfl (fun K hK => ?_) AllReadyH.nil
      go_simp
      with_reducible refine HRe.out.mono ?_
      rintro e y3 ⟨rfl, rfl⟩
      refine hK.out _ _ hn2 (fun hHeld => ?_)
      clear hK K
      try simp only [Act.put, List.setIfInBounds_toArray, List.set_cons_zero, List.set_cons_succ]
      refine wpAnyH_take (i := 21) (oi := { dst := some 121, op := _, type := _, pos := _, after := _, guard := _ }) (v := ?v18_21) rfl (by kernel_rfl) (by kernel_rfl) (by kernel_rfl) (fun _ _ _ h => h) (.inl ⟨by rfl, ?h18_21⟩) (by assumption) ?_
      case h18_21 => intro wz hSw; have hSw2 : wz.cell? ⟨NB, ii * 5 + 4, none⟩ = some (.int .u64 vv0) := hSw; go_simp; (try with_reducible rfl)
      try simp only [Act.put, List.setIfInBounds_toArray, List.set_cons_zero, List.set_cons_succ]
      refine wpAnyH_take (i := 22) (oi := { dst := some 122, op := _, type := _, pos := _, after := _, guard := _ }) (v := ?v19_22) rfl (by kernel_rfl) (by kernel_rfl) (by kernel_rfl) (fun _ _ _ h => h) (.inl ⟨by rfl, ?h19_22⟩) (by assumption) ?_
      case h19_22 => intro wz hSw; have hSw2 : wz.cell? ⟨NB, ii * 5 + 4, none⟩ = some (.int .u64 vv0) := hSw; go_simp; (try with_reducible rfl)
      try simp only [Act.put, List.setIfInBounds_toArray, List.set_cons_zero, List.set_cons_succ]
      refine wpAnyH_take (i := 23) (oi := { dst := some 6, op := _, type := _, pos := _, after := _, guard := _ }) (v := ?v20_23) rfl (by kernel_rfl) (by kernel_rfl) (by kernel_rfl) (fun _ _ _ h => h) (.inl ⟨by rfl, ?h20_23⟩) (by assumption) ?_
      case h20_23 => intro wz hSw; have hSw2 : wz.cell? ⟨NB, ii * 5 + 4, none⟩ = some (.int .u64 vv0) := hSw; go_simp; (try with_reducible rfl)
      try simp only [Act.put, List.setIfInBounds_toArray, List.set_cons_zero, List.set_cons_succ]
      refine wpAnyH_done (by kernel_rfl) ?_ _
      refine NoPanic.normal ?_
      go_wp2_with fail
      go_ret
      exact ⟨rfl, HD2.out⟩
end Go.Proofs.YtpbdmlipdfdblaaDoor
