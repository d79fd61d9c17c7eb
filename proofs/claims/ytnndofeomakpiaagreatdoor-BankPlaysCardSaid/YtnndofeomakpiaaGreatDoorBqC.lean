/-
  The document's answer for the bank: Put, Del, Catch.
-/
import Derived.Test.YtnndofeomakpiaaGreatDoorBqB
import Derived.Deep.RegionHeld3
namespace Go.Proofs.YtnndofeomakpiaaGreatDoor
open Go.RowKit Go.Maps

attribute [local go_sem] Oper.semAt_some

theorem box4 {W : World} {b : Nat} {x y z t : Value} (h : BoxN W b [x, y, z, t]) :
    (W.cell? ⟨b, 0, none⟩ = some x ∧ W.cell? ⟨b, 1, none⟩ = some y ∧ W.cell? ⟨b, 2, none⟩ = some z ∧ W.cell? ⟨b, 3, none⟩ = some t) ∧ W.frozen? ⟨b, 0, none⟩ = false ∧ W.frozen? ⟨b, 1, none⟩ = false ∧ W.frozen? ⟨b, 2, none⟩ = false ∧ W.frozen? ⟨b, 3, none⟩ = false :=
  ⟨⟨(h 0 _ rfl).1, (h 1 _ rfl).1, (h 2 _ rfl).1, (h 3 _ rfl).1⟩, (h 0 _ rfl).2, (h 1 _ rfl).2, (h 2 _ rfl).2, (h 3 _ rfl).2⟩
section
variable {w : World} {D n : Nat} {m : Value} {f : Nat → Wh} {P : Nat → Prop}
theorem rbput_out (h : RB w D m n f P) {cpu id : Int} (hr : cpu < 0 ∨ (n : Int) ≤ cpu ∨ id < 0 ∨ 255 < id) (at' : Int) :
    Calls Tryz.prog 7 #[m, .int .i64 cpu, .int .i64 id, .int .u64 at'] w fun e w' => e = .returned (.tuple #[m, spZ, .int .i64 2]) ∧ Ch [] w w' := by
  obtain ⟨a, cap, rfl⟩ := h.form
  obtain ⟨k0, k1, k2, k3⟩ := Four.new w (.int .i64 0) (.int .i64 0) (.int .u64 0) (.int .u64 0) 37
  clear h
  unfold spZ
  by_cases h1 : cpu < 0
  · have d1 : decide (cpu < 0) = true := decide_eq_true h1
    clear hr h1
    go_enter Tryz.func7, Tryz.ntmps7
    go_wp2
    refine bodyPost_ret (v := .tuple #[.slice a n cap, .agg #[.int .i64 0, .int .i64 0, .int .u64 0, .int .u64 0], .int .i64 2]) ?_ rfl ?_
    · simp [results, Tryz.f7, go_sem, k0, k1, k2, k3]
    · exact ⟨rfl, (Ch.refl [] w).alloc _⟩
  · have d1 : decide (cpu < 0) = false := decide_eq_false h1
    by_cases h2 : (n : Int) ≤ cpu
    · have d2 : decide (cpu ≥ (n : Int)) = true := decide_eq_true h2
      clear hr h1 h2
      go_enter Tryz.func7, Tryz.ntmps7
      go_wp2
      refine bodyPost_ret (v := .tuple #[.slice a n cap, .agg #[.int .i64 0, .int .i64 0, .int .u64 0, .int .u64 0], .int .i64 2]) ?_ rfl ?_
      · simp [results, Tryz.f7, go_sem, k0, k1, k2, k3]
      · exact ⟨rfl, (Ch.refl [] w).alloc _⟩
    · have d2 : decide (cpu ≥ (n : Int)) = false := decide_eq_false h2
      by_cases h3 : id < 0
      · have d3 : decide (id < 0) = true := decide_eq_true h3
        clear hr h1 h2 h3
        go_enter Tryz.func7, Tryz.ntmps7
        go_wp2
        refine bodyPost_ret (v := .tuple #[.slice a n cap, .agg #[.int .i64 0, .int .i64 0, .int .u64 0, .int .u64 0], .int .i64 2]) ?_ rfl ?_
        · simp [results, Tryz.f7, go_sem, k0, k1, k2, k3]
        · exact ⟨rfl, (Ch.refl [] w).alloc _⟩
      · have d3 : decide (id < 0) = false := decide_eq_false h3
        have d4 : decide (id > 255) = true := decide_eq_true (by omega)
        clear hr h1 h2 h3
        go_enter Tryz.func7, Tryz.ntmps7
        go_wp2
        refine bodyPost_ret (v := .tuple #[.slice a n cap, .agg #[.int .i64 0, .int .i64 0, .int .u64 0, .int .u64 0], .int .i64 2]) ?_ rfl ?_
        · simp [results, Tryz.f7, go_sem, k0, k1, k2, k3]
        · exact ⟨rfl, (Ch.refl [] w).alloc _⟩
theorem rbput_twice (h : RB w D m n f P) (hn : n ≤ 64) (hl : ∀ i, i < n → (f i).L.length ≤ 256) {c : Nat} (hc : c < n) {id : Int} (h0 : 0 ≤ id) (h1 : id < 256) {b : Nat} (ho : ownO f n id = some b) (at' : Int) :
    Calls Tryz.prog 7 #[m, .int .i64 (c : Int), .int .i64 id, .int .u64 at'] w fun e w' => e = .returned (.tuple #[m, spZ, .int .i64 5]) ∧ Ch [] w w' := by
  have hal := (Ch.refl [] w).alloc (.cells #[.int .i64 0, .int .i64 0, .int .u64 0, .int .u64 0] 37)
  have hf := rbfind_any (h.quiet hal) hn hl id
  have hfr : fR f n id = (b : Int) := by unfold fR; rw [ho]
  rw [hfr] at hf
  obtain ⟨a, cap, rfl⟩ := h.form
  have HB := Lib.hid (BoxN.new w [.int .i64 0, .int .i64 0, .int .u64 0, .int .u64 0] 37)
  have HF := Lib.hid hf
  have HA := Lib.hid hal
  have d1 : decide ((c : Int) < 0) = false := decide_eq_false (by omega)
  have d2 : decide ((c : Int) ≥ (n : Int)) = false := decide_eq_false (by omega)
  have d3 : decide (id < 0) = false := decide_eq_false (by omega)
  have d4 : decide (id > 255) = false := decide_eq_false (by omega)
  have hc1 : (c : Int) < (n : Int) := by omega
  unfold spZ
  clear h hal hf hfr ho hl h0 h1 d2 hn
  go_enter Tryz.func7, Tryz.ntmps7
  go_wp2_with fail
  with_reducible refine HF.out.mono ?_
  rintro e w2 ⟨rfl, hc2⟩
  have hb := BoxN.quiet HB.out hc2
  obtain ⟨p0, q0⟩ := hb 0 _ rfl
  obtain ⟨p1, q1⟩ := hb 1 _ rfl
  obtain ⟨p2, q2⟩ := hb 2 _ rfl
  obtain ⟨p3, q3⟩ := hb 3 _ rfl
  have HB2 := Lib.hid hb
  have HC := Lib.hid (HA.out.trans hc2)
  clear hb hc2
  go_frame
  go_wp2_with fail
  obtain ⟨k1, k2⟩ := set_four HB2.out (.int .i64 0) (.int .i64 0) (.int .u64 0) (.int .u64 0)
  have m0 := (k1 0 _ rfl).1
  have m1 := (k1 1 _ rfl).1
  have m2 := (k1 2 _ rfl).1
  have m3 := (k1 3 _ rfl).1
  refine bodyPost_ret (v := .tuple #[.slice a n cap, .agg #[.int .i64 0, .int .i64 0, .int .u64 0, .int .u64 0], .int .i64 5]) ?_ rfl ?_
  · simp [results, Tryz.f7, go_sem, m0, m1, m2, m3]
  · exact ⟨rfl, ((ChP.quiet (S := fun _ => False) HC.out).fresh k2 (fun k e => .inr (by omega))).ch (fun _ h => h)⟩
set_option maxRecDepth 100000 in
set_option maxHeartbeats 2000000 in
theorem rbput_rest (h : RB w D m n f P) (hD : D ≤ w.heap.size) (hn : n ≤ 64) (hl : ∀ i, i < n → (f i).L.length ≤ 256) {c : Nat} (hc : c < n) {id : Int} (h0 : 0 ≤ id) (h1 : id < 256) (ho : ownO f n id = none) (at' : Int) {s : Sp} {E : Int} {L' : List Tm}
    (hP : ∀ W v, Ch [] w W → RT W D v (f c).L → (∀ g, v.ownBlock = some g → P g) → Calls Tryz.prog 25 #[rw7 (f c).now v, .int .i64 id, .int .u64 at'] W fun e w' => ∃ v', e = .returned (.tuple #[rw7 (f c).now v', spV s, .int .i64 E]) ∧ RT w' D v' L' ∧ (v' = v ∨ ∀ g, v'.ownBlock = some g → W.heap.size ≤ g) ∧ Ch [] W w') :
    Calls Tryz.prog 7 #[m, .int .i64 (c : Int), .int .i64 id, .int .u64 at'] w fun e w' => ∃ m', e = .returned (.tuple #[m', spV s, .int .i64 E]) ∧
      RB w' D m' n (updW f c { f c with L := L' }) (fun k => P k ∨ w.heap.size ≤ k) ∧ Ch [] w w' := by
  have hal := (Ch.refl [] w).alloc (.cells #[.int .i64 0, .int .i64 0, .int .u64 0, .int .u64 0] 37)
  have hf := rbfind_any (h.quiet hal) hn hl id
  have hfr : fR f n id = -1 := by unfold fR; rw [ho]
  rw [hfr] at hf
  have hM := h.mono (Q := fun k => (P k ∧ k < w.heap.size) ∨ w.heap.size < k) (fun k hk hl => .inl ⟨hk, hl⟩)
  obtain ⟨a, cap, rfl⟩ := h.form
  have HB := Lib.hid (BoxN.new w [.int .i64 0, .int .i64 0, .int .u64 0, .int .u64 0] 37)
  have HF := Lib.hid hf
  have HA := Lib.hid hal
  have HH := Lib.hid h
  have HM := Lib.hid hM
  have HP := Lib.hid hP
  have HC0 := Lib.hid hc
  have HD := Lib.hid hD
  have HN64 := Lib.hid hn
  have d1 : decide ((c : Int) < 0) = false := decide_eq_false (by omega)
  have d3 : decide (id < 0) = false := decide_eq_false (by omega)
  have d4 : decide (id > 255) = false := decide_eq_false (by omega)
  have hc0 : (0 : Int) ≤ (c : Int) := by omega
  have hc1 : (c : Int) < (n : Int) := by omega
  obtain ⟨slv, ssl, sat, sdue⟩ := s
  obtain ⟨nw, hnw⟩ : ∃ x, x = (f c).now := ⟨_, rfl⟩
  have HNw := Lib.hid hnw
  rw [← hnw] at HP
  unfold spV at HP ⊢
  clear h hal hf hfr ho hl hc h0 h1 hP hD hnw hM hn
  go_enter Tryz.func7, Tryz.ntmps7
  go_wp2_with fail
  with_reducible refine HF.out.mono ?_
  rintro e w2 ⟨rfl, hc2⟩
  have hca := HA.out.trans hc2
  obtain ⟨gb, cp, av, lc, cc, e, hPg, hgl, c0, c1, hlc, hrt⟩ := (HM.out.quiet hca).at HC0.out
  obtain ⟨rfl, rfl⟩ : a = some ⟨gb, 0, none⟩ ∧ cap = cp := by simpa using e
  have HB2 := Lib.hid (BoxN.quiet HB.out hc2)
  have hpo : ∀ g, (Value.slice av lc cc).ownBlock = some g → P g ∧ g < w.heap.size := by
    obtain ⟨vs, hrow, hvs⟩ := HH.out.row
    obtain ⟨e1, e2⟩ := wcl_at n f vs HC0.out
    have := World.ownsRow.cellAt (own_ch hrow hca (by simp)) (c * 2 + 1) (by have := HC0.out; omega)
    rw [c1, e2] at this
    have hv := Option.some.inj this
    intro g hg
    rw [hv] at hg
    exact ⟨(hvs c HC0.out).2 g hg, (World.ownsRow.lt (hvs c HC0.out).1 g hg).2⟩
  have HPu := Lib.hid (HP.out w2 _ hca hrt (fun g hg => (hpo g hg).1))
  rw [← HNw.out] at c0
  have HCa := Lib.hid hca
  have HPo := Lib.hid hpo
  have HW2 := Lib.hid (show w.heap.size < w2.heap.size by have := hc2.size; rw [World.size_alloc] at this; omega)
  unfold rw7 at HPu
  clear e hPg hgl hlc hrt hpo hca hc2
  go_frame
  go_wp2_with fail
  with_reducible refine HPu.out.mono ?_
  rintro e w3 ⟨v', rfl, hrt3, hpo3, hc3⟩
  obtain ⟨av3, cv3, rfl⟩ := own_form hrt3
  obtain ⟨l3, hl3⟩ : ∃ l, l = L'.length := ⟨_, rfl⟩
  have hpo4 : ∀ g, (Value.slice av3 L'.length cv3).ownBlock = some g → (P g ∧ g < w.heap.size) ∨ w.heap.size < g := fun g hg => by
    rcases hpo3 with e | h3
    · exact .inl (HPo.out g (e ▸ hg))
    · have := h3 g hg
      have := HW2.out
      exact .inr (by omega)
  have hc3a := HCa.out.trans hc3
  obtain ⟨W5, hW5⟩ : ∃ W, W = (w3.alloc (.cells #[.int .u64 nw, .slice av3 l3 cv3] 58)).alloc (.cells #[.int .i64 slv, .int .i64 ssl, .int .u64 sat, .int .u64 sdue] 37) := ⟨_, rfl⟩
  have hc5 : Ch [] w3 W5 := by rw [hW5]; exact ((Ch.refl [] w3).alloc _).alloc _
  have hset := rbset_any (w := W5.drew) (x := { f c with L := L' }) (v' := .slice av3 L'.length cv3) (HM.out.quiet ((hc3a.trans hc5).trans (Ch.refl [] W5).drew)) (by have := hc3a.size; have := hc5.size; have := HD.out; rw [World.size_drew]; omega) HN64.out HC0.out (hrt3.quiet (hc5.trans (Ch.refl [] W5).drew)) hpo4
  rw [show ({ f c with L := L' } : Wh).now = nw from HNw.out.symm, ← hl3] at hset
  unfold rw7 at hset
  have HSet := Lib.hid hset
  have HB5 := Lib.hid ((HB2.out.quiet hc3).quiet (hc5.trans (Ch.refl [] W5).drew))
  have b11 : BoxN W5 w3.heap.size [.int .u64 nw, .slice av3 l3 cv3] := by rw [hW5]; exact (BoxN.new w3 _ _).quiet ((Ch.refl [] _).alloc _)
  have b12 : BoxN W5 (w3.heap.size + 1) [.int .i64 slv, .int .i64 ssl, .int .u64 sat, .int .u64 sdue] := by
    rw [hW5]
    have := BoxN.new (w3.alloc (.cells #[.int .u64 nw, .slice av3 l3 cv3] 58)) [.int .i64 slv, .int .i64 ssl, .int .u64 sat, .int .u64 sdue] 37
    rw [World.size_alloc] at this
    exact this
  obtain ⟨q0, -⟩ := b11 0 _ rfl
  obtain ⟨q1, -⟩ := b11 1 _ rfl
  obtain ⟨y0, -⟩ := b12 0 _ rfl
  obtain ⟨y1, -⟩ := b12 1 _ rfl
  obtain ⟨y2, -⟩ := b12 2 _ rfl
  obtain ⟨y3, -⟩ := b12 3 _ rfl
  have HB12 := Lib.hid b12
  have HW5 := Lib.hid (show w.heap.size < W5.drew.heap.size by have := hc3.size; have := hc5.size; have := HW2.out; rw [World.size_drew]; omega)
  have HC5 := Lib.hid (hc3a.trans (hc5.trans (Ch.refl [] W5).drew))
  rw [← hl3]
  clear hrt3 hpo3 hpo4 hl3 hc3 c0 c1 hc3a hc5 b11 b12 hset
  go_frame
  go_upto_region 6 with (fail)
  rw [← hW5]
  clear hW5
  go_region_with (with_reducible refine HSet.out.mono ?_; rintro e w6 ⟨cp6, g6, rfl, hrb6, hc6⟩; have hb12 := (HB12.out.quiet ((Ch.refl [] W5).drew.trans hc6)); obtain ⟨⟨z0, z1, z2, z3⟩, -⟩ := box4 hb12; have hb9 := HB5.out.quiet hc6; obtain ⟨⟨n0, n1, n2, n3⟩, x0, x1, x2, x3⟩ := box4 hb9; have HRb6 := Lib.hid hrb6; have HC6 := Lib.hid hc6; have HB9 := Lib.hid hb9; clear hrb6 hc6 hb9 hb12)
  all_goals (
    go_wp2_with fail
    obtain ⟨k1, k2⟩ := set_four HB9.out (.int .i64 slv) (.int .i64 ssl) (.int .u64 sat) (.int .u64 sdue)
    obtain ⟨⟨m0, m1, m2, m3⟩, -⟩ := box4 k1
    refine bodyPost_ret (v := .tuple #[.slice (some ⟨g6, 0, none⟩) n cp6, .agg #[.int .i64 slv, .int .i64 ssl, .int .u64 sat, .int .u64 sdue], .int .i64 E]) ?_ rfl ?_
    · simp [results, Tryz.f7, go_sem, m0, m1, m2, m3]
    · have hc := HC5.out.trans HC6.out
      refine ⟨_, rfl, ((HRb6.out.chP k2 (fun k hk e => ?_)).mono (fun k hk _ => ?_)), ((ChP.quiet (S := fun _ => False) hc).fresh k2 (fun k e => .inr (by omega))).ch (fun _ h => h)⟩
      · have h1 := HC5.out.size
        have h4 := HW5.out
        rcases hk with (⟨-, h⟩ | h) | ⟨h, -⟩
        · omega
        · omega
        · omega
      · rcases hk with (⟨h, -⟩ | h) | ⟨h, -⟩
        · exact .inl h
        · exact .inr (by omega)
        · have h1 := HC5.out.size
          exact .inr (by omega))
end
end Go.Proofs.YtnndofeomakpiaaGreatDoor
