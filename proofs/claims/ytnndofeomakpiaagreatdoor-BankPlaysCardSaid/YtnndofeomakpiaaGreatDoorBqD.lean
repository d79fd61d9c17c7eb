/-
  The document's answer for the bank: Del, Catch.
-/
import Derived.Test.YtnndofeomakpiaaGreatDoorBqC
namespace Go.Proofs.YtnndofeomakpiaaGreatDoor
open Go.RowKit Go.Maps

attribute [local go_sem] Oper.semAt_some

section
variable {w : World} {D n : Nat} {m : Value} {f : Nat → Wh} {P : Nat → Prop}
/-- What one wheel of the list owns. -/
theorem RB.vOwn (h : RB w D m n f P) {W : World} (hW : Ch [] w W) {gb cp c : Nat} {v : Value} (e : m = .slice (some ⟨gb, 0, none⟩) n cp) (hc : c < n) (hv : W.cell? ⟨gb, c * 2 + 1, none⟩ = some v) : ∀ g, v.ownBlock = some g → P g ∧ g < w.heap.size := by
  obtain ⟨vs, hrow, hvs⟩ := h.row
  obtain ⟨e1, e2⟩ := wcl_at n f vs hc
  subst e
  have := World.ownsRow.cellAt (own_ch hrow hW (by simp)) (c * 2 + 1) (by omega)
  rw [hv, e2] at this
  have hv := Option.some.inj this
  intro g hg
  rw [hv] at hg
  exact ⟨(hvs c hc).2 g hg, (World.ownsRow.lt (hvs c hc).1 g hg).2⟩
theorem rbdel_not (h : RB w D m n f P) (hn : n ≤ 64) (hl : ∀ i, i < n → (f i).L.length ≤ 256) {id : Int} (ho : ownO f n id = none) :
    Calls Tryz.prog 10 #[m, .int .i64 id] w fun e w' => e = .returned (.tuple #[m, .bool false]) ∧ Ch [] w w' := by
  have hf := rbfind_any h hn hl id
  have hfr : fR f n id = -1 := by unfold fR; rw [ho]
  rw [hfr] at hf
  obtain ⟨a, cap, rfl⟩ := h.form
  have HF := Lib.hid hf
  clear h hf hfr ho hl hn
  go_enter Tryz.func10, Tryz.ntmps10
  go_wp2_with fail
  with_reducible refine HF.out.mono ?_
  rintro e w2 ⟨rfl, hc2⟩
  go_frame
  go_wp2_with fail
  go_ret2
  exact ⟨rfl, hc2⟩
set_option maxRecDepth 100000 in
set_option maxHeartbeats 2000000 in
theorem rbdel_in (h : RB w D m n f P) (hD : D ≤ w.heap.size) (hn : n ≤ 64) (hl : ∀ i, i < n → (f i).L.length ≤ 256) {id : Int} {c : Nat} (hc : c < n) (ho : ownO f n id = some c) {L' : List Tm}
    (hP : ∀ W v, Ch [] w W → RT W D v (f c).L → Calls Tryz.prog 29 #[rw7 (f c).now v, .int .i64 id] W fun e w' => ∃ v', e = .returned (.tuple #[rw7 (f c).now v', .bool true]) ∧ RT w' D v' L' ∧ (v' = v ∨ ∀ g, v'.ownBlock = some g → W.heap.size ≤ g) ∧ Ch [] W w') :
    Calls Tryz.prog 10 #[m, .int .i64 id] w fun e w' => ∃ m', e = .returned (.tuple #[m', .bool true]) ∧
      RB w' D m' n (updW f c { f c with L := L' }) (fun k => P k ∨ w.heap.size ≤ k) ∧ Ch [] w w' := by
  have hf := rbfind_any h hn hl id
  have hfr : fR f n id = (c : Int) := by unfold fR; rw [ho]
  rw [hfr] at hf
  obtain ⟨a, cap, rfl⟩ := h.form
  have HF := Lib.hid hf
  have HH := Lib.hid h
  have HP := Lib.hid hP
  have HC0 := Lib.hid hc
  have HD := Lib.hid hD
  have HN64 := Lib.hid hn
  have hc0 : (0 : Int) ≤ (c : Int) := by omega
  have hc1 : (c : Int) < (n : Int) := by omega
  have hcn : decide ((c : Int) < 0) = false := decide_eq_false (by omega)
  obtain ⟨nw, hnw⟩ : ∃ x, x = (f c).now := ⟨_, rfl⟩
  have HNw := Lib.hid hnw
  rw [← hnw] at HP
  clear h hf hfr ho hl hc hP hD hnw hn
  go_enter Tryz.func10, Tryz.ntmps10
  go_wp2_with fail
  with_reducible refine HF.out.mono ?_
  rintro e w2 ⟨rfl, hc2⟩
  obtain ⟨gb, cp, av, lc, cc, e, hPg, hgl, c0, c1, hlc, hrt⟩ := (HH.out.quiet hc2).at HC0.out
  obtain ⟨rfl, rfl⟩ : a = some ⟨gb, 0, none⟩ ∧ cap = cp := by simpa using e
  have HPo := Lib.hid (HH.out.vOwn hc2 rfl HC0.out c1)
  have HPu := Lib.hid (HP.out w2 _ hc2 hrt)
  rw [← HNw.out] at c0
  have HCa := Lib.hid hc2
  unfold rw7 at HPu
  clear e hPg hgl hlc hrt hc2
  go_frame
  go_wp2_with fail
  with_reducible refine HPu.out.mono ?_
  rintro e w3 ⟨v', rfl, hrt3, hpo3, hc3⟩
  obtain ⟨av3, cv3, rfl⟩ := own_form hrt3
  obtain ⟨l3, hl3⟩ : ∃ l, l = L'.length := ⟨_, rfl⟩
  have hpo4 : ∀ g, (Value.slice av3 L'.length cv3).ownBlock = some g → P g ∨ w.heap.size ≤ g := fun g hg => by
    rcases hpo3 with e | h3
    · exact .inl (HPo.out g (e ▸ hg)).1
    · have := h3 g hg
      have := HCa.out.size
      exact .inr (by omega)
  have hc3a := HCa.out.trans hc3
  obtain ⟨W5, hW5⟩ : ∃ W, W = w3.alloc (.cells #[.int .u64 nw, .slice av3 l3 cv3] 58) := ⟨_, rfl⟩
  have hc5 : Ch [] w3 W5 := by rw [hW5]; exact (Ch.refl [] w3).alloc _
  have hset := rbset_any (w := W5) (x := { f c with L := L' }) (v' := .slice av3 L'.length cv3) ((HH.out.quiet (hc3a.trans hc5)).mono (Q := fun k => P k ∨ w.heap.size ≤ k) (fun k hk _ => .inl hk)) (by have := hc3a.size; have := hc5.size; have := HD.out; omega) HN64.out HC0.out (hrt3.quiet hc5) hpo4
  rw [show ({ f c with L := L' } : Wh).now = nw from HNw.out.symm, ← hl3] at hset
  unfold rw7 at hset
  rw [hW5] at hset
  have HSet := Lib.hid hset
  rw [hW5] at hc5
  have HC5 := Lib.hid (hc3a.trans hc5)
  rw [← hl3]
  clear hrt3 hpo3 hpo4 hl3 hc3 c0 c1 hc3a hc5 hset hW5 W5
  go_frame
  go_wp2_with fail
  with_reducible refine HSet.out.mono ?_
  rintro e w6 ⟨cp6, g6, rfl, hrb6, hc6⟩
  go_frame
  go_wp2_with fail
  go_ret2
  refine ⟨_, rfl, hrb6.mono (fun k hk _ => ?_), HC5.out.trans hc6⟩
  have h1 := HC5.out.size
  rcases hk with h | ⟨h, -⟩
  · exact h
  · exact .inr (by omega)
theorem rbcatch_out (h : RB w D m n f P) {c : Int} (hr : c < 0 ∨ (n : Int) ≤ c) (x : Int) :
    Calls Tryz.prog 12 #[m, .int .i64 c, .int .u64 x] w fun e w' => e = .returned (.tuple #[m, .slice none 0 0]) ∧ w' = w := by
  obtain ⟨a, cap, rfl⟩ := h.form
  clear h
  by_cases h1 : c < 0
  · have d1 : decide (c < 0) = true := decide_eq_true h1
    clear hr h1
    go_enter Tryz.func12, Tryz.ntmps12
    go_wp2
    go_ret2
    exact ⟨rfl, rfl⟩
  · have d1 : decide (c < 0) = false := decide_eq_false h1
    have d2 : decide (c ≥ (n : Int)) = true := decide_eq_true (by omega)
    clear hr h1
    go_enter Tryz.func12, Tryz.ntmps12
    go_wp2
    go_ret2
    exact ⟨rfl, rfl⟩
set_option maxRecDepth 100000 in
set_option maxHeartbeats 2000000 in
theorem rbcatch_in (h : RB w D m n f P) (hD : D ≤ w.heap.size) (hn : n ≤ 64) {c : Nat} (hc : c < n) (x : Int) {now' : Int} {L' : List Tm} {xs : List Int}
    (hP : ∀ v, RT w D v (f c).L → Calls Tryz.prog 33 #[rw7 (f c).now v, .int .u64 x] w fun e w' => ∃ v' r, e = .returned (.tuple #[rw7 now' v', r]) ∧ RT w' D v' L' ∧ (v' = v ∨ ∀ g, v'.ownBlock = some g → w.heap.size ≤ g) ∧ w'.ownsRow w.heap.size 3 1 r xs.length (xs.map iv) ∧ Ch [] w w') :
    Calls Tryz.prog 12 #[m, .int .i64 (c : Int), .int .u64 x] w fun e w' => ∃ m' r, e = .returned (.tuple #[m', r]) ∧
      RB w' D m' n (updW f c { f c with now := now', L := L' }) (fun k => P k ∨ w.heap.size ≤ k) ∧ w'.ownsRow w.heap.size 3 1 r xs.length (xs.map iv) ∧ Ch [] w w' := by
  obtain ⟨gb, cap, av, lc, cc, rfl, hPg, hgl, c0, c1, hlc, hrt⟩ := h.at hc
  have HH := Lib.hid h
  have HC0 := Lib.hid hc
  have HD := Lib.hid hD
  have HN64 := Lib.hid hn
  have HPo := Lib.hid (h.vOwn (Ch.refl [] w) rfl hc c1)
  have hc0 : (0 : Int) ≤ (c : Int) := by omega
  have hc1 : (c : Int) < (n : Int) := by omega
  have d1 : decide ((c : Int) < 0) = false := decide_eq_false (by omega)
  obtain ⟨nw, hnw⟩ : ∃ x, x = (f c).now := ⟨_, rfl⟩
  have hpu := hP _ hrt
  rw [← hnw] at hpu c0
  unfold rw7 at hpu
  have HPu := Lib.hid hpu
  clear h hc hP hD hnw hn hpu hPg hgl hlc hrt
  go_enter Tryz.func12, Tryz.ntmps12
  go_wp2_with fail
  with_reducible refine HPu.out.mono ?_
  rintro e w3 ⟨v', r, rfl, hrt3, hpo3, hr3, hc3⟩
  obtain ⟨av3, cv3, rfl⟩ := own_form hrt3
  obtain ⟨ar, cr, rfl⟩ := own_form hr3
  obtain ⟨l3, hl3⟩ : ∃ l, l = L'.length := ⟨_, rfl⟩
  have hpo4 : ∀ g, (Value.slice av3 L'.length cv3).ownBlock = some g → P g ∨ w.heap.size ≤ g := fun g hg => by
    rcases hpo3 with e | h3
    · exact .inl (HPo.out g (e ▸ hg)).1
    · exact .inr (h3 g hg)
  obtain ⟨W5, hW5⟩ : ∃ W, W = w3.alloc (.cells #[.int .u64 now', .slice av3 l3 cv3] 58) := ⟨_, rfl⟩
  have hc5 : Ch [] w3 W5 := by rw [hW5]; exact (Ch.refl [] w3).alloc _
  have hset := rbset_any (w := W5) (x := { f c with now := now', L := L' }) (v' := .slice av3 L'.length cv3) ((HH.out.quiet (hc3.trans hc5)).mono (Q := fun k => P k ∨ w.heap.size ≤ k) (fun k hk _ => .inl hk)) (by have := hc3.size; have := hc5.size; have := HD.out; omega) HN64.out HC0.out (hrt3.quiet hc5) hpo4
  rw [← hl3] at hset
  unfold rw7 at hset
  rw [hW5] at hset
  have HSet := Lib.hid hset
  rw [hW5] at hc5
  have HC5 := Lib.hid (hc3.trans hc5)
  have HR5 := Lib.hid (own_ch hr3 hc5 (by simp))
  rw [← hl3]
  clear hrt3 hpo3 hpo4 hl3 hc3 c0 c1 hc5 hset hW5 W5 hr3
  go_frame
  go_wp2_with fail
  with_reducible refine HSet.out.mono ?_
  rintro e w6 ⟨cp6, g6, rfl, hrb6, hc6⟩
  go_frame
  go_wp2_with fail
  go_ret2
  refine ⟨_, _, rfl, hrb6.mono (fun k hk _ => ?_), own_ch HR5.out hc6 (by simp), HC5.out.trans hc6⟩
  have h1 := HC5.out.size
  rcases hk with h | ⟨h, -⟩
  · exact h
  · exact .inr (by omega)
end
end Go.Proofs.YtnndofeomakpiaaGreatDoor
