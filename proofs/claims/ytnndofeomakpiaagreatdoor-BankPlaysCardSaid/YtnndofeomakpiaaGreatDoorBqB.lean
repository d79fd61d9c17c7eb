/-
  The document's answer for the bank: Set, New.
-/
import Derived.Test.YtnndofeomakpiaaGreatDoorBqA
namespace Go.Proofs.YtnndofeomakpiaaGreatDoor
open Go.RowKit Go.Maps

attribute [local go_sem] Oper.semAt_some

set_option maxRecDepth 100000 in
set_option maxHeartbeats 1000000 in
theorem rbset_any {w : World} {D n : Nat} {m : Value} {f : Nat → Wh} {P : Nat → Prop} (h : RB w D m n f P) (hD : D ≤ w.heap.size) (hn : n ≤ 64) {c : Nat} (hc : c < n) {x : Wh} {v' : Value} (hv : RT w D v' x.L) (hP : ∀ g, v'.ownBlock = some g → P g) :
    Calls Tryz.prog 26 #[m, .int .i64 (c : Int), rw7 x.now v'] w fun e w' => ∃ cp g, e = .returned (.slice (some ⟨g, 0, none⟩) n cp) ∧ RB w' D (.slice (some ⟨g, 0, none⟩) n cp) n (updW f c x) (fun k => P k ∨ (w.heap.size ≤ k ∧ k < w'.heap.size)) ∧ Ch [] w w' := by
  obtain ⟨a, cap, rfl⟩ := h.form
  obtain ⟨i0, hI, hz0, hz1, hz2⟩ := info_parts infoW
  obtain ⟨vs, hrow, hvs⟩ := h.row
  obtain ⟨av, cv, hvf⟩ := own_form hv
  obtain ⟨nx, hnx⟩ : ∃ y, y = x.now := ⟨_, rfl⟩
  obtain ⟨lx, hlx⟩ : ∃ y, y = x.L.length := ⟨_, rfl⟩
  have hone := wcl_one n f vs (fun i hi => by obtain ⟨a', c', e⟩ := own_form (hvs i hi).1; rw [e]; rfl)
  have hrow2 := hrow
  obtain ⟨R, hR⟩ : ∃ R, R = wcl n f vs := ⟨_, rfl⟩
  have hRl : R.length = n * 2 := by rw [hR]; exact wcl_len n f vs
  rw [← hR] at hrow2 hone
  have HOne := Lib.hid hone
  have HH := Lib.hid h
  have HRow := Lib.hid hrow2
  have HVs := Lib.hid hvs
  have HV := Lib.hid hv
  have HP := Lib.hid hP
  have HR := Lib.hid hR
  have HC := Lib.hid hc
  have HD := Lib.hid hD
  have HVf := Lib.hid hvf
  have HNx := Lib.hid hnx
  have HLx := Lib.hid hlx
  have hlt : (c : Int) < (n : Int) := by omega
  have hc0 : (0 : Int) ≤ (c : Int) := by omega
  have hbx := BoxN.new w [.int .u64 nx, .slice av lx cv] 58
  have hal := (Ch.refl [] w).alloc (.cells #[.int .u64 nx, .slice av lx cv] 58)
  rw [hvf, ← hnx, ← hlx]
  have HBx := Lib.hid hbx
  have HAl := Lib.hid hal
  clear h hrow hrow2 hvs hv hP hR hone hc hD hvf hnx hlx hbx hal
  unfold rw7
  go_enter Tryz.func26, Tryz.ntmps26
  go_upto_region 1 with (fail)
  obtain ⟨w6, hw6⟩ : ∃ W, W = w.alloc (.cells #[.int .u64 nx, .slice av lx cv] 58) := ⟨_, rfl⟩
  rw [← hw6] at HBx HAl ⊢
  clear hw6
  go_wp2_with (at_builtin; go_must (refine wpList_append_row rfl _ _ 30 rfl w6.heap.size 58 i0 (.agg #[.int .u64 0, .slice none 0 0]) 2 32 Tryz.underlying30 hI hz0 hz1 hz2 rfl (by decide) (.slice (some ⟨w6.heap.size, 0, none⟩) 0 0) 0 [] rfl ?c0 ?c1 D (.slice a n cap) n R rfl ?c2 HOne.out ?c3 ?c4 ?c5 ?_))
  case c0 => exact World.ownsRow_lit w6 #[] 0 (by simp) (Nat.zero_le _) rfl
  case c1 => intro e; cases e
  case c2 => exact World.ownsRow.alloc (own_ch HRow.out HAl.out (by simp)) (.cells #[] 58)
  case c3 => unfold maxLen; omega
  case c4 => omega
  case c5 => simp
  intro v1 w7 hown1 hgrow1 hne1
  obtain ⟨g, cp, rfl⟩ := own_some hown1 hne1
  have hown2 : w7.ownsRow w6.heap.size 58 2 (.slice (some ⟨g, 0, none⟩) n cp) n R := by simpa using hown1
  have hg1 : w6.heap.size ≤ g := (hown2.lt g rfl).1
  have hgl : g < w7.heap.size := (hown2.lt g rfl).2
  have hc7 : Ch [] w6 w7 := ((Ch.refl [] w6).alloc (.cells #[] 58)).kept hgrow1 (fun r e => by simp [Value.ownBlock] at e; omega)
  have hb7 := HBx.out.quiet hc7
  obtain ⟨q0, -⟩ := hb7 0 _ rfl
  obtain ⟨q1, -⟩ := hb7 1 _ rfl
  have hcn := HC.out
  obtain ⟨y0, hy0⟩ : ∃ y, R[c * 2]? = some y := ⟨_, List.getElem?_eq_getElem (by omega)⟩
  obtain ⟨y1, hy1⟩ : ∃ y, R[c * 2 + 1]? = some y := ⟨_, List.getElem?_eq_getElem (by omega)⟩
  have k0 : w7.cell? ⟨g, c * 2, none⟩ = some y0 := by rw [hown2.cellAt (c * 2) (by omega)]; exact hy0
  have k1 : w7.cell? ⟨g, c * 2 + 1, none⟩ = some y1 := by rw [hown2.cellAt (c * 2 + 1) (by omega)]; exact hy1
  have f0 : w7.frozen? ⟨g, c * 2, none⟩ = false := World.ownsRow.frozenAt hown2 (c * 2)
  have f1 : w7.frozen? ⟨g, c * 2 + 1, none⟩ = false := World.ownsRow.frozenAt hown2 (c * 2 + 1)
  have HOwn := Lib.hid hown2
  have HC7 := Lib.hid (HAl.out.trans hc7)
  have HG := Lib.hid (And.intro hg1 hgl)
  have HW6 := Lib.hid (show w.heap.size ≤ w6.heap.size from HAl.out.size)
  clear hown1 hgrow1 hne1 hown2 hg1 hgl hc7 hb7 hy0 hy1 hcn
  go_wp2_with fail
  go_ret
  have hset := own_set (own_set HOwn.out (c * 2) (.int .u64 nx) (by have := HC.out; omega)) (c * 2 + 1) (.slice av lx cv) (by have := HC.out; omega)
  have hch : ChP (fun k => k = g) w7 ((w7.setCell ⟨g, c * 2, none⟩ (.int .u64 nx)).setCell ⟨g, c * 2 + 1, none⟩ (.slice av lx cv)) := ((ChP.refl _ w7).setCell (S := fun k => k = g) (p := ⟨g, c * 2, none⟩) (.inl rfl) _).setCell (p := ⟨g, c * 2 + 1, none⟩) (.inl rfl) _
  have hall : Ch [] w ((w7.setCell ⟨g, c * 2, none⟩ (.int .u64 nx)).setCell ⟨g, c * 2 + 1, none⟩ (.slice av lx cv)) := ((ChP.quiet (S := fun _ => False) HC7.out).fresh hch (fun k e => .inr (by have := HG.out.1; have := HW6.out; omega))).ch (fun _ => id)
  refine ⟨cp, g, rfl, ⟨⟨fun i => if i = c then .slice av lx cv else vs i, ?_, fun i hi => ?_⟩, fun g' hg' => ?_⟩, hall⟩
  · rw [← wcl_set n f vs HC.out, ← HR.out, ← HNx.out]
    exact own_mono hset (Nat.le_trans HD.out HW6.out)
  · by_cases e : i = c
    · subst e
      simp only [reduceIte]
      have he : Value.slice av lx cv = v' := by rw [HVf.out, HLx.out]
      have hq := HV.out.quiet hall
      rw [← he] at hq
      rw [updW_same]
      exact ⟨hq, fun g' hg' => .inl (HP.out g' (by rw [← he]; exact hg'))⟩
    · simp only [if_neg e]
      rw [updW_other f x e]
      exact ⟨(HVs.out i hi).1.quiet hall, fun g' hg' => .inl ((HVs.out i hi).2 g' hg')⟩
  · obtain rfl : g = g' := by simpa [Value.ownBlock] using hg'
    have h1 := hch.size
    have h2 := HG.out
    have h3 := HW6.out
    exact .inr ⟨by omega, by omega⟩
set_option maxRecDepth 100000 in
set_option maxHeartbeats 1000000 in
theorem rbnew_any {n : Nat} (hn : n ≤ 64) {now : Int} (w : World) (Bs : Nat → Nat) :
    Calls Tryz.prog 6 #[.int .i64 (n : Int), .int .u64 now] w fun e w' => ∃ m, e = .returned m ∧ RB w' w.heap.size m n (newW Bs now) (fun k => w.heap.size ≤ k ∧ k < w'.heap.size) ∧ Ch [] w w' := by
  obtain ⟨i0, hI, hz0, hz1, hz2⟩ := info_parts infoW
  have hbt : Tryz.prog.built 58 [(0, .int .u64 now)] = some #[.int .u64 now, .slice none 0 0] := by kernel_rfl
  go_enter Tryz.func6, Tryz.ntmps6
  go_wp2_with fail
  go_loopw [5, 6] (fun v ix wr => ∃ k : Nat, k ≤ n ∧ ix = .int .i64 (k : Int) ∧ wr.ownsRow w.heap.size 58 2 v k (wcl k (newW Bs now) (fun _ => .slice none 0 0)) ∧ Below w.heap.size w wr) (fun _ ix _ => n - (intOf ix).toNat)
  case atStart => exact ⟨0, Nat.zero_le _, rfl, World.ownsRow_nil _ _ _ _, Below.refl _ _⟩
  case round =>
    obtain ⟨k, hk, rfl, hrow, hbel⟩ := hrel
    obtain ⟨a, cp, rfl⟩ := own_form hrow
    by_cases hlt : k < n
    · have hlt' : (k : Int) < (n : Int) := by omega
      have HRow := Lib.hid hrow
      have HBel := Lib.hid hbel
      have HOne := Lib.hid (show ∀ u ∈ ([.int .u64 now, .slice none 0 0] : List Value), u.oneCell' = true from by simp [Value.oneCell'])
      clear hrow hbel
      go_wp2_with (at_builtin; refine wpList_append_own_at _ rfl _ _ 30 rfl w.heap.size 58 i0 (.agg #[.int .u64 0, .slice none 0 0]) 2 32 Tryz.underlying30 hI hz0 hz1 hz2 rfl (by decide) (.slice a k cp) k _ rfl (HRow.out.alloc _) ⟨wr.heap.size, 0, none⟩ 1 1 [.int .u64 now, .slice none 0 0] rfl rfl (cell_two_new wr (.int .u64 now) (.slice none 0 0) 58) HOne.out (by unfold maxLen; omega) (by omega) (by have := HBel.out.size; simp; omega) ?_; intro v' w8 hown8 hg8 hnil8 hat8; obtain ⟨a8, c8, rfl⟩ := own_form hown8; have HO8 := Lib.hid hown8; have HG8 := Lib.hid hg8; clear hown8 hg8 hnil8 hat8)
      go_roundw
      case rel => exact ⟨k + 1, by omega, by go_num, by rw [wcl_succ]; exact HO8.out, HBel.out.trans ((((ChP.refl (fun j => (Value.slice a k cp).ownBlock = some j) wr).alloc (.cells #[.int .u64 now, .slice none 0 0] 58)).trans (.grown HG8.out (fun r e => e))).below w.heap.size (fun j e => (HRow.out.lt j e).1) HBel.out.size)⟩
      case measure => simp [intOf]; omega
    · obtain rfl : k = n := by omega
      have HRow := Lib.hid hrow
      have HBel := Lib.hid hbel
      clear hrow hbel
      go_wp2_with fail
      go_ret
      exact ⟨_, rfl, ⟨⟨_, HRow.out, fun i _ => ⟨World.ownsRow_nil _ _ _ _, fun g hg => by simp [Value.ownBlock] at hg⟩⟩, fun g hg => HRow.out.lt g hg⟩, .of_below HBel.out⟩
end Go.Proofs.YtnndofeomakpiaaGreatDoor
