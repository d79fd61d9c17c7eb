/-
  The chapter's example.
-/
import Derived.Test.YtlffcccicpdnfaaFrI
namespace Go.Proofs.Ytlffcccicpdnfaa
open Go.RowKit Go.BigFrame

attribute [local go_sem] Oper.semAt_some

theorem sumV_fw {F : FV} (h : FW F) (x : I5) : FW (sumV F x).1 := by
  unfold sumV
  split
  · exact h.upd _ (oth_fw h x 12)
  · split
    · exact h
    · exact h.upd _ (show W64 (num _).n from doV_lt _ (h _) (oth_fw h x 12))
theorem fdo_fw {F : FV} (h : FW F) (x : I5) : FW (fdo F x).1 := by
  unfold fdo
  split
  · exact h
  · split
    · exact sumV_fw h x
    · split
      · split
        · exact h.upd _ (h _)
        · exact h
      · split
        · split
          · exact h.upd _ (h _)
          · exact h
        · exact h
theorem updL_fw (L : List V5) (F : FV) (k : Nat) (h : FW F) (hL : ∀ x ∈ L, W64 x.n) : FW (updL F k L) := updL_ref (fun x => W64 x.n) L F k h hL

def eFA : FV := updL F0 1 [num 5]
def eFB : FV := updL F0 1 [refTo 1 0 1]
def eAdd : I5 := ⟨0, 1, 0, 0, 2⟩
def eMov : I5 := ⟨27, 2, 1, 0, 0⟩
def eJne : I5 := ⟨34, 2, 0, 3, 0⟩
theorem eA : (fdo eFA eAdd).2 = 0 ∧ (fdo eFA eAdd).1 1 = num 7 := by decide +kernel
theorem eB : (fdo eFB eAdd).2 = 17 ∧ (fdo (fdo eFB eAdd).1 eMov).2 = 0 ∧ (fdo (fdo eFB eAdd).1 eMov).1 2 = refTo 1 0 1 ∧ fjp (fdo (fdo eFB eAdd).1 eMov).1 eJne = (true, 0) := by decide +kernel
theorem eFit (x : I5) (h : x = eAdd ∨ x = eMov ∨ x = eJne) : Fit x := by
  rcases h with rfl | rfl | rfl <;> exact ⟨by unfold fit; decide, by unfold fit; decide, by unfold fit; decide, by unfold fit; decide, by unfold fit; decide⟩
theorem at5_new1 (w : World) (x : V5) (t : TypeId) : ∀ i (hi : i < [x].length), At5 (w.alloc (.cells #[.bool x.r, .int .i64 x.m, .int .i64 x.s, .int .i64 x.g, .int .u64 (x.n : Int)] t)) w.heap.size (0 + i * 5) [x][i] := by
  intro i hi
  obtain rfl : i = 0 := by simpa using hi
  exact (B5.new w x t).a
theorem new_one {w : World} {b : Nat} {x : V5} (h : At5 w b 0 x) :
    Calls Try.prog 7 #[.slice (some ⟨b, 0, none⟩) 1 1] w fun e w' => e = .returned (.tuple #[.pointer (some ⟨w.heap.size, 0, none⟩), .int .i64 0]) ∧ FR w' w.heap.size (updL F0 1 [x]) ∧ Ch [] w w' :=
  new_any (n := 1) (cap := 1) (L := [x]) rfl (by decide) (.inr ⟨b, 0, rfl, fun i hi => by
    obtain rfl : i = 0 := by simpa using hi
    exact h⟩) (fun e => by cases e)

set_option maxRecDepth 10000 in
set_option maxHeartbeats 4000000 in
theorem known18 (w : World) : Calls Try.prog 15 #[] w fun e w' => e = .returned (.bool true) ∧ Ch [] w w' := by
  obtain ⟨x5, h5⟩ : ∃ x, num 5 = x := ⟨_, rfl⟩
  obtain ⟨x7, h7⟩ : ∃ x, num 7 = x := ⟨_, rfl⟩
  obtain ⟨xr, hxr⟩ : ∃ x, refTo 1 0 1 = x := ⟨_, rfl⟩
  obtain ⟨FA, hFA⟩ : ∃ x, eFA = x := ⟨_, rfl⟩
  obtain ⟨FB, hFB⟩ : ∃ x, eFB = x := ⟨_, rfl⟩
  obtain ⟨FA1, hFA1⟩ : ∃ x, (fdo eFA eAdd).1 = x := ⟨_, rfl⟩
  obtain ⟨FB1, hFB1⟩ : ∃ x, (fdo eFB eAdd).1 = x := ⟨_, rfl⟩
  obtain ⟨FB2, hFB2⟩ : ∃ x, (fdo (fdo eFB eAdd).1 eMov).1 = x := ⟨_, rfl⟩
  have wA : FW eFA := updL_fw _ _ _ FW0 (by intro x hx; obtain rfl : x = num 5 := (by simpa using hx); decide)
  have wB : FW eFB := updL_fw _ _ _ FW0 (by intro x hx; obtain rfl : x = refTo 1 0 1 := (by simpa using hx); decide)
  have HN5 := Lib.hid (fun W => show Calls Try.prog 9 #[.int .u64 5] W fun e w' => e = .returned (.agg #[.bool x5.r, .int .i64 x5.m, .int .i64 x5.s, .int .i64 x5.g, .int .u64 (x5.n : Int)]) ∧ Ch [] W w' from by rw [← h5]; exact num_any 5 W)
  have HN7 := Lib.hid (fun W => show Calls Try.prog 9 #[.int .u64 7] W fun e w' => e = .returned (.agg #[.bool x7.r, .int .i64 x7.m, .int .i64 x7.s, .int .i64 x7.g, .int .u64 (x7.n : Int)]) ∧ Ch [] W w' from by rw [← h7]; exact num_any 7 W)
  have HRf := Lib.hid (fun W => show Calls Try.prog 32 #[.int .i64 1, .agg #[.int .i64 0, .int .i64 1]] W fun e w' => e = .returned (.agg #[.bool xr.r, .int .i64 xr.m, .int .i64 xr.s, .int .i64 xr.g, .int .u64 (xr.n : Int)]) ∧ Ch [] W w' from by rw [← hxr]; exact refto_any 1 0 1 W)
  have HNa := Lib.hid (fun W b (h : At5 W b 0 x5) => show Calls Try.prog 7 #[.slice (some ⟨b, 0, none⟩) 1 1] W fun e w' => e = .returned (.tuple #[.pointer (some ⟨W.heap.size, 0, none⟩), .int .i64 0]) ∧ FR w' W.heap.size FA ∧ Ch [] W w' from by have := new_one h; rw [← h5] at this; rw [← hFA]; exact this)
  have HNb := Lib.hid (fun W b (h : At5 W b 0 xr) => show Calls Try.prog 7 #[.slice (some ⟨b, 0, none⟩) 1 1] W fun e w' => e = .returned (.tuple #[.pointer (some ⟨W.heap.size, 0, none⟩), .int .i64 0]) ∧ FR w' W.heap.size FB ∧ Ch [] W w' from by have := new_one h; rw [← hxr] at this; rw [← hFB]; exact this)
  have HD1 := Lib.hid (fun W b (h : FR W b FA) => show Calls Try.prog 22 #[.pointer (some ⟨b, 0, none⟩), .agg #[.int .i64 0, .int .i64 1, .int .i64 0, .int .i64 0, .int .i64 2]] W fun e w' => e = .returned (.int .i64 0) ∧ FR w' b FA1 ∧ Ch [b] W w' from by
    have := fdo_any (hFA ▸ h) wA (eFit eAdd (.inl rfl)); rw [eA.1, hFA1] at this; exact this)
  have HD2 := Lib.hid (fun W b (h : FR W b FB) => show Calls Try.prog 22 #[.pointer (some ⟨b, 0, none⟩), .agg #[.int .i64 0, .int .i64 1, .int .i64 0, .int .i64 0, .int .i64 2]] W fun e w' => e = .returned (.int .i64 17) ∧ FR w' b FB1 ∧ Ch [b] W w' from by
    have := fdo_any (hFB ▸ h) wB (eFit eAdd (.inl rfl)); rw [eB.1, hFB1] at this; exact this)
  have HD3 := Lib.hid (fun W b (h : FR W b FB1) => show Calls Try.prog 22 #[.pointer (some ⟨b, 0, none⟩), .agg #[.int .i64 27, .int .i64 2, .int .i64 1, .int .i64 0, .int .i64 0]] W fun e w' => e = .returned (.int .i64 0) ∧ FR w' b FB2 ∧ Ch [b] W w' from by
    have := fdo_any (hFB1 ▸ h) (fdo_fw wB _) (eFit eMov (.inr (.inl rfl))); rw [eB.2.1, hFB2] at this; exact this)
  have HJ := Lib.hid (fun W b (h : FR W b FB2) => show Calls Try.prog 24 #[.pointer (some ⟨b, 0, none⟩), .agg #[.int .i64 34, .int .i64 2, .int .i64 0, .int .i64 3, .int .i64 0]] W fun e w' => e = .returned (.tuple #[.bool true, .int .i64 0]) ∧ Ch [] W w' from by
    have := fjp_any (hFB2 ▸ h) (fdo_fw (fdo_fw wB _) _) (eFit eJne (.inr (.inr rfl))); rw [eB.2.2.2] at this; exact this)
  have HG1 := Lib.hid (fun W b (h : FR W b FA1) => show Calls Try.prog 12 #[.pointer (some ⟨b, 0, none⟩), .int .i64 1] W fun e w' => e = .returned (.tuple #[.agg #[.bool x7.r, .int .i64 x7.m, .int .i64 x7.s, .int .i64 x7.g, .int .u64 (x7.n : Int)], .int .i64 0]) ∧ Ch [] W w' from by
    have := reg_in h (k := 1) (by decide); rw [← hFA1, eA.2, h7] at this; exact this)
  have HG2 := Lib.hid (fun W b (h : FR W b FB2) => show Calls Try.prog 12 #[.pointer (some ⟨b, 0, none⟩), .int .i64 2] W fun e w' => e = .returned (.tuple #[.agg #[.bool xr.r, .int .i64 xr.m, .int .i64 xr.s, .int .i64 xr.g, .int .u64 (xr.n : Int)], .int .i64 0]) ∧ Ch [] W w' from by
    have := reg_in h (k := 2) (by decide); rw [← hFB2, eB.2.2.1, hxr] at this; exact this)
  have E1 := Lib.hid (fun W => by have := eq_fv x7 x7 W; rw [eqV_self] at this; exact this)
  have E2 := Lib.hid (fun W => by have := eq_fv xr xr W; rw [eqV_self] at this; exact this)
  unfold vv at E1 E2
  have HXr := Lib.hid (show xr.r = true ∧ (xr.n : Int) = 1 from by rw [← hxr]; exact ⟨rfl, rfl⟩)
  clear h5 h7 hxr hFA hFB hFA1 hFB1 hFB2 wA wB
  go_enter Try.func15, Try.ntmps15
  go_wp2_with fail
  with_reducible refine (HN5.out _).mono ?_
  rintro e w1 ⟨rfl, hc1⟩
  obtain ⟨bf, hbf⟩ : ∃ b, (w1.alloc (.cells #[.bool x5.r, .int .i64 x5.m, .int .i64 x5.s, .int .i64 x5.g, .int .u64 (x5.n : Int)] 38)).heap.size = b := ⟨_, rfl⟩
  have hb1 : w.heap.size ≤ bf := by rw [← hbf]; have := hc1.size; simp; omega
  have HB1 := Lib.hid hb1
  have hA := HNa.out (w1.alloc (.cells #[.bool x5.r, .int .i64 x5.m, .int .i64 x5.s, .int .i64 x5.g, .int .u64 (x5.n : Int)] 38)) w1.heap.size (B5.new w1 x5 _).a
  rw [hbf] at hA
  have HA := Lib.hid hA
  have HC1 := Lib.hid (hc1.alloc (.cells #[.bool x5.r, .int .i64 x5.m, .int .i64 x5.s, .int .i64 x5.g, .int .u64 (x5.n : Int)] 38))
  clear hc1 hbf hA HNa HN5 hb1
  go_wp2_with fail
  with_reducible refine HA.out.mono ?_
  rintro e w2 ⟨rfl, hF2, hc2⟩
  have HF2 := Lib.hid hF2
  have HC2 := Lib.hid (HC1.out.trans hc2)
  obtain ⟨H, hH⟩ : ∃ b, w2.heap.size = b := ⟨_, rfl⟩
  have hHc : (w2.alloc (.cells #[.int .i64 0, .int .i64 1] 36)).cell? ⟨H, 0, none⟩ = some (.int .i64 0) ∧ (w2.alloc (.cells #[.int .i64 0, .int .i64 1] 36)).cell? ⟨H, 1, none⟩ = some (.int .i64 1) := by
    rw [← hH]; exact ⟨by rw [World.cell?_alloc_at _ _ _ _ rfl]; rfl, by rw [World.cell?_alloc_at _ _ _ _ rfl]; rfl⟩
  have HH := Lib.hid hH
  have HHb := Lib.hid (show H ≠ bf from by have := hF2.lt; omega)
  have HHc := Lib.hid hHc
  clear hF2 hc2 HA HC1 hHc hH
  go_wp2_with fail
  with_reducible refine (HRf.out _).mono ?_
  rintro e w3 ⟨rfl, hc3⟩
  rw [HH.out]
  have HC3 := Lib.hid ((HC2.out.alloc _).trans hc3)
  have HF3 := Lib.hid ((HF2.out.quiet ((Ch.refl [] _).alloc _)).quiet hc3)
  have HH3 := Lib.hid (And.intro ((hc3.cell (cell_lt HHc.out.1) (by simp)).trans HHc.out.1) ((hc3.cell (cell_lt HHc.out.2) (by simp)).trans HHc.out.2))
  obtain ⟨bg, hbg⟩ : ∃ b, (w3.alloc (.cells #[.bool xr.r, .int .i64 xr.m, .int .i64 xr.s, .int .i64 xr.g, .int .u64 (xr.n : Int)] 38)).heap.size = b := ⟨_, rfl⟩
  have hb2 : w.heap.size ≤ bg ∧ bf ≠ bg ∧ H ≠ bg := by
    have := HC3.out.size; have := HF3.out.lt; have := cell_lt HH3.out.1; rw [← hbg]; simp at *; omega
  have HB2 := Lib.hid hb2
  have hA := HNb.out (w3.alloc (.cells #[.bool xr.r, .int .i64 xr.m, .int .i64 xr.s, .int .i64 xr.g, .int .u64 (xr.n : Int)] 38)) w3.heap.size (B5.new w3 xr _).a
  rw [hbg] at hA
  have HA := Lib.hid hA
  clear hc3 hbg hb2 hA HF2 HC2 HH HHc HNb
  go_wp2_with fail
  with_reducible refine HA.out.mono ?_
  rintro e w4 ⟨rfl, hF4, hc4⟩
  have HC4 := Lib.hid ((HC3.out.alloc _).trans hc4)
  have hc34 := ((Ch.refl [] w3).alloc _).trans hc4
  have HH4 := Lib.hid (And.intro ((hc34.cell (cell_lt HH3.out.1) (by simp)).trans HH3.out.1) ((hc34.cell (cell_lt HH3.out.2) (by simp)).trans HH3.out.2))
  have HG4 := Lib.hid hF4
  have HA := Lib.hid (HD1.out w4 bf (HF3.out.quiet hc34))
  clear hF4 hc4 hc34 HF3 HC3 HH3 HD1
  go_wp2_with fail
  with_reducible refine HA.out.mono ?_
  rintro e w5 ⟨rfl, hF5, hc5⟩
  have HC5 := Lib.hid (HC4.out.fresh hc5 (by have := HB1.out; simp; omega))
  have HH5 := Lib.hid (And.intro ((hc5.cell (cell_lt HH4.out.1) (by have := HHb.out; simp; omega)).trans HH4.out.1) ((hc5.cell (cell_lt HH4.out.2) (by have := HHb.out; simp; omega)).trans HH4.out.2))
  have HF5 := Lib.hid hF5
  have HA := Lib.hid (HD2.out w5 bg (HG4.out.ch hc5 (by have := HB2.out; simp; omega)))
  clear hF5 hc5 HD2 HG4 HC4 HH4
  go_wp2_with fail
  with_reducible refine HA.out.mono ?_
  rintro e w6 ⟨rfl, hG6, hc6⟩
  have HC6 := Lib.hid (HC5.out.fresh hc6 (by have := HB2.out; simp; omega))
  have HH6 := Lib.hid (And.intro ((hc6.cell (cell_lt HH5.out.1) (by have := HB2.out; simp; omega)).trans HH5.out.1) ((hc6.cell (cell_lt HH5.out.2) (by have := HB2.out; simp; omega)).trans HH5.out.2))
  have HF6 := Lib.hid (HF5.out.ch hc6 (by have := HB2.out; simp; omega))
  have HA := Lib.hid (HD3.out w6 bg hG6)
  clear hG6 hc6 HD3 HF5 HC5 HH5
  go_wp2_with fail
  with_reducible refine HA.out.mono ?_
  rintro e w7 ⟨rfl, hG7, hc7⟩
  have HC7 := Lib.hid (HC6.out.fresh hc7 (by have := HB2.out; simp; omega))
  have HH7 := Lib.hid (And.intro ((hc7.cell (cell_lt HH6.out.1) (by have := HB2.out; simp; omega)).trans HH6.out.1) ((hc7.cell (cell_lt HH6.out.2) (by have := HB2.out; simp; omega)).trans HH6.out.2))
  have HG7 := Lib.hid hG7
  have HA := Lib.hid (HG1.out w7 bf (HF6.out.ch hc7 (by have := HB2.out; simp; omega)))
  clear hG7 hc7 HF6 HC6 HH6 HG1
  go_wp2_with fail
  with_reducible refine HA.out.mono ?_
  rintro e w8 ⟨rfl, hc8⟩
  have HC8 := Lib.hid (HC7.out.trans (hc8.alloc (.cells #[.bool x7.r, .int .i64 x7.m, .int .i64 x7.s, .int .i64 x7.g, .int .u64 (x7.n : Int)] 38)))
  have HX8 := Lib.hid (B5.new w8 x7 38)
  have h78 := hc8.alloc (.cells #[.bool x7.r, .int .i64 x7.m, .int .i64 x7.s, .int .i64 x7.g, .int .u64 (x7.n : Int)] 38)
  have HH8 := Lib.hid (And.intro ((h78.cell (cell_lt HH7.out.1) (by simp)).trans HH7.out.1) ((h78.cell (cell_lt HH7.out.2) (by simp)).trans HH7.out.2))
  have HG8 := Lib.hid (HG7.out.quiet h78)
  obtain ⟨X, hX⟩ : ∃ b, w8.heap.size = b := ⟨_, rfl⟩
  have HX := Lib.hid hX
  rw [hX] at HX8
  have HA := Lib.hid (HG2.out (w8.alloc (.cells #[.bool x7.r, .int .i64 x7.m, .int .i64 x7.s, .int .i64 x7.g, .int .u64 (x7.n : Int)] 38)) bg HG8.out)
  clear hc8 h78 HC7 HG7 HH7 HG2 hX
  go_wp2_with fail
  with_reducible refine HA.out.mono ?_
  rintro e w9 ⟨rfl, hc9⟩
  rw [HX.out]
  have HC9 := Lib.hid (HC8.out.trans (hc9.alloc (.cells #[.bool xr.r, .int .i64 xr.m, .int .i64 xr.s, .int .i64 xr.g, .int .u64 (xr.n : Int)] 38)))
  have HX9 := Lib.hid (HX8.out.quiet (hc9.alloc (.cells #[.bool xr.r, .int .i64 xr.m, .int .i64 xr.s, .int .i64 xr.g, .int .u64 (xr.n : Int)] 38)))
  have HY9 := Lib.hid (B5.new w9 xr 38)
  have h89 := hc9.alloc (.cells #[.bool xr.r, .int .i64 xr.m, .int .i64 xr.s, .int .i64 xr.g, .int .u64 (xr.n : Int)] 38)
  have HH9 := Lib.hid (And.intro ((h89.cell (cell_lt HH8.out.1) (by simp)).trans HH8.out.1) ((h89.cell (cell_lt HH8.out.2) (by simp)).trans HH8.out.2))
  have HA := Lib.hid (HJ.out (w9.alloc (.cells #[.bool xr.r, .int .i64 xr.m, .int .i64 xr.s, .int .i64 xr.g, .int .u64 (xr.n : Int)] 38)) bg (HG8.out.quiet h89))
  obtain ⟨Y, hY⟩ : ∃ b, w9.heap.size = b := ⟨_, rfl⟩
  have HY := Lib.hid hY
  rw [hY] at HY9
  clear hc9 h89 HC8 HG8 HH8 HX8 HJ hY
  go_wp2_with fail
  with_reducible refine HA.out.mono ?_
  rintro e w10 ⟨rfl, hc10⟩
  rw [HY.out]
  have HC10 := Lib.hid (HC9.out.trans hc10)
  have HX10 := Lib.hid (HX9.out.quiet hc10)
  have HY10 := Lib.hid (HY9.out.quiet hc10)
  have HH10 := Lib.hid (And.intro ((hc10.cell (cell_lt HH9.out.1) (by simp)).trans HH9.out.1) ((hc10.cell (cell_lt HH9.out.2) (by simp)).trans HH9.out.2))
  clear hc10 HC9 HX9 HY9 HH9
  obtain ⟨Gt, f', hf1, hf2⟩ := worlds_of w10
  have hx0 : ∀ g : Gt, (f' g).cell? ⟨X, 0, none⟩ = some (.bool x7.r) := fun g => (HX10.out.quiet (hf1 g)).a.c0
  have hx1 : ∀ g : Gt, (f' g).cell? ⟨X, 1, none⟩ = some (.int .i64 x7.m) := fun g => (HX10.out.quiet (hf1 g)).a.c1
  have hx2 : ∀ g : Gt, (f' g).cell? ⟨X, 2, none⟩ = some (.int .i64 x7.s) := fun g => (HX10.out.quiet (hf1 g)).a.c2
  have hx3 : ∀ g : Gt, (f' g).cell? ⟨X, 3, none⟩ = some (.int .i64 x7.g) := fun g => (HX10.out.quiet (hf1 g)).a.c3
  have hx4 : ∀ g : Gt, (f' g).cell? ⟨X, 4, none⟩ = some (.int .u64 (x7.n : Int)) := fun g => (HX10.out.quiet (hf1 g)).a.c4
  have hy0 : ∀ g : Gt, (f' g).cell? ⟨Y, 0, none⟩ = some (.bool xr.r) := fun g => (HY10.out.quiet (hf1 g)).a.c0
  have hy1 : ∀ g : Gt, (f' g).cell? ⟨Y, 1, none⟩ = some (.int .i64 xr.m) := fun g => (HY10.out.quiet (hf1 g)).a.c1
  have hy2 : ∀ g : Gt, (f' g).cell? ⟨Y, 2, none⟩ = some (.int .i64 xr.s) := fun g => (HY10.out.quiet (hf1 g)).a.c2
  have hy3 : ∀ g : Gt, (f' g).cell? ⟨Y, 3, none⟩ = some (.int .i64 xr.g) := fun g => (HY10.out.quiet (hf1 g)).a.c3
  have hy4 : ∀ g : Gt, (f' g).cell? ⟨Y, 4, none⟩ = some (.int .u64 (xr.n : Int)) := fun g => (HY10.out.quiet (hf1 g)).a.c4
  have hh0 : ∀ g : Gt, (f' g).cell? ⟨H, 0, none⟩ = some (.int .i64 0) := fun g => ((hf1 g).cell (cell_lt HH10.out.1) (by simp)).trans HH10.out.1
  have hh1 : ∀ g : Gt, (f' g).cell? ⟨H, 1, none⟩ = some (.int .i64 1) := fun g => ((hf1 g).cell (cell_lt HH10.out.2) (by simp)).trans HH10.out.2
  have hne : Nonempty Gt := ⟨(hf2 w10 (Ch.refl _ _)).choose⟩
  have HX1 := Lib.hid hf1
  have HX2 := Lib.hid hf2
  have HQ := Ch.refl [] w10
  have e1 := E1.out
  have e2 := E2.out
  obtain ⟨hr1, hr2⟩ := HXr.out
  clear hf1 hf2
  go_wp2_with fail
  refine wp_region_worlds f' (by kernel_rfl) (by kernel_rfl) (HX2.out _ HQ.drew) ?_
  repeat (go_big_quiet_step (first
    | (with_reducible refine (HN7.out _).mono ?_; rintro r w' ⟨rfl, hcw⟩; exact ⟨rfl, HX2.out w' ((HX1.out _).trans hcw)⟩)
    | (with_reducible refine (HRf.out _).mono ?_; rintro r w' ⟨rfl, hcw⟩; exact ⟨rfl, HX2.out w' ((HX1.out _).trans hcw)⟩)))
  refine wpQuiet_nil ?_
  rintro _ ⟨gz, rfl⟩
  have HZ := Lib.hid (HC10.out.trans (HX1.out gz))
  generalize f' gz = wz at *
  clear hx0 hx1 hx2 hx3 hx4 hy0 hy1 hy2 hy3 hy4 hh0 hh1 hne HQ e1 e2
  go_wp2
  go_ret
  exact ⟨rfl, HZ.out⟩
end Go.Proofs.Ytlffcccicpdnfaa
