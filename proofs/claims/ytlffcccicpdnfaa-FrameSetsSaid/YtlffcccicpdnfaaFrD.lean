/-
  Registers and words: told and set; nil ones. (Written by gen/reg18.py.)
-/
import Derived.Test.YtlffcccicpdnfaaFrC
namespace Go.Proofs.Ytlffcccicpdnfaa
open Go.RowKit Go.BigFrame

attribute [local go_sem] Oper.semAt_some

theorem reg_in {w : World} {b : Nat} {F : FV} (h : FR w b F) {k : Nat} (hk : k < 10) :
    Calls Try.prog 12 #[.pointer (some ⟨b, 0, none⟩), .int .i64 (k : Int)] w fun e w' => e = .returned (.tuple #[vv (F k), .int .i64 0]) ∧ Ch [] w w' := by
  obtain ⟨w2, hw2⟩ : ∃ W, W = (w.alloc (.cells #[.bool false, .int .i64 0, .int .i64 0, .int .i64 0, .int .u64 0] 38)).alloc (.cells #[.bool false, .int .i64 0, .int .i64 0, .int .i64 0, .int .u64 0] 38) := ⟨_, rfl⟩
  have hc : Ch [] w w2 := by rw [hw2]; exact ((Ch.refl [] w).alloc _).alloc _
  have hX : B5 w2 (w.heap.size + 1) (num 0) := by have := B5.new (w.alloc (.cells #[.bool false, .int .i64 0, .int .i64 0, .int .i64 0, .int .u64 0] 38)) (num 0) 38; rw [World.size_alloc] at this; rw [hw2]; exact this
  have hY : B5 w2 w.heap.size (num 0) := by rw [hw2]; exact (B5.new w (num 0) 38).quiet ((Ch.refl [] _).alloc _)
  have hv := (h.quiet hc).reg hk
  have C := Lib.hid (with_getR (o := 0) (n := 10) (by first | (rw [Nat.zero_add]; exact hv) | exact hv) hX hk)
  have hne : w.heap.size ≠ w.heap.size + 1 := by omega
  have h3 := hX.set (F k)
  have hY3 := hY.ch (st5_ch w2 (w.heap.size + 1) 0 (F k)) (by simp)
  have hc3 := hc.fresh (st5_ch w2 (w.heap.size + 1) 0 (F k)) (by simp)
  generalize F k = x at *
  generalize st5 w2 (w.heap.size + 1) 0 x = w3 at *
  have hY4 := hY3.set x
  have HC4 := Lib.hid (hc3.fresh (st5_ch w3 w.heap.size 0 x) (by simp))
  have HW := Lib.hid hw2
  have HY4 := Lib.hid hY4
  obtain ⟨⟨x0, x1, x2, x3, x4⟩, -⟩ := h3
  obtain ⟨⟨y0, y1, y2, y3, y4⟩, yf⟩ := hY3
  clear h hk hv hX hY hc hc3 hw2 hY4 hne
  unfold vv
  go_enter Try.func12, Try.ntmps12
  go_wp2_with fail
  rw [← HW.out]
  with_reducible refine C.out.mono ?_
  rintro e w4 ⟨rfl, rfl⟩
  clear HW C
  go_wp2_with fail
  obtain ⟨⟨z0, z1, z2, z3, z4⟩, -⟩ := HY4.out
  unfold st5 at z0 z1 z2 z3 z4
  simp only [Nat.zero_add] at z0 z1 z2 z3 z4
  refine bodyPost_ret (v := .tuple #[.agg #[.bool x.r, .int .i64 x.m, .int .i64 x.s, .int .i64 x.g, .int .u64 (x.n : Int)], .int .i64 0]) ?_ rfl ?_
  · simp [results, Try.f12, go_sem, z0, z1, z2, z3, z4]
  · exact ⟨rfl, HC4.out⟩
theorem reg_out {w : World} (b : Nat) {k : Int} (hk : k < 0 ∨ 10 ≤ k) :
    Calls Try.prog 12 #[.pointer (some ⟨b, 0, none⟩), .int .i64 k] w fun e w' => e = .returned (.tuple #[vv (num 0), .int .i64 2]) ∧ Ch [] w w' := by
  obtain ⟨w2, hw2⟩ : ∃ W, W = (w.alloc (.cells #[.bool false, .int .i64 0, .int .i64 0, .int .i64 0, .int .u64 0] 38)).alloc (.cells #[.bool false, .int .i64 0, .int .i64 0, .int .i64 0, .int .u64 0] 38) := ⟨_, rfl⟩
  have hc : Ch [] w w2 := by rw [hw2]; exact ((Ch.refl [] w).alloc _).alloc _
  have h3 : B5 w2 (w.heap.size + 1) (num 0) := by have := B5.new (w.alloc (.cells #[.bool false, .int .i64 0, .int .i64 0, .int .i64 0, .int .u64 0] 38)) (num 0) 38; rw [World.size_alloc] at this; rw [hw2]; exact this
  have hY3 : B5 w2 w.heap.size (num 0) := by rw [hw2]; exact (B5.new w (num 0) 38).quiet ((Ch.refl [] _).alloc _)
  have C := Lib.hid (fun V => with_out b 0 10 hk V w2)
  have hY4 := hY3.set (num 0)
  generalize num 0 = x at *
  have HC4 := Lib.hid (hc.fresh (st5_ch w2 w.heap.size 0 x) (by simp))
  have HW := Lib.hid hw2
  have HY4 := Lib.hid hY4
  obtain ⟨⟨x0, x1, x2, x3, x4⟩, -⟩ := h3
  obtain ⟨⟨y0, y1, y2, y3, y4⟩, yf⟩ := hY3
  clear hk hc hw2 hY4
  unfold vv
  go_enter Try.func12, Try.ntmps12
  go_wp2_with fail
  rw [← HW.out]
  with_reducible refine (C.out _).mono ?_
  rintro e w4 ⟨rfl, rfl⟩
  clear HW C
  go_wp2_with fail
  obtain ⟨⟨z0, z1, z2, z3, z4⟩, -⟩ := HY4.out
  unfold st5 at z0 z1 z2 z3 z4
  simp only [Nat.zero_add] at z0 z1 z2 z3 z4
  refine bodyPost_ret (v := .tuple #[.agg #[.bool x.r, .int .i64 x.m, .int .i64 x.s, .int .i64 x.g, .int .u64 (x.n : Int)], .int .i64 2]) ?_ rfl ?_
  · simp [results, Try.f12, go_sem, z0, z1, z2, z3, z4]
  · exact ⟨rfl, HC4.out⟩
theorem reg_nil (k : Int) (w : World) :
    Calls Try.prog 12 #[.pointer none, .int .i64 k] w fun e w' => e = .returned (.tuple #[vv (num 0), .int .i64 6]) ∧ Ch [] w w' := by
  unfold vv
  go_enter Try.func12, Try.ntmps12
  go_wp2_with fail
  refine bodyPost_ret (v := .tuple #[.agg #[.bool false, .int .i64 0, .int .i64 0, .int .i64 0, .int .u64 0], .int .i64 6]) ?_ rfl ?_
  · simp [results, Try.f12, go_sem]
  · exact ⟨rfl, (Ch.refl [] _).alloc _⟩
theorem word_in {w : World} {b : Nat} {F : FV} (h : FR w b F) {k : Nat} (hk : k < 8) :
    Calls Try.prog 8 #[.pointer (some ⟨b, 0, none⟩), .int .i64 (k : Int)] w fun e w' => e = .returned (.tuple #[vv (F (10 + k)), .int .i64 0]) ∧ Ch [] w w' := by
  obtain ⟨w2, hw2⟩ : ∃ W, W = (w.alloc (.cells #[.bool false, .int .i64 0, .int .i64 0, .int .i64 0, .int .u64 0] 38)).alloc (.cells #[.bool false, .int .i64 0, .int .i64 0, .int .i64 0, .int .u64 0] 38) := ⟨_, rfl⟩
  have hc : Ch [] w w2 := by rw [hw2]; exact ((Ch.refl [] w).alloc _).alloc _
  have hX : B5 w2 (w.heap.size + 1) (num 0) := by have := B5.new (w.alloc (.cells #[.bool false, .int .i64 0, .int .i64 0, .int .i64 0, .int .u64 0] 38)) (num 0) 38; rw [World.size_alloc] at this; rw [hw2]; exact this
  have hY : B5 w2 w.heap.size (num 0) := by rw [hw2]; exact (B5.new w (num 0) 38).quiet ((Ch.refl [] _).alloc _)
  have hv := (h.quiet hc).word hk
  have C := Lib.hid (with_getW (o := 50) (n := 8) (by first | (rw [Nat.zero_add]; exact hv) | exact hv) hX hk)
  have hne : w.heap.size ≠ w.heap.size + 1 := by omega
  have h3 := hX.set (F (10 + k))
  have hY3 := hY.ch (st5_ch w2 (w.heap.size + 1) 0 (F (10 + k))) (by simp)
  have hc3 := hc.fresh (st5_ch w2 (w.heap.size + 1) 0 (F (10 + k))) (by simp)
  generalize F (10 + k) = x at *
  generalize st5 w2 (w.heap.size + 1) 0 x = w3 at *
  have hY4 := hY3.set x
  have HC4 := Lib.hid (hc3.fresh (st5_ch w3 w.heap.size 0 x) (by simp))
  have HW := Lib.hid hw2
  have HY4 := Lib.hid hY4
  obtain ⟨⟨x0, x1, x2, x3, x4⟩, -⟩ := h3
  obtain ⟨⟨y0, y1, y2, y3, y4⟩, yf⟩ := hY3
  clear h hk hv hX hY hc hc3 hw2 hY4 hne
  unfold vv
  go_enter Try.func8, Try.ntmps8
  go_wp2_with fail
  rw [← HW.out]
  with_reducible refine C.out.mono ?_
  rintro e w4 ⟨rfl, rfl⟩
  clear HW C
  go_wp2_with fail
  obtain ⟨⟨z0, z1, z2, z3, z4⟩, -⟩ := HY4.out
  unfold st5 at z0 z1 z2 z3 z4
  simp only [Nat.zero_add] at z0 z1 z2 z3 z4
  refine bodyPost_ret (v := .tuple #[.agg #[.bool x.r, .int .i64 x.m, .int .i64 x.s, .int .i64 x.g, .int .u64 (x.n : Int)], .int .i64 0]) ?_ rfl ?_
  · simp [results, Try.f8, go_sem, z0, z1, z2, z3, z4]
  · exact ⟨rfl, HC4.out⟩
theorem word_out {w : World} (b : Nat) {k : Int} (hk : k < 0 ∨ 8 ≤ k) :
    Calls Try.prog 8 #[.pointer (some ⟨b, 0, none⟩), .int .i64 k] w fun e w' => e = .returned (.tuple #[vv (num 0), .int .i64 2]) ∧ Ch [] w w' := by
  obtain ⟨w2, hw2⟩ : ∃ W, W = (w.alloc (.cells #[.bool false, .int .i64 0, .int .i64 0, .int .i64 0, .int .u64 0] 38)).alloc (.cells #[.bool false, .int .i64 0, .int .i64 0, .int .i64 0, .int .u64 0] 38) := ⟨_, rfl⟩
  have hc : Ch [] w w2 := by rw [hw2]; exact ((Ch.refl [] w).alloc _).alloc _
  have h3 : B5 w2 (w.heap.size + 1) (num 0) := by have := B5.new (w.alloc (.cells #[.bool false, .int .i64 0, .int .i64 0, .int .i64 0, .int .u64 0] 38)) (num 0) 38; rw [World.size_alloc] at this; rw [hw2]; exact this
  have hY3 : B5 w2 w.heap.size (num 0) := by rw [hw2]; exact (B5.new w (num 0) 38).quiet ((Ch.refl [] _).alloc _)
  have C := Lib.hid (fun V => with_out b 50 8 hk V w2)
  have hY4 := hY3.set (num 0)
  generalize num 0 = x at *
  have HC4 := Lib.hid (hc.fresh (st5_ch w2 w.heap.size 0 x) (by simp))
  have HW := Lib.hid hw2
  have HY4 := Lib.hid hY4
  obtain ⟨⟨x0, x1, x2, x3, x4⟩, -⟩ := h3
  obtain ⟨⟨y0, y1, y2, y3, y4⟩, yf⟩ := hY3
  clear hk hc hw2 hY4
  unfold vv
  go_enter Try.func8, Try.ntmps8
  go_wp2_with fail
  rw [← HW.out]
  with_reducible refine (C.out _).mono ?_
  rintro e w4 ⟨rfl, rfl⟩
  clear HW C
  go_wp2_with fail
  obtain ⟨⟨z0, z1, z2, z3, z4⟩, -⟩ := HY4.out
  unfold st5 at z0 z1 z2 z3 z4
  simp only [Nat.zero_add] at z0 z1 z2 z3 z4
  refine bodyPost_ret (v := .tuple #[.agg #[.bool x.r, .int .i64 x.m, .int .i64 x.s, .int .i64 x.g, .int .u64 (x.n : Int)], .int .i64 2]) ?_ rfl ?_
  · simp [results, Try.f8, go_sem, z0, z1, z2, z3, z4]
  · exact ⟨rfl, HC4.out⟩
theorem word_nil (k : Int) (w : World) :
    Calls Try.prog 8 #[.pointer none, .int .i64 k] w fun e w' => e = .returned (.tuple #[vv (num 0), .int .i64 6]) ∧ Ch [] w w' := by
  unfold vv
  go_enter Try.func8, Try.ntmps8
  go_wp2_with fail
  refine bodyPost_ret (v := .tuple #[.agg #[.bool false, .int .i64 0, .int .i64 0, .int .i64 0, .int .u64 0], .int .i64 6]) ?_ rfl ?_
  · simp [results, Try.f8, go_sem]
  · exact ⟨rfl, (Ch.refl [] _).alloc _⟩
theorem setreg_in {w : World} {b : Nat} {F : FV} (h : FR w b F) {k : Nat} (hk : k < 10) (x : V5) :
    Calls Try.prog 13 #[.pointer (some ⟨b, 0, none⟩), .int .i64 (k : Int), vv x] w fun e w' => e = .returned (.int .i64 0) ∧ FR w' b (upd F k x) ∧ Ch [b] w w' := by
  obtain ⟨w2, hw2⟩ : ∃ W, W = w.alloc (.cells #[.bool x.r, .int .i64 x.m, .int .i64 x.s, .int .i64 x.g, .int .u64 (x.n : Int)] 38) := ⟨_, rfl⟩
  have hc : Ch [] w w2 := by rw [hw2]; exact (Ch.refl [] w).alloc _
  have hX : B5 w2 w.heap.size x := by rw [hw2]; exact B5.new w x 38
  have h2 := h.quiet hc
  have hv := h2.reg hk
  have C0 := with_putR (o := 0) (n := 10) (by first | (rw [Nat.zero_add]; exact hv) | exact hv) h2.fr hX hk
  rw [Nat.zero_add] at C0
  have C := Lib.hid C0
  clear C0
  have HF := Lib.hid (show FR (st5 w2 b (k * 5) x) b (upd F k x) ∧ Ch [b] w (st5 w2 b (k * 5) x) from ⟨h2.set (k := k) (by omega) x, (hc.mono (by simp)).trans (st5_ch w2 b _ x)⟩)
  have HW := Lib.hid hw2
  clear h hk hv hX hc hw2 h2
  unfold vv
  go_enter Try.func13, Try.ntmps13
  go_wp2_with fail
  rw [← HW.out]
  with_reducible refine C.out.mono ?_
  rintro e w4 ⟨rfl, rfl⟩
  clear HW C
  go_wp2_with fail
  go_ret
  exact ⟨rfl, HF.out⟩
theorem setreg_out {w : World} (b : Nat) {k : Int} (hk : k < 0 ∨ 10 ≤ k) (x : V5) :
    Calls Try.prog 13 #[.pointer (some ⟨b, 0, none⟩), .int .i64 k, vv x] w fun e w' => e = .returned (.int .i64 2) ∧ Ch [] w w' := by
  have C := Lib.hid (fun V w => with_out b 0 10 hk V w)
  have HC := Lib.hid ((Ch.refl [] w).alloc (.cells #[.bool x.r, .int .i64 x.m, .int .i64 x.s, .int .i64 x.g, .int .u64 (x.n : Int)] 38))
  clear hk
  unfold vv
  go_enter Try.func13, Try.ntmps13
  go_wp2_with fail
  with_reducible refine (C.out _ _).mono ?_
  rintro e w4 ⟨rfl, rfl⟩
  clear C
  go_wp2_with fail
  go_ret
  exact ⟨rfl, HC.out⟩
theorem setreg_nil (k : Int) (x : V5) (w : World) :
    Calls Try.prog 13 #[.pointer none, .int .i64 k, vv x] w fun e w' => e = .returned (.int .i64 6) ∧ Ch [] w w' := by
  have HC := Lib.hid ((Ch.refl [] w).alloc (.cells #[.bool x.r, .int .i64 x.m, .int .i64 x.s, .int .i64 x.g, .int .u64 (x.n : Int)] 38))
  unfold vv
  go_enter Try.func13, Try.ntmps13
  go_wp2_with fail
  go_ret
  exact ⟨rfl, HC.out⟩
theorem setword_in {w : World} {b : Nat} {F : FV} (h : FR w b F) {k : Nat} (hk : k < 8) (x : V5) :
    Calls Try.prog 10 #[.pointer (some ⟨b, 0, none⟩), .int .i64 (k : Int), vv x] w fun e w' => e = .returned (.int .i64 0) ∧ FR w' b (upd F (10 + k) x) ∧ Ch [b] w w' := by
  obtain ⟨w2, hw2⟩ : ∃ W, W = w.alloc (.cells #[.bool x.r, .int .i64 x.m, .int .i64 x.s, .int .i64 x.g, .int .u64 (x.n : Int)] 38) := ⟨_, rfl⟩
  have hc : Ch [] w w2 := by rw [hw2]; exact (Ch.refl [] w).alloc _
  have hX : B5 w2 w.heap.size x := by rw [hw2]; exact B5.new w x 38
  have h2 := h.quiet hc
  have hv := h2.word hk
  have C0 := with_putW (o := 50) (n := 8) (by first | (rw [Nat.zero_add]; exact hv) | exact hv) h2.fr hX hk
  have C := Lib.hid C0
  clear C0
  have HF := Lib.hid (show FR (st5 w2 b (50 + k * 5) x) b (upd F (10 + k) x) ∧ Ch [b] w (st5 w2 b (50 + k * 5) x) from ⟨h2.setW hk x, (hc.mono (by simp)).trans (st5_ch w2 b _ x)⟩)
  have HW := Lib.hid hw2
  clear h hk hv hX hc hw2 h2
  unfold vv
  go_enter Try.func10, Try.ntmps10
  go_wp2_with fail
  rw [← HW.out]
  with_reducible refine C.out.mono ?_
  rintro e w4 ⟨rfl, rfl⟩
  clear HW C
  go_wp2_with fail
  go_ret
  exact ⟨rfl, HF.out⟩
theorem setword_out {w : World} (b : Nat) {k : Int} (hk : k < 0 ∨ 8 ≤ k) (x : V5) :
    Calls Try.prog 10 #[.pointer (some ⟨b, 0, none⟩), .int .i64 k, vv x] w fun e w' => e = .returned (.int .i64 2) ∧ Ch [] w w' := by
  have C := Lib.hid (fun V w => with_out b 50 8 hk V w)
  have HC := Lib.hid ((Ch.refl [] w).alloc (.cells #[.bool x.r, .int .i64 x.m, .int .i64 x.s, .int .i64 x.g, .int .u64 (x.n : Int)] 38))
  clear hk
  unfold vv
  go_enter Try.func10, Try.ntmps10
  go_wp2_with fail
  with_reducible refine (C.out _ _).mono ?_
  rintro e w4 ⟨rfl, rfl⟩
  clear C
  go_wp2_with fail
  go_ret
  exact ⟨rfl, HC.out⟩
theorem setword_nil (k : Int) (x : V5) (w : World) :
    Calls Try.prog 10 #[.pointer none, .int .i64 k, vv x] w fun e w' => e = .returned (.int .i64 6) ∧ Ch [] w w' := by
  have HC := Lib.hid ((Ch.refl [] w).alloc (.cells #[.bool x.r, .int .i64 x.m, .int .i64 x.s, .int .i64 x.g, .int .u64 (x.n : Int)] 38))
  unfold vv
  go_enter Try.func10, Try.ntmps10
  go_wp2_with fail
  go_ret
  exact ⟨rfl, HC.out⟩
end Go.Proofs.Ytlffcccicpdnfaa
