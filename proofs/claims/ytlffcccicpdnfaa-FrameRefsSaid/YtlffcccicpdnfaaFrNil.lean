/-
  FrameNil: the law's walk.
-/
import Derived.Test.YtlffcccicpdnfaaFrN
namespace Go.Proofs.Ytlffcccicpdnfaa
open Go.RowKit Go.BigFrame

attribute [local go_sem] Oper.semAt_some

set_option maxRecDepth 20000 in
set_option maxHeartbeats 16000000 in
theorem nil_law (at' : Int) (v : V5) (x : I5) (ba : Option Addr) (bl bc : Nat) (w : World) :
    Calls Try.prog 6 #[.int .i64 at', vv v, iv x, .slice ba bl bc] w fun e w' => e = .returned (.bool true) ∧ Ch [] w w' := by
  obtain ⟨z, hz⟩ : ∃ z, num 0 = z := ⟨_, rfl⟩
  have HN0 := Lib.hid (fun W => show Calls Try.prog 9 #[.int .u64 0] W fun e w' => e = .returned (vv z) ∧ Ch [] W w' from by rw [← hz]; exact num_any 0 W)
  have HRg := Lib.hid (fun W => show Calls Try.prog 12 #[.pointer none, .int .i64 at'] W fun e w' => e = .returned (.tuple #[vv z, .int .i64 6]) ∧ Ch [] W w' from by rw [← hz]; exact reg_nil at' W)
  have HWd := Lib.hid (fun W => show Calls Try.prog 8 #[.pointer none, .int .i64 at'] W fun e w' => e = .returned (.tuple #[vv z, .int .i64 6]) ∧ Ch [] W w' from by rw [← hz]; exact word_nil at' W)
  have HTo := Lib.hid (fun W => to5_any v W)
  have HSr := Lib.hid (fun W => setreg_nil at' v W)
  have HSw := Lib.hid (fun W => setword_nil at' v W)
  have HTi := Lib.hid (fun W => to_any x W)
  have HDo := Lib.hid (fun W => do_nil x W)
  have HJn := Lib.hid (fun W => jumps_nil x W)
  have HRd := Lib.hid (fun W => read_nil at' at' W)
  have HWr := Lib.hid (fun W => write_nil at' ba bl bc W)
  have HAr := Lib.hid (fun W => args_nil W)
  have HKn := Lib.hid (fun W => known18 W)
  have E1 := Lib.hid (fun W => by have := eq_fv z z W; rw [eqV_self] at this; exact this)
  have Hz := Lib.hid (show z.r = false ∧ z.m = 0 ∧ z.s = 0 ∧ z.g = 0 ∧ (z.n : Int) = 0 from by rw [← hz]; exact ⟨rfl, rfl, rfl, rfl, rfl⟩)
  obtain ⟨op, d, s, o, i⟩ := x
  unfold vv at *
  unfold iv at *
  simp only at *
  clear hz
  obtain ⟨w1, hw1⟩ : ∃ W, W = (w.alloc (.cells #[.bool v.r, .int .i64 v.m, .int .i64 v.s, .int .i64 v.g, .int .u64 (v.n : Int)] 29)).alloc (.cells #[.int .i64 op, .int .i64 d, .int .i64 s, .int .i64 o, .int .i64 i] 65) := ⟨_, rfl⟩
  have HC1 := Lib.hid (show Ch [] w w1 by rw [hw1]; exact ((Ch.refl [] w).alloc _).alloc _)
  have HV1 := Lib.hid (show B5 w1 w.heap.size v by rw [hw1]; exact (B5.new w v _).quiet ((Ch.refl [] _).alloc _))
  have HX1 := Lib.hid (show Five w1 (w.heap.size + 1) ⟨op, d, s, o, i⟩ by have := Five.new (w.alloc (.cells #[.bool v.r, .int .i64 v.m, .int .i64 v.s, .int .i64 v.g, .int .u64 (v.n : Int)] 29)) ⟨op, d, s, o, i⟩ 65; rw [World.size_alloc] at this; rw [hw1]; exact this)
  have HW1 := Lib.hid hw1
  clear hw1
  go_enter Try.func6, Try.ntmps6
  go_wp2_with fail
  rw [← HW1.out]
  with_reducible refine (HRg.out _).mono ?_
  rintro e w2 ⟨rfl, hc2⟩
  have HC2 := Lib.hid (HC1.out.trans (hc2.alloc (.cells #[.bool z.r, .int .i64 z.m, .int .i64 z.s, .int .i64 z.g, .int .u64 (z.n : Int)] 38)))
  have HV2 := Lib.hid (HV1.out.quiet (hc2.alloc (.cells #[.bool z.r, .int .i64 z.m, .int .i64 z.s, .int .i64 z.g, .int .u64 (z.n : Int)] 38)))
  have HX2 := Lib.hid (HX1.out.ch (hc2.alloc (.cells #[.bool z.r, .int .i64 z.m, .int .i64 z.s, .int .i64 z.g, .int .u64 (z.n : Int)] 38)) (by simp))
  have HY2 := Lib.hid (B5.new w2 z 38)
  obtain ⟨Y, hY⟩ : ∃ b, w2.heap.size = b := ⟨_, rfl⟩
  have HY := Lib.hid hY
  rw [hY] at HY2
  clear hc2 HC1 HV1 HX1 HW1 HRg hY
  go_wp2_with fail
  rw [HY.out]
  with_reducible refine (HWd.out _).mono ?_
  rintro e w3 ⟨rfl, hc3⟩
  have HC3 := Lib.hid (HC2.out.trans (hc3.alloc (.cells #[.bool z.r, .int .i64 z.m, .int .i64 z.s, .int .i64 z.g, .int .u64 (z.n : Int)] 38)))
  have HV3 := Lib.hid (HV2.out.quiet (hc3.alloc (.cells #[.bool z.r, .int .i64 z.m, .int .i64 z.s, .int .i64 z.g, .int .u64 (z.n : Int)] 38)))
  have HX3 := Lib.hid (HX2.out.ch (hc3.alloc (.cells #[.bool z.r, .int .i64 z.m, .int .i64 z.s, .int .i64 z.g, .int .u64 (z.n : Int)] 38)) (by simp))
  have HY3 := Lib.hid (HY2.out.quiet (hc3.alloc (.cells #[.bool z.r, .int .i64 z.m, .int .i64 z.s, .int .i64 z.g, .int .u64 (z.n : Int)] 38)))
  have HU3 := Lib.hid (B5.new w3 z 38)
  obtain ⟨U, hU⟩ : ∃ b, w3.heap.size = b := ⟨_, rfl⟩
  obtain ⟨w4, hw4⟩ : ∃ W, w3.alloc (.cells #[.bool z.r, .int .i64 z.m, .int .i64 z.s, .int .i64 z.g, .int .u64 (z.n : Int)] 38) = W := ⟨_, rfl⟩
  have HU := Lib.hid hU
  have HW4 := Lib.hid hw4
  rw [hU] at HU3
  rw [hw4] at HC3 HV3 HX3 HY3 HU3
  obtain ⟨x0, x1, x2, x3, x4⟩ := HX3.out
  simp only at x0 x1 x2 x3 x4
  rw [← hw4] at x0 x1 x2 x3 x4
  clear hc3 HC2 HV2 HX2 HY2 HWd hU hw4
  go_wp2_with fail
  rw [HU.out, HW4.out]
  with_reducible refine (HTi.out _).mono ?_
  rintro e w5 ⟨rfl, hc5⟩
  clear x0 x1 x2 x3 x4
  go_wp2_with fail
  with_reducible refine (HJn.out _).mono ?_
  rintro e w6 ⟨rfl, hc6⟩
  have hc46 := hc5.trans hc6
  have HC6 := Lib.hid (HC3.out.trans hc46)
  have HV6 := Lib.hid (HV3.out.quiet hc46)
  have HX6 := Lib.hid (HX3.out.ch hc46 (by simp))
  have HY6 := Lib.hid (HY3.out.quiet hc46)
  have HU6 := Lib.hid (HU3.out.quiet hc46)
  clear hc5 hc6 hc46 HC3 HV3 HX3 HY3 HU3 HJn
  go_wp2_with fail
  with_reducible refine (HRd.out _).mono ?_
  rintro e w6 ⟨rfl, rfl⟩
  go_wp2_with fail
  with_reducible refine (HAr.out _).mono ?_
  rintro e w7 ⟨rfl, hc7⟩
  obtain ⟨A, hA⟩ : ∃ b, w7.heap.size = b := ⟨_, rfl⟩
  obtain ⟨w8, hw8⟩ : ∃ W, w7.alloc (.cells z25 69) = W := ⟨_, rfl⟩
  have hth : w8.there A 0 25 := by rw [← hw8, ← hA]; exact there_new w7 z25 69
  have hc68 : Ch [] w6 w8 := by rw [← hw8]; exact hc7.alloc _
  obtain ⟨w9, hw9⟩ : ∃ W, w8.setCells A 0 z25.toList = W := ⟨_, rfl⟩
  have hc69 : Ch [] w6 w9 := by rw [← hw9]; exact hc68.fresh (chCells w8 A z25.toList 0) (by have := hc7.size; simp; omega)
  have HA9 := Lib.hid (show At5 w9 A 0 z from by
    have h := World.rangeAt_setCells_same w8 A 0 z25.toList hth
    rw [hw9] at h
    obtain ⟨z1, z2, z3, z4, z5⟩ := Hz.out
    exact ⟨by rw [z1]; exact h 0 _ rfl, by rw [z2]; exact h 1 _ rfl, by rw [z3]; exact h 2 _ rfl, by rw [z4]; exact h 3 _ rfl, by rw [z5]; exact h 4 _ rfl⟩)
  have HC9 := Lib.hid (HC6.out.trans hc69)
  have HV9 := Lib.hid (HV6.out.quiet hc69)
  have HX9 := Lib.hid (HX6.out.ch hc69 (by simp))
  have HY9 := Lib.hid (HY6.out.quiet hc69)
  have HU9 := Lib.hid (HU6.out.quiet hc69)
  have HA := Lib.hid hA
  have HW8 := Lib.hid hw8
  have HW9 := Lib.hid hw9
  have HT8 := Lib.hid hth
  clear hc7 hc68 hc69 HC6 HV6 HX6 HY6 HU6 hA hw8 hw9 hth HRd HAr
  go_wp2_with (first
    | ((with_reducible show wpList _ _ _ (Oper.mk _ (Op.alloc 69) _ _ _ _ :: _) _ _); refine wpList_allocZ z25_zero rfl (by rfl) ?_; rw [HA.out, HW8.out])
    | ((with_reducible show wpList _ _ _ (Oper.mk _ (Op.store 69 _ _) _ _ _ _ :: _) _ _); refine wpList_write25 rfl HT8.out (by rfl) (by rfl) (by rfl) ?_; rw [HW9.out])
    | fail)
  simp only [Act.put, List.setIfInBounds_toArray, List.set_cons_succ, List.set_cons_zero]
  obtain ⟨Gt, f', hf1, hf2⟩ := worlds_of w9
  have hv0 : ∀ g : Gt, (f' g).cell? ⟨w.heap.size, 0, none⟩ = some (.bool v.r) := fun g => ((HV9.out.quiet (hf1 g)).a).c0
  have hv1 : ∀ g : Gt, (f' g).cell? ⟨w.heap.size, 1, none⟩ = some (.int .i64 v.m) := fun g => ((HV9.out.quiet (hf1 g)).a).c1
  have hv2 : ∀ g : Gt, (f' g).cell? ⟨w.heap.size, 2, none⟩ = some (.int .i64 v.s) := fun g => ((HV9.out.quiet (hf1 g)).a).c2
  have hv3 : ∀ g : Gt, (f' g).cell? ⟨w.heap.size, 3, none⟩ = some (.int .i64 v.g) := fun g => ((HV9.out.quiet (hf1 g)).a).c3
  have hv4 : ∀ g : Gt, (f' g).cell? ⟨w.heap.size, 4, none⟩ = some (.int .u64 (v.n : Int)) := fun g => ((HV9.out.quiet (hf1 g)).a).c4
  have hx0 : ∀ g : Gt, (f' g).cell? ⟨w.heap.size + 1, 0, none⟩ = some (.int .i64 op) := fun g => (HX9.out.ch (hf1 g) (by simp)).c0
  have hx1 : ∀ g : Gt, (f' g).cell? ⟨w.heap.size + 1, 1, none⟩ = some (.int .i64 d) := fun g => (HX9.out.ch (hf1 g) (by simp)).c1
  have hx2 : ∀ g : Gt, (f' g).cell? ⟨w.heap.size + 1, 2, none⟩ = some (.int .i64 s) := fun g => (HX9.out.ch (hf1 g) (by simp)).c2
  have hx3 : ∀ g : Gt, (f' g).cell? ⟨w.heap.size + 1, 3, none⟩ = some (.int .i64 o) := fun g => (HX9.out.ch (hf1 g) (by simp)).c3
  have hx4 : ∀ g : Gt, (f' g).cell? ⟨w.heap.size + 1, 4, none⟩ = some (.int .i64 i) := fun g => (HX9.out.ch (hf1 g) (by simp)).c4
  have hy0 : ∀ g : Gt, (f' g).cell? ⟨Y, 0, none⟩ = some (.bool z.r) := fun g => ((HY9.out.quiet (hf1 g)).a).c0
  have hy1 : ∀ g : Gt, (f' g).cell? ⟨Y, 1, none⟩ = some (.int .i64 z.m) := fun g => ((HY9.out.quiet (hf1 g)).a).c1
  have hy2 : ∀ g : Gt, (f' g).cell? ⟨Y, 2, none⟩ = some (.int .i64 z.s) := fun g => ((HY9.out.quiet (hf1 g)).a).c2
  have hy3 : ∀ g : Gt, (f' g).cell? ⟨Y, 3, none⟩ = some (.int .i64 z.g) := fun g => ((HY9.out.quiet (hf1 g)).a).c3
  have hy4 : ∀ g : Gt, (f' g).cell? ⟨Y, 4, none⟩ = some (.int .u64 (z.n : Int)) := fun g => ((HY9.out.quiet (hf1 g)).a).c4
  have hu0 : ∀ g : Gt, (f' g).cell? ⟨U, 0, none⟩ = some (.bool z.r) := fun g => ((HU9.out.quiet (hf1 g)).a).c0
  have hu1 : ∀ g : Gt, (f' g).cell? ⟨U, 1, none⟩ = some (.int .i64 z.m) := fun g => ((HU9.out.quiet (hf1 g)).a).c1
  have hu2 : ∀ g : Gt, (f' g).cell? ⟨U, 2, none⟩ = some (.int .i64 z.s) := fun g => ((HU9.out.quiet (hf1 g)).a).c2
  have hu3 : ∀ g : Gt, (f' g).cell? ⟨U, 3, none⟩ = some (.int .i64 z.g) := fun g => ((HU9.out.quiet (hf1 g)).a).c3
  have hu4 : ∀ g : Gt, (f' g).cell? ⟨U, 4, none⟩ = some (.int .u64 (z.n : Int)) := fun g => ((HU9.out.quiet (hf1 g)).a).c4
  have ha0 : ∀ g : Gt, (f' g).cell? ⟨A, 0, none⟩ = some (.bool z.r) := fun g => (HA9.out.ch (hf1 g) (by simp)).c0
  have ha1 : ∀ g : Gt, (f' g).cell? ⟨A, 1, none⟩ = some (.int .i64 z.m) := fun g => (HA9.out.ch (hf1 g) (by simp)).c1
  have ha2 : ∀ g : Gt, (f' g).cell? ⟨A, 2, none⟩ = some (.int .i64 z.s) := fun g => (HA9.out.ch (hf1 g) (by simp)).c2
  have ha3 : ∀ g : Gt, (f' g).cell? ⟨A, 3, none⟩ = some (.int .i64 z.g) := fun g => (HA9.out.ch (hf1 g) (by simp)).c3
  have ha4 : ∀ g : Gt, (f' g).cell? ⟨A, 4, none⟩ = some (.int .u64 (z.n : Int)) := fun g => (HA9.out.ch (hf1 g) (by simp)).c4
  have hne : Nonempty Gt := ⟨(hf2 w9 (Ch.refl _ _)).choose⟩
  have HF1 := Lib.hid hf1
  have HF2 := Lib.hid hf2
  have HQ := Ch.refl [] w9
  have e1 := E1.out
  clear hf1 hf2
  simp only [List.append_eq, List.cons_append, List.nil_append]
  refine wp_region_worlds f' (by kernel_rfl) (by kernel_rfl) (HF2.out _ HQ.drew) ?_
  repeat (go_big_quiet_step (first
    | (with_reducible refine (HKn.out _).mono ?_; rintro r w' ⟨rfl, hcw⟩; exact ⟨rfl, HF2.out w' ((HF1.out _).trans hcw)⟩)
    | (with_reducible refine (HN0.out _).mono ?_; rintro r w' ⟨rfl, hcw⟩; exact ⟨rfl, HF2.out w' ((HF1.out _).trans hcw)⟩)
    | (with_reducible refine (HTo.out _).mono ?_; rintro r w' ⟨rfl, hcw⟩; exact ⟨rfl, HF2.out w' ((HF1.out _).trans hcw)⟩)
    | (with_reducible refine (HSr.out _).mono ?_; rintro r w' ⟨rfl, hcw⟩; exact ⟨rfl, HF2.out w' ((HF1.out _).trans hcw)⟩)
    | (with_reducible refine (HSw.out _).mono ?_; rintro r w' ⟨rfl, hcw⟩; exact ⟨rfl, HF2.out w' ((HF1.out _).trans hcw)⟩)
    | (with_reducible refine (HTi.out _).mono ?_; rintro r w' ⟨rfl, hcw⟩; exact ⟨rfl, HF2.out w' ((HF1.out _).trans hcw)⟩)
    | (with_reducible refine (HDo.out _).mono ?_; rintro r w' ⟨rfl, hcw⟩; exact ⟨rfl, HF2.out w' ((HF1.out _).trans hcw)⟩)
    | (with_reducible refine (HWr.out _).mono ?_; rintro r w' ⟨rfl, rfl⟩; exact ⟨rfl, _, rfl⟩)))
  refine wpQuiet_nil ?_
  rintro _ ⟨gz, rfl⟩
  have HZ := Lib.hid (HC9.out.trans (HF1.out gz))
  generalize f' gz = wz at *
  clear hv0 hv1 hv2 hv3 hv4 hx0 hx1 hx2 hx3 hx4 hy0 hy1 hy2 hy3 hy4 hu0 hu1 hu2 hu3 hu4 ha0 ha1 ha2 ha3 ha4 hne HQ e1
  go_wp2
  go_ret
  exact ⟨rfl, HZ.out⟩
end Go.Proofs.Ytlffcccicpdnfaa
