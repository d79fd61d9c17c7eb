/-
  Nil runs; VmNil. (Written by gen/vm19n.py.)
-/
import Derived.Test.YtpbdmlipdfdblaaDoorMgL
import Derived.Test.YtpbdmlipdfdblaaDoorMgI
namespace Go.Proofs.YtpbdmlipdfdblaaDoor
open Go.RowKit Go.BigFrame

attribute [local go_sem] Oper.semAt_some

theorem over_nil (w : World) : Calls Tryd.prog 19 #[.pointer none] w fun e w' => e = .returned (.bool true) ∧ w = w' := by
  go_enter Tryd.func19, Tryd.ntmps19
  go_wp2_with fail
  go_ret
  exact ⟨rfl, rfl⟩
theorem asks_nil (w : World) : Calls Tryd.prog 20 #[.pointer none] w fun e w' => e = .returned (.bool false) ∧ w = w' := by
  have HO := Lib.hid (fun w => over_nil w)
  go_enter Tryd.func20, Tryd.ntmps20
  go_wp2_with (first | (with_reducible refine (HO.out _).mono ?_; rintro e w1 ⟨rfl, rfl⟩) | fail)
  go_ret
  exact ⟨rfl, rfl⟩
theorem codeE_nil (w : World) : Calls Tryd.prog 15 #[.pointer none] w fun e w' => e = .returned (.int .i64 0) ∧ w = w' := by
  go_enter Tryd.func15, Tryd.ntmps15
  go_wp2_with fail
  go_ret
  exact ⟨rfl, rfl⟩
theorem result_nil (w : World) : Calls Tryd.prog 16 #[.pointer none] w fun e w' => e = .returned (.int .u64 0) ∧ w = w' := by
  go_enter Tryd.func16, Tryd.ntmps16
  go_wp2_with fail
  go_ret
  exact ⟨rfl, rfl⟩
theorem fuel_nil (w : World) : Calls Tryd.prog 13 #[.pointer none] w fun e w' => e = .returned (.int .i64 0) ∧ w = w' := by
  go_enter Tryd.func13, Tryd.ntmps13
  go_wp2_with fail
  go_ret
  exact ⟨rfl, rfl⟩
theorem place_nil (w : World) : Calls Tryd.prog 14 #[.pointer none] w fun e w' => e = .returned (.int .i64 (-1)) ∧ w = w' := by
  go_enter Tryd.func14, Tryd.ntmps14
  go_wp2_with fail
  go_ret
  exact ⟨rfl, rfl⟩
theorem end_nil (k : Int) (w : World) : Calls Tryd.prog 22 #[.pointer none, .int .i64 k] w fun e w' => e = .returned (.int .i64 6) ∧ w = w' := by
  have HO := Lib.hid (fun w => over_nil w)
  go_enter Tryd.func22, Tryd.ntmps22
  go_wp2_with (first | (with_reducible refine (HO.out _).mono ?_; rintro e w1 ⟨rfl, rfl⟩) | fail)
  go_ret
  exact ⟨rfl, rfl⟩
theorem give_nil (v : V5) (k : Int) (w : World) : Calls Tryd.prog 17 #[.pointer none, vv v, .int .i64 k] w fun e w' => e = .returned (.int .i64 6) ∧ Ch [] w w' := by
  have HC := Lib.hid ((Ch.refl [] w).alloc (.cells #[.bool v.r, .int .i64 v.m, .int .i64 v.s, .int .i64 v.g, .int .u64 (v.n : Int)] 41))
  have HO := Lib.hid (fun w => asks_nil w)
  unfold vv
  go_enter Tryd.func17, Tryd.ntmps17
  go_wp2_with (first | (with_reducible refine (HO.out _).mono ?_; rintro e w1 ⟨rfl, rfl⟩) | fail)
  go_ret
  exact ⟨rfl, HC.out⟩
theorem vreg_nil (k : Int) (w : World) : Calls Tryd.prog 27 #[.pointer none, .int .i64 k] w fun e w' => e = .returned (.tuple #[vv (num 0), .int .i64 6]) ∧ Ch [] w w' := by
  obtain ⟨w1, hw1⟩ : ∃ W, W = w.alloc (.cells #[.bool false, .int .i64 0, .int .i64 0, .int .i64 0, .int .u64 0] 41) := ⟨_, rfl⟩
  have hc : Ch [] w w1 := by rw [hw1]; exact (Ch.refl [] w).alloc _
  have hY : B5 w1 w.heap.size (num 0) := by rw [hw1]; exact B5.new w (num 0) 41
  have C := Lib.hid (reg_nil k w1)
  have HO := Lib.hid (fun w => own_nil w)
  generalize num 0 = x at *
  have HY := Lib.hid hY
  have HC := Lib.hid hc
  have HW := Lib.hid hw1
  clear hY hc hw1
  unfold vv at *
  go_enter Tryd.func27, Tryd.ntmps27
  go_wp2_with fail
  rw [← HW.out]
  with_reducible refine (HO.out _).mono ?_
  rintro e w2 ⟨rfl, rfl⟩
  clear HW HO
  go_wp2_with fail
  with_reducible refine C.out.mono ?_
  rintro e w2 ⟨rfl, hc2⟩
  have hY2 := HY.out.quiet hc2
  have HC2 := Lib.hid (HC.out.trans hc2)
  have HY4 := Lib.hid (hY2.set x)
  obtain ⟨⟨y0, y1, y2, y3, y4⟩, yf⟩ := hY2
  clear C hc2 HC HY
  go_wp2_with fail
  obtain ⟨⟨z0, z1, z2, z3, z4⟩, -⟩ := HY4.out
  unfold st5 at z0 z1 z2 z3 z4
  simp only [Nat.zero_add] at z0 z1 z2 z3 z4
  refine bodyPost_ret (v := .tuple #[.agg #[.bool x.r, .int .i64 x.m, .int .i64 x.s, .int .i64 x.g, .int .u64 (x.n : Int)], .int .i64 6]) ?_ rfl ?_
  · simp [results, Tryd.f27, go_sem, z0, z1, z2, z3, z4]
  · exact ⟨rfl, HC2.out.fresh (st5_ch w2 w.heap.size 0 x) (by simp)⟩
theorem vread_nil (a n : Int) (w : World) : Calls Tryd.prog 26 #[.pointer none, .int .i64 a, .int .i64 n] w fun e w' => e = .returned (.tuple #[.slice none 0 0, .int .i64 6]) ∧ w = w' := by
  have HO := Lib.hid (fun w => own_nil w)
  have HR := Lib.hid (fun w => read_nil a n w)
  go_enter Tryd.func26, Tryd.ntmps26
  go_wp2_with (first | (with_reducible refine (HO.out _).mono ?_; rintro e w1 ⟨rfl, rfl⟩) | (with_reducible refine (HR.out _).mono ?_; rintro e w1 ⟨rfl, rfl⟩) | fail)
  go_ret2
  exact ⟨rfl, rfl⟩
theorem vwrite_nil (a : Int) (s : Option Addr) (n c : Nat) (w : World) : Calls Tryd.prog 24 #[.pointer none, .int .i64 a, .slice s n c] w fun e w' => e = .returned (.int .i64 6) ∧ w = w' := by
  have HO := Lib.hid (fun w => own_nil w)
  have HR := Lib.hid (fun w => write_nil a s n c w)
  go_enter Tryd.func24, Tryd.ntmps24
  go_wp2_with (first | (with_reducible refine (HO.out _).mono ?_; rintro e w1 ⟨rfl, rfl⟩) | (with_reducible refine (HR.out _).mono ?_; rintro e w1 ⟨rfl, rfl⟩) | fail)
  go_ret
  exact ⟨rfl, rfl⟩
section
variable {ops : Array Oper} {rest : List Oper} {op : Oper} {a : Act} {w : World} {Q : Exit → Act → World → Prop}
theorem wpList_buildA {parts : Array (Nat × Operand)} {A : Array Value} (ho : op.op = .build 44 parts) (hg : op.guard = none) (hb : Tryd.prog.built 44 (parts.map fun (i, x) => (i, a.eval x)).toList = some A)
    (h : wpList Tryd.prog ops Q rest (a.put op.dst (.agg A)) w) : wpList Tryd.prog ops Q (op :: rest) a w :=
  wpList_build hg 44 parts ho (by rw [hb]; rfl) (by rw [hb]; exact h)
end
set_option maxRecDepth 10000 in
theorem go_nil (n : Int) (w : World) : Calls Tryd.prog 12 #[.pointer none, .int .i64 n] w fun e w' => e = .returned (.agg #[.int .i64 1, .int .i64 0, .int .i64 0, .bool false, .int .i64 0, .int .i64 0, .int .i64 0, .int .u64 0, .bool false, .int .i64 0, .int .i64 0, .int .i64 0, .int .u64 0, .bool false, .int .i64 0, .int .i64 0, .int .i64 0, .int .u64 0, .bool false, .int .i64 0, .int .i64 0, .int .i64 0, .int .u64 0, .bool false, .int .i64 0, .int .i64 0, .int .i64 0, .int .u64 0, .bool false, .int .i64 0, .int .i64 0, .int .i64 0, .int .u64 0, .int .u64 0]) ∧ Ch [] w w' := by
  obtain ⟨A, hA⟩ : ∃ A, tl (T0 1) = A := ⟨_, rfl⟩
  have hl := tl_len (T0 1)
  have h1 := tl_one (T0 1)
  have hz : (Value.agg #[.int .i64 1, .int .i64 0, .int .i64 0, .bool false, .int .i64 0, .int .i64 0, .int .i64 0, .int .u64 0, .bool false, .int .i64 0, .int .i64 0, .int .i64 0, .int .u64 0, .bool false, .int .i64 0, .int .i64 0, .int .i64 0, .int .u64 0, .bool false, .int .i64 0, .int .i64 0, .int .i64 0, .int .u64 0, .bool false, .int .i64 0, .int .i64 0, .int .i64 0, .int .u64 0, .bool false, .int .i64 0, .int .i64 0, .int .i64 0, .int .u64 0, .int .u64 0]) = .agg A.toArray := by rw [← hA]; rfl
  have hb : Tryd.prog.built 44 [(0, .int .i64 1)] = some A.toArray := by rw [← hA]; kernel_rfl
  rw [hA] at hl h1
  rw [hz]
  obtain ⟨wb, wc, hwb, htb, hwc, hrc, -, hcc⟩ := new_trap w hl
  have HWb := Lib.hid hwb
  have HWc := Lib.hid hwc
  have HTb := Lib.hid htb
  have HL := Lib.hid hl
  have H1 := Lib.hid h1
  have HR := Lib.hid (load_A hl hrc)
  have HC := Lib.hid hcc
  have HBt := Lib.hid hb
  clear hA hl h1 hz hwb htb hwc hrc hcc hb
  go_enter Tryd.func12, Tryd.ntmps12
  go_wp2_with (first
    | ((with_reducible show wpList _ _ _ (Oper.mk _ (Op.alloc 44) _ _ _ _ :: _) _ _); refine wpList_allocZ zT rfl (by rfl) ?_; rw [HWb.out])
    | fail)
  go_step3
  go_wp2_with (first
    | ((with_reducible show wpList _ _ _ (Oper.mk _ (Op.build 44 _) _ _ _ _ :: _) _ _); refine wpList_buildA rfl rfl (Eq.trans (by kernel_rfl) HBt.out) ?_)
    | ((with_reducible show wpList _ _ _ (Oper.mk _ (Op.store 44 _ _) _ _ _ _ :: _) _ _); refine wpList_writeA rfl HTb.out HL.out H1.out (by rfl) (by rfl) (by rfl) ?_; rw [HWc.out])
    | fail)
  try rw [Exit.noGoto_ret]
  refine bodyPost_ret (v := .agg A.toArray) ?_ rfl ?_
  · exact results_one rfl rfl HR.out
  · exact ⟨rfl, HC.out⟩

theorem eq_trap1 (w : World) : (binOp .eql 44 (.agg #[.int .i64 1, .int .i64 0, .int .i64 0, .bool false, .int .i64 0, .int .i64 0, .int .i64 0, .int .u64 0, .bool false, .int .i64 0, .int .i64 0, .int .i64 0, .int .u64 0, .bool false, .int .i64 0, .int .i64 0, .int .i64 0, .int .u64 0, .bool false, .int .i64 0, .int .i64 0, .int .i64 0, .int .u64 0, .bool false, .int .i64 0, .int .i64 0, .int .i64 0, .int .u64 0, .bool false, .int .i64 0, .int .i64 0, .int .i64 0, .int .u64 0, .int .u64 0]) (.agg #[.int .i64 1, .int .i64 0, .int .i64 0, .bool false, .int .i64 0, .int .i64 0, .int .i64 0, .int .u64 0, .bool false, .int .i64 0, .int .i64 0, .int .i64 0, .int .u64 0, .bool false, .int .i64 0, .int .i64 0, .int .i64 0, .int .u64 0, .bool false, .int .i64 0, .int .i64 0, .int .i64 0, .int .u64 0, .bool false, .int .i64 0, .int .i64 0, .int .i64 0, .int .u64 0, .bool false, .int .i64 0, .int .i64 0, .int .i64 0, .int .u64 0, .int .u64 0])).run Tryd.prog w = .ok (.bool true) w := by kernel_rfl
set_option maxRecDepth 100000 in
set_option maxHeartbeats 8000000 in
theorem nil_law (n k : Int) (v : V5) {w : World} (hT : Tb w) : Calls Tryd.prog 6 #[.int .i64 n, vv v, .int .i64 k] w fun e w' => e = .returned (.bool true) ∧ Ch [] w w' := by
  have HKn := Lib.hid (fun W (h : Ch [] w W) => known19 (hT.ch h))
  have HGo := Lib.hid (fun w => go_nil n w)
  have HTo := Lib.hid (fun w => to5_any v w)
  have HGi := Lib.hid (fun w => give_nil v k w)
  have HEn := Lib.hid (fun w => end_nil k w)
  have HAs := Lib.hid (fun w => asks_nil w)
  have HOv := Lib.hid (fun w => over_nil w)
  have HCo := Lib.hid (fun w => codeE_nil w)
  have HRe := Lib.hid (fun w => result_nil w)
  have HFu := Lib.hid (fun w => fuel_nil w)
  have HAt := Lib.hid (fun w => place_nil w)
  have HRd := Lib.hid (fun w => vread_nil n n w)
  have HWr := Lib.hid (fun w => vwrite_nil n none 0 0 w)
  have HRg := Lib.hid (fun w => vreg_nil n w)
  have HN0 := Lib.hid (fun w => show Calls Tryd.prog 21 #[.int .u64 0] w fun e w' => e = .returned (vv (num 0)) ∧ Ch [] w w' from num_any 0 w)
  have e2 := eq_trap1
  have e1 : ∀ w, (binOp .eql 41 (vv (num 0)) (vv (num 0))).run Tryd.prog w = .ok (.bool true) w := fun w => by have := eq_fv (num 0) (num 0) w; rw [eqV_self] at this; exact this
  generalize num 0 = z at *
  obtain ⟨w1, hw1⟩ : ∃ W, w.alloc (.cells #[.bool v.r, .int .i64 v.m, .int .i64 v.s, .int .i64 v.g, .int .u64 (v.n : Int)] 52) = W := ⟨_, rfl⟩
  have hV : B5 w1 w.heap.size v := by rw [← hw1]; exact B5.new w v 52
  have HC1 := Lib.hid (show Ch [] w w1 from by rw [← hw1]; exact (Ch.refl [] w).alloc _)
  have HV := Lib.hid hV
  have HW1 := Lib.hid hw1
  unfold vv at *
  clear hT hw1 hV
  have E1 := Lib.hid e1
  have E2 := Lib.hid e2
  clear e1 e2
  go_enter Tryd.func6, Tryd.ntmps6
  go_wp2_with fail
  rw [HW1.out]
  with_reducible refine (HRg.out _).mono ?_
  rintro e w2 ⟨rfl, hc2⟩
  obtain ⟨w3, hw3⟩ : ∃ W, w2.alloc (.cells #[.bool z.r, .int .i64 z.m, .int .i64 z.s, .int .i64 z.g, .int .u64 (z.n : Int)] 41) = W := ⟨_, rfl⟩
  have hU : B5 w3 w2.heap.size z := by rw [← hw3]; exact B5.new w2 z 41
  have hc13 : Ch [] w1 w3 := by rw [← hw3]; exact hc2.alloc _
  obtain ⟨U, hUb⟩ : ∃ b, w2.heap.size = b := ⟨_, rfl⟩
  rw [hUb] at hU
  have HC3 := Lib.hid (HC1.out.trans hc13)
  have HV3 := Lib.hid (HV.out.quiet hc13)
  have HU3 := Lib.hid hU
  have HW3 := Lib.hid hw3
  have HUb := Lib.hid hUb
  clear hw3 hU hc13 hc2 hUb HC1 HV HW1
  go_wp2_with fail
  rw [HUb.out, HW3.out]
  with_reducible refine (HRd.out _).mono ?_
  rintro e w4 ⟨rfl, rfl⟩
  go_wp2_with fail
  obtain ⟨Gt, f', hf1, hf2⟩ := worlds_of w3
  have hv0 : ∀ g : Gt, (f' g).cell? ⟨w.heap.size, 0, none⟩ = some (.bool v.r) := fun g => ((HV3.out.quiet (hf1 g)).a).c0
  have hv1 : ∀ g : Gt, (f' g).cell? ⟨w.heap.size, 1, none⟩ = some (.int .i64 v.m) := fun g => ((HV3.out.quiet (hf1 g)).a).c1
  have hv2 : ∀ g : Gt, (f' g).cell? ⟨w.heap.size, 2, none⟩ = some (.int .i64 v.s) := fun g => ((HV3.out.quiet (hf1 g)).a).c2
  have hv3 : ∀ g : Gt, (f' g).cell? ⟨w.heap.size, 3, none⟩ = some (.int .i64 v.g) := fun g => ((HV3.out.quiet (hf1 g)).a).c3
  have hv4 : ∀ g : Gt, (f' g).cell? ⟨w.heap.size, 4, none⟩ = some (.int .u64 (v.n : Int)) := fun g => ((HV3.out.quiet (hf1 g)).a).c4
  have hu0 : ∀ g : Gt, (f' g).cell? ⟨U, 0, none⟩ = some (.bool z.r) := fun g => ((HU3.out.quiet (hf1 g)).a).c0
  have hu1 : ∀ g : Gt, (f' g).cell? ⟨U, 1, none⟩ = some (.int .i64 z.m) := fun g => ((HU3.out.quiet (hf1 g)).a).c1
  have hu2 : ∀ g : Gt, (f' g).cell? ⟨U, 2, none⟩ = some (.int .i64 z.s) := fun g => ((HU3.out.quiet (hf1 g)).a).c2
  have hu3 : ∀ g : Gt, (f' g).cell? ⟨U, 3, none⟩ = some (.int .i64 z.g) := fun g => ((HU3.out.quiet (hf1 g)).a).c3
  have hu4 : ∀ g : Gt, (f' g).cell? ⟨U, 4, none⟩ = some (.int .u64 (z.n : Int)) := fun g => ((HU3.out.quiet (hf1 g)).a).c4
  have hne : Nonempty Gt := ⟨(hf2 w3 (Ch.refl _ _)).choose⟩
  have HF1 := Lib.hid hf1
  have HF2 := Lib.hid hf2
  have HQ := Ch.refl [] w3
  have e1 := E1.out
  have e2 := E2.out
  clear hf1 hf2
  simp only [List.append_eq, List.cons_append, List.nil_append]
  refine wp_region_worlds f' (by kernel_rfl) (by kernel_rfl) (HF2.out _ HQ.drew) ?_
  repeat (go_big_quiet_step (first
    | (with_reducible refine (HKn.out _ (HC3.out.trans (HF1.out _))).mono ?_; rintro r w' ⟨rfl, hcw⟩; exact ⟨rfl, HF2.out w' ((HF1.out _).trans hcw)⟩)
    | (with_reducible refine (HGo.out _).mono ?_; rintro r w' ⟨rfl, hcw⟩; exact ⟨rfl, HF2.out w' ((HF1.out _).trans hcw)⟩)
    | (with_reducible refine (HTo.out _).mono ?_; rintro r w' ⟨rfl, hcw⟩; exact ⟨rfl, HF2.out w' ((HF1.out _).trans hcw)⟩)
    | (with_reducible refine (HGi.out _).mono ?_; rintro r w' ⟨rfl, hcw⟩; exact ⟨rfl, HF2.out w' ((HF1.out _).trans hcw)⟩)
    | (with_reducible refine (HEn.out _).mono ?_; rintro r w' ⟨rfl, rfl⟩; exact ⟨rfl, _, rfl⟩)
    | (with_reducible refine (HAs.out _).mono ?_; rintro r w' ⟨rfl, rfl⟩; exact ⟨rfl, _, rfl⟩)
    | (with_reducible refine (HOv.out _).mono ?_; rintro r w' ⟨rfl, rfl⟩; exact ⟨rfl, _, rfl⟩)
    | (with_reducible refine (HCo.out _).mono ?_; rintro r w' ⟨rfl, rfl⟩; exact ⟨rfl, _, rfl⟩)
    | (with_reducible refine (HRe.out _).mono ?_; rintro r w' ⟨rfl, rfl⟩; exact ⟨rfl, _, rfl⟩)
    | (with_reducible refine (HFu.out _).mono ?_; rintro r w' ⟨rfl, rfl⟩; exact ⟨rfl, _, rfl⟩)
    | (with_reducible refine (HAt.out _).mono ?_; rintro r w' ⟨rfl, rfl⟩; exact ⟨rfl, _, rfl⟩)
    | (with_reducible refine (HN0.out _).mono ?_; rintro r w' ⟨rfl, hcw⟩; exact ⟨rfl, HF2.out w' ((HF1.out _).trans hcw)⟩)
    | (with_reducible refine (HWr.out _).mono ?_; rintro r w' ⟨rfl, rfl⟩; exact ⟨rfl, _, rfl⟩)))
  refine wpQuiet_nil ?_
  rintro _ ⟨gz, rfl⟩
  have HZ := Lib.hid (HC3.out.trans (HF1.out gz))
  generalize f' gz = wz at *
  clear hv0 hv1 hv2 hv3 hv4 hu0 hu1 hu2 hu3 hu4 hne HQ e1 e2
  go_wp2
  go_ret
  exact ⟨rfl, HZ.out⟩
end Go.Proofs.YtpbdmlipdfdblaaDoor
