/-
  Jumps; the chapter's example.
-/
import Derived.Test.YtlffcccicpdnfaaFrH
namespace Go.Proofs.Ytlffcccicpdnfaa
open Go.RowKit Go.BigFrame

attribute [local go_sem] Oper.semAt_some

/-- Does a jump go? The error. -/
def fjp (F : FV) (x : I5) : Bool × Int :=
  if chk x ≠ 0 then (false, chk x) else if cls x.op = 2 then (goV x.op (F x.d.toNat).n (oth F x 41).n, 0) else (false, 11)

set_option maxRecDepth 10000 in
set_option maxHeartbeats 4000000 in
theorem fjp_any {w : World} {b : Nat} {F : FV} (h : FR w b F) (hW : FW F) {x : I5} (hx : Fit x) :
    Calls Try.prog 24 #[.pointer (some ⟨b, 0, none⟩), iv x] w fun e w' => e = .returned (.tuple #[.bool (fjp F x).1, .int .i64 (fjp F x).2]) ∧ Ch [] w w' := by
  have HChk := Lib.hid (fun w => check_any hx w)
  have HCls := Lib.hid (fun w => class_any hx.op.1 hx.op.2 w)
  obtain ⟨op, d, s, o, i⟩ := x
  obtain ⟨W, hWd⟩ : ∃ W, W = w.alloc (.cells #[.int .i64 op, .int .i64 d, .int .i64 s, .int .i64 o, .int .i64 i] 63) := ⟨_, rfl⟩
  have hc : Ch [] w W := by rw [hWd]; exact (Ch.refl [] w).alloc _
  have hI : Five W w.heap.size ⟨op, d, s, o, i⟩ := by rw [hWd]; exact Five.new w ⟨op, d, s, o, i⟩ 63
  have HF := Lib.hid (h.quiet hc)
  have HI := Lib.hid hI
  have HC := Lib.hid hc
  have HWd := Lib.hid hWd
  obtain ⟨G, hG⟩ : ∃ G, fjp F ⟨op, d, s, o, i⟩ = G := ⟨_, rfl⟩
  rw [hG]
  obtain ⟨a0, a1, a2, a3, a4⟩ := hI
  simp only at *
  by_cases h0 : chk ⟨op, d, s, o, i⟩ = 0
  · rw [h0] at HChk
    obtain ⟨-, hB, -⟩ := chk_zero h0
    unfold inB at hB
    simp only at hB
    obtain ⟨kd, rfl⟩ : ∃ k : Nat, d = (k : Int) := ⟨d.toNat, by omega⟩
    have hkd : kd < 10 := by omega
    have hkd' : (kd : Int) < 10 := by omega
    by_cases hc2 : cls op = 2
    · rw [hc2] at HCls
      have hE : goE op = 0 := by unfold goE; rw [if_pos hc2]
      obtain ⟨Y, hY⟩ : ∃ Y, oth F ⟨op, kd, s, o, i⟩ 41 = Y := ⟨_, rfl⟩
      have hYn : W64 Y.n := by rw [← hY]; exact oth_fw hW _ 41
      have HO := Lib.hid (fun W (h : FR W b F) => operand_any h (x := ⟨op, kd, s, o, i⟩) (by simp only; omega) 41)
      have HJ := Lib.hid (fun w => jumps_any hx.op (hW kd) hYn w)
      rw [hY] at HO
      rw [hE] at HJ
      have HZ := Lib.hid (show G = (goV op (F kd).n Y.n, 0) by rw [← hG]; unfold fjp; rw [if_neg (by rw [h0]; simp), if_pos hc2]; simp only [hY, Int.toNat_natCast])
      simp only at HJ
      generalize goV op (F kd).n Y.n = q at *
      unfold iv at *
      unfold vv at HO
      have HFW := Lib.hid (fun (W : World) (h : FR W b F) => (h.reg hkd).c4)
      generalize F kd = X at *
      clear hG h0 h hW hx hc hWd hB hY hYn hE hc2
      go_enter Try.func24, Try.ntmps24
      go_wp2_with fail
      rw [← HWd.out]
      with_reducible refine (HChk.out _).mono ?_
      rintro e w1 ⟨rfl, hc1⟩
      have HF1 := Lib.hid (HF.out.quiet hc1)
      have HC1 := Lib.hid (HC.out.trans hc1)
      clear a0 a1 a2 a3 a4 HF HC HChk HWd
      obtain ⟨a0, a1, a2, a3, a4⟩ := HI.out.ch hc1 (by simp)
      simp only at a0 a1 a2 a3 a4
      clear hc1 HI
      go_wp2_with fail
      with_reducible refine (HCls.out _).mono ?_
      rintro e w1 ⟨rfl, rfl⟩
      have x4 := HFW.out w1 HF1.out
      have HO1 := Lib.hid (HO.out w1.drew (HF1.out.quiet (Ch.refl [] w1).drew))
      have hfd : ∀ w : World, (Instr.field 38 (.agg #[.bool Y.r, .int .i64 Y.m, .int .i64 Y.s, .int .i64 Y.g, .int .u64 (Y.n : Int)]) 3).run Try.prog w = .ok (.int .u64 (Y.n : Int)) w := fun _ => by kernel_rfl
      clear HCls HO
      go_wp2_with fail
      go_region_held (fun w' => w'.cell? ⟨w.heap.size, 0, none⟩ = some (.int .i64 op) ∧ w'.cell? ⟨w.heap.size, 1, none⟩ = some (.int .i64 (kd : Int)) ∧ w'.cell? ⟨w.heap.size, 2, none⟩ = some (.int .i64 s) ∧ w'.cell? ⟨w.heap.size, 3, none⟩ = some (.int .i64 o) ∧ w'.cell? ⟨w.heap.size, 4, none⟩ = some (.int .i64 i) ∧ w'.cell? ⟨b, kd * 5 + 4, none⟩ = some (.int .u64 (X.n : Int))) (go_keep) (first
        | (with_reducible refine HO1.out.mono ?_; rintro e w2 ⟨rfl, hc2⟩; have hc12 := (Ch.refl [] w1).drew.trans hc2; have u0 := hc12.cell (p := ⟨w.heap.size, 0, none⟩) (cell_lt a0) (by simp); have u1 := hc12.cell (p := ⟨w.heap.size, 1, none⟩) (cell_lt a1) (by simp); have u2 := hc12.cell (p := ⟨w.heap.size, 2, none⟩) (cell_lt a2) (by simp); have u3 := hc12.cell (p := ⟨w.heap.size, 3, none⟩) (cell_lt a3) (by simp); have u4 := hc12.cell (p := ⟨w.heap.size, 4, none⟩) (cell_lt a4) (by simp); have v4 := hc12.cell (p := ⟨b, kd * 5 + 4, none⟩) (cell_lt x4) (by simp); have HK := Lib.hid (HC1.out.trans hc12); clear hc2 hc12)
        | (with_reducible refine (HJ.out _).mono ?_; rintro e w2 ⟨rfl, rfl⟩)
        | fail)
      simp only [Exit.then]
      go_wp2_with fail
      go_ret2
      rw [HZ.out]
      exact ⟨rfl, HK.out⟩
    · have HZ := Lib.hid (show G = (false, 11) by rw [← hG]; unfold fjp; rw [if_neg (by rw [h0]; simp), if_neg hc2])
      have hn : (cls op != 2) = true := by simpa using hc2
      generalize cls op = c at *
      unfold iv at *
      clear hG h0 h hW hx hc hWd hc2
      go_enter Try.func24, Try.ntmps24
      go_wp2_with fail
      rw [← HWd.out]
      with_reducible refine (HChk.out _).mono ?_
      rintro e w1 ⟨rfl, hc1⟩
      have HC1 := Lib.hid (HC.out.trans hc1)
      clear a0 a1 a2 a3 a4
      obtain ⟨a0, a1, a2, a3, a4⟩ := HI.out.ch hc1 (by simp)
      simp only at a0 a1 a2 a3 a4
      clear hc1
      go_wp2_with fail
      with_reducible refine (HCls.out _).mono ?_
      rintro e w1 ⟨rfl, rfl⟩
      go_wp2_with fail
      go_ret2
      rw [HZ.out]
      exact ⟨rfl, HC1.out⟩
  · have HZ := Lib.hid (show G = (false, chk ⟨op, d, s, o, i⟩) by rw [← hG]; unfold fjp; rw [if_pos h0])
    have hn : (chk ⟨op, d, s, o, i⟩ != 0) = true := by simpa using h0
    generalize chk ⟨op, d, s, o, i⟩ = c at *
    unfold iv at *
    clear hG h0 h hW hx hc hWd
    go_enter Try.func24, Try.ntmps24
    go_wp2_with fail
    rw [← HWd.out]
    with_reducible refine (HChk.out _).mono ?_
    rintro e w1 ⟨rfl, hc1⟩
    have HC1 := Lib.hid hc1
    clear hc1 a0 a1 a2 a3 a4
    go_wp2_with fail
    go_ret2
    rw [HZ.out]
    exact ⟨rfl, HC.out.trans HC1.out⟩
end Go.Proofs.Ytlffcccicpdnfaa
