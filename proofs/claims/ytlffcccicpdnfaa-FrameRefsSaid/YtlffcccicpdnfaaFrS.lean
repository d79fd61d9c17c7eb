/-
  Same: a frame is the document's.
-/
import Derived.Test.YtlffcccicpdnfaaFrR
namespace Go.Proofs.Ytlffcccicpdnfaa
open Go.RowKit Go.BigFrame

attribute [local go_sem] Oper.semAt_some

set_option maxRecDepth 20000 in
set_option maxHeartbeats 8000000 in
theorem same18 {w : World} {b : Nat} {F : FV} (h : FR w b F) :
    Calls Try.prog 14 #[.pointer (some ⟨b, 0, none⟩), .agg (fl F).toArray] w fun e w' => e = .returned (.bool true) ∧ Ch [] w w' := by
  obtain ⟨R, hR⟩ : ∃ R, w.heap.size = R := ⟨_, rfl⟩
  obtain ⟨W, hW⟩ : ∃ W, w.alloc (.cells (fl F).toArray 32) = W := ⟨_, rfl⟩
  have hc : Ch [] w W := by rw [← hW]; exact (Ch.refl [] w).alloc _
  have HF := Lib.hid (h.quiet hc)
  have HR := Lib.hid (show FR W R F by rw [← hW, ← hR]; exact FR.new w F _)
  have HC := Lib.hid hc
  have HRs := Lib.hid hR
  have HWs := Lib.hid hW
  clear h hc hR hW
  go_enter Try.func14, Try.ntmps14
  go_wp2_with fail
  rw [HRs.out, HWs.out]
  go_loopw [5] (fun i wr => ∃ k : Nat, i = .int .i64 (k : Int) ∧ k ≤ 10 ∧ Ch [] W wr) (fun i _ => 10 - (intOf i).toNat)
  case atStart => exact ⟨0, rfl, by decide, Ch.refl _ _⟩
  case round =>
    obtain ⟨k, rfl, hk, hc⟩ := hrel
    have HC1 := Lib.hid hc
    have HF1 := Lib.hid (HF.out.quiet hc)
    have HR1 := Lib.hid (HR.out.quiet hc)
    clear hc
    by_cases hk10 : k < 10
    · have hk10' : (k : Int) < 10 := by omega
      have hk18 : (k : Int) < 18 := by omega
      have HRg := Lib.hid (reg_in HF1.out hk10)
      have HY := Lib.hid (HR1.out.reg hk10)
      have HO := Lib.hid (fun w => of5_any (F k) w)
      have HE := Lib.hid (fun w => by have := eq_rv (F k) (F k) w; rw [eqV_self] at this; exact this)
      generalize F k = x at *
      unfold vv at HRg HO HE
      go_wp2_with fail
      with_reducible refine HRg.out.mono ?_
      rintro e w2 ⟨rfl, hc2⟩
      obtain ⟨V, hV⟩ : ∃ b, w2.heap.size = b := ⟨_, rfl⟩
      obtain ⟨w3, hw3⟩ : ∃ W, w2.alloc (.cells #[.bool x.r, .int .i64 x.m, .int .i64 x.s, .int .i64 x.g, .int .u64 (x.n : Int)] 38) = W := ⟨_, rfl⟩
      have HB := Lib.hid (show B5 w3 V x by rw [← hw3, ← hV]; exact B5.new w2 x _)
      have hc3 := hc2.alloc (.cells #[.bool x.r, .int .i64 x.m, .int .i64 x.s, .int .i64 x.g, .int .u64 (x.n : Int)] 38)
      rw [hw3] at hc3
      have HC3 := Lib.hid (HC1.out.trans hc3)
      have HY3 := Lib.hid (HY.out.ch hc3 (by simp))
      have HV := Lib.hid hV
      have HW3 := Lib.hid hw3
      clear hc2 hc3 HRg hV hw3 HY
      obtain ⟨Gt, f', hf1, hf2⟩ := worlds_of w3
      have hx0 : ∀ g : Gt, (f' g).cell? ⟨V, 0, none⟩ = some (.bool x.r) := fun g => (HB.out.quiet (hf1 g)).a.c0
      have hx1 : ∀ g : Gt, (f' g).cell? ⟨V, 1, none⟩ = some (.int .i64 x.m) := fun g => (HB.out.quiet (hf1 g)).a.c1
      have hx2 : ∀ g : Gt, (f' g).cell? ⟨V, 2, none⟩ = some (.int .i64 x.s) := fun g => (HB.out.quiet (hf1 g)).a.c2
      have hx3 : ∀ g : Gt, (f' g).cell? ⟨V, 3, none⟩ = some (.int .i64 x.g) := fun g => (HB.out.quiet (hf1 g)).a.c3
      have hx4 : ∀ g : Gt, (f' g).cell? ⟨V, 4, none⟩ = some (.int .u64 (x.n : Int)) := fun g => (HB.out.quiet (hf1 g)).a.c4
      have hy0 : ∀ g : Gt, (f' g).cell? ⟨R, k * 5, none⟩ = some (.bool x.r) := fun g => (HY3.out.ch (hf1 g) (by simp)).c0
      have hy1 : ∀ g : Gt, (f' g).cell? ⟨R, k * 5 + 1, none⟩ = some (.int .i64 x.m) := fun g => (HY3.out.ch (hf1 g) (by simp)).c1
      have hy2 : ∀ g : Gt, (f' g).cell? ⟨R, k * 5 + 2, none⟩ = some (.int .i64 x.s) := fun g => (HY3.out.ch (hf1 g) (by simp)).c2
      have hy3 : ∀ g : Gt, (f' g).cell? ⟨R, k * 5 + 3, none⟩ = some (.int .i64 x.g) := fun g => (HY3.out.ch (hf1 g) (by simp)).c3
      have hy4 : ∀ g : Gt, (f' g).cell? ⟨R, k * 5 + 4, none⟩ = some (.int .u64 (x.n : Int)) := fun g => (HY3.out.ch (hf1 g) (by simp)).c4
      have hne : Nonempty Gt := ⟨(hf2 w3 (Ch.refl _ _)).choose⟩
      have HZ1 := Lib.hid hf1
      have HZ2 := Lib.hid hf2
      have HQ := Ch.refl [] w3
      have e1 := HE.out
      clear hf1 hf2
      go_wp2_with fail
      rw [HV.out, HW3.out]
      refine wp_region_worlds f' (by kernel_rfl) (by kernel_rfl) (HZ2.out _ HQ.drew) ?_
      repeat (go_big_quiet_step (first
        | (with_reducible refine (HO.out _).mono ?_; rintro r w' ⟨rfl, hcw⟩; exact ⟨rfl, HZ2.out w' ((HZ1.out _).trans hcw)⟩)))
      refine wpQuiet_nil ?_
      rintro _ ⟨gz, rfl⟩
      have HZ := Lib.hid (HC3.out.trans (HZ1.out gz))
      generalize f' gz = wz at *
      clear hx0 hx1 hx2 hx3 hx4 hy0 hy1 hy2 hy3 hy4 hne HQ e1
      go_wp2_with fail
      go_roundw
      case rel => exact ⟨k + 1, by go_num, by omega, HZ.out⟩
      case measure => simp [intOf]; omega
    · have hk10' : ¬ (k : Int) < 10 := by omega
      clear hk10
      go_wp2_with fail
      go_loopw [8] (fun i wr => ∃ k : Nat, i = .int .i64 (k : Int) ∧ k ≤ 8 ∧ Ch [] W wr) (fun i _ => 8 - (intOf i).toNat)
      case atStart => exact ⟨0, rfl, by decide, HC1.out⟩
      case round =>
        clear hk10'
        obtain ⟨k, rfl, hk, hc⟩ := hrel
        have HC1 := Lib.hid hc
        have HF1 := Lib.hid (HF.out.quiet hc)
        have HR1 := Lib.hid (HR.out.quiet hc)
        clear hc
        by_cases hk8 : k < 8
        · have hk8' : (k : Int) < 8 := by omega
          obtain ⟨kk, hkk⟩ : ∃ kk, 10 + k = kk := ⟨_, rfl⟩
          have hk18 : (kk : Int) < 18 := by omega
          have hwr : IntKind.i64.wrap (10 + (k : Int)) = (kk : Int) := by rw [IntKind.wrap_i64]; omega
          have HRg := Lib.hid (word_in HF1.out hk8)
          have HY := Lib.hid (HR1.out.a kk (by omega))
          have HO := Lib.hid (fun w => of5_any (F kk) w)
          have HE := Lib.hid (fun w => by have := eq_rv (F kk) (F kk) w; rw [eqV_self] at this; exact this)
          rw [hkk] at HRg
          generalize F kk = x at *
          clear hkk
          unfold vv at HRg HO HE
          go_wp2_with fail
          with_reducible refine HRg.out.mono ?_
          rintro e w2 ⟨rfl, hc2⟩
          obtain ⟨V, hV⟩ : ∃ b, w2.heap.size = b := ⟨_, rfl⟩
          obtain ⟨w3, hw3⟩ : ∃ W, w2.alloc (.cells #[.bool x.r, .int .i64 x.m, .int .i64 x.s, .int .i64 x.g, .int .u64 (x.n : Int)] 38) = W := ⟨_, rfl⟩
          have HB := Lib.hid (show B5 w3 V x by rw [← hw3, ← hV]; exact B5.new w2 x _)
          have hc3 := hc2.alloc (.cells #[.bool x.r, .int .i64 x.m, .int .i64 x.s, .int .i64 x.g, .int .u64 (x.n : Int)] 38)
          rw [hw3] at hc3
          have HC3 := Lib.hid (HC1.out.trans hc3)
          have HY3 := Lib.hid (HY.out.ch hc3 (by simp))
          have HV := Lib.hid hV
          have HW3 := Lib.hid hw3
          clear hc2 hc3 HRg hV hw3 HY
          obtain ⟨Gt, f', hf1, hf2⟩ := worlds_of w3
          have hx0 : ∀ g : Gt, (f' g).cell? ⟨V, 0, none⟩ = some (.bool x.r) := fun g => (HB.out.quiet (hf1 g)).a.c0
          have hx1 : ∀ g : Gt, (f' g).cell? ⟨V, 1, none⟩ = some (.int .i64 x.m) := fun g => (HB.out.quiet (hf1 g)).a.c1
          have hx2 : ∀ g : Gt, (f' g).cell? ⟨V, 2, none⟩ = some (.int .i64 x.s) := fun g => (HB.out.quiet (hf1 g)).a.c2
          have hx3 : ∀ g : Gt, (f' g).cell? ⟨V, 3, none⟩ = some (.int .i64 x.g) := fun g => (HB.out.quiet (hf1 g)).a.c3
          have hx4 : ∀ g : Gt, (f' g).cell? ⟨V, 4, none⟩ = some (.int .u64 (x.n : Int)) := fun g => (HB.out.quiet (hf1 g)).a.c4
          have hy0 : ∀ g : Gt, (f' g).cell? ⟨R, kk * 5, none⟩ = some (.bool x.r) := fun g => (HY3.out.ch (hf1 g) (by simp)).c0
          have hy1 : ∀ g : Gt, (f' g).cell? ⟨R, kk * 5 + 1, none⟩ = some (.int .i64 x.m) := fun g => (HY3.out.ch (hf1 g) (by simp)).c1
          have hy2 : ∀ g : Gt, (f' g).cell? ⟨R, kk * 5 + 2, none⟩ = some (.int .i64 x.s) := fun g => (HY3.out.ch (hf1 g) (by simp)).c2
          have hy3 : ∀ g : Gt, (f' g).cell? ⟨R, kk * 5 + 3, none⟩ = some (.int .i64 x.g) := fun g => (HY3.out.ch (hf1 g) (by simp)).c3
          have hy4 : ∀ g : Gt, (f' g).cell? ⟨R, kk * 5 + 4, none⟩ = some (.int .u64 (x.n : Int)) := fun g => (HY3.out.ch (hf1 g) (by simp)).c4
          have hne : Nonempty Gt := ⟨(hf2 w3 (Ch.refl _ _)).choose⟩
          have HZ1 := Lib.hid hf1
          have HZ2 := Lib.hid hf2
          have HQ := Ch.refl [] w3
          have e1 := HE.out
          clear hf1 hf2
          go_wp2_with fail
          rw [HV.out, HW3.out]
          refine wp_region_worlds f' (by kernel_rfl) (by kernel_rfl) (HZ2.out _ HQ.drew) ?_
          repeat (go_big_quiet_step (first
            | (with_reducible refine (HO.out _).mono ?_; rintro r w' ⟨rfl, hcw⟩; exact ⟨rfl, HZ2.out w' ((HZ1.out _).trans hcw)⟩)))
          refine wpQuiet_nil ?_
          rintro _ ⟨gz, rfl⟩
          have HZ := Lib.hid (HC3.out.trans (HZ1.out gz))
          generalize f' gz = wz at *
          clear hx0 hx1 hx2 hx3 hx4 hy0 hy1 hy2 hy3 hy4 hne HQ e1
          go_wp2_with fail
          go_roundw
          case rel => exact ⟨k + 1, by go_num, by omega, HZ.out⟩
          case measure => simp [intOf]; omega
        · have hk8' : ¬ (k : Int) < 8 := by omega
          clear hk8
          go_wp2_with fail
          go_ret
          exact ⟨rfl, HC.out.trans HC1.out⟩
end Go.Proofs.Ytlffcccicpdnfaa
