/-
  Contracts of a ring of things of two parts: At.
-/
import Derived.Test.YtnnliimjemmekaaRgA
namespace Go.Proofs.Ytnnliimjemmekaa.rC
open Go.RowKit

attribute [local go_sem] Oper.semAt_some

theorem at_some {w : World} {R G room first held : Nat} {L : Nat → Th} (h : RC w R G room first held L) (i : Nat) (hi : i < held) :
    Calls Try.prog 35 #[.pointer (some ⟨R, 0, none⟩), .int .i64 (i : Int)] w fun e w' => e = .returned (.tuple #[.agg #[.int .i64 (L i).1, .int .i64 (L i).2], .bool true]) ∧ Ch [] w w' := by
  have hr := h.hr
  have hd1 : decide ((i : Int) < 0) = false := by simp
  have hd2 : decide ((held : Int) ≤ (i : Int)) = false := by simp; omega
  have HR := Lib.hid h
  have hc := h.cs i (by omega)
  have ht := h.ct i (by omega)
  have hbG : G < w.heap.size := cell_lt hc
  go_enter Try.func35, Try.ntmps35
  go_wp2_with fail
  have hB1 := (Box2.new w (.int .i64 0) (.int .i64 0) 51).alloc (.cells #[.int .i64 0, .int .i64 0] 51)
  have hC1 := ((Ch.refl [] w).alloc (.cells #[.int .i64 0, .int .i64 0] 51)).alloc (.cells #[.int .i64 0, .int .i64 0] 51)
  generalize (w.alloc (.cells #[.int .i64 0, .int .i64 0] 51)).alloc (.cells #[.int .i64 0, .int .i64 0] 51) = w1 at *
  have hR1 := HR.out.ch hC1 (by simp) (by simp)
  have HR1 := Lib.hid hR1
  have HC1 := Lib.hid hC1
  have hc1 := hR1.cs i (by omega)
  have ht1 := hR1.ct i (by omega)
  have HB := Lib.hid hB1
  obtain ⟨k0, k1, k2, k3⟩ := hB1
  obtain ⟨S, hS⟩ : ∃ S, S = w.heap.size := ⟨_, rfl⟩
  rw [← hS] at HB k0 k1 k2 k3 hbG ⊢
  have HSS := Lib.hid hS
  obtain ⟨x, hx⟩ : ∃ x, x = L i := ⟨_, rfl⟩
  rw [← hx] at hc1 ht1
  have HX := Lib.hid hx
  have hne : G ≠ S := by omega
  clear h hc ht hR1 hC1 hS hx
  refine (len_any HR1.out).mono ?_
  rintro e w' ⟨rfl, rfl⟩
  go_wp2_with fail
  refine (place_any HR1.out i (by omega)).mono ?_
  rintro e w' ⟨rfl, nq, rfl⟩
  go_wp2
  have hbx := (HB.out.drewN nq).set (.int .i64 x.1) (.int .i64 x.2)
  have h5 := hbx.c0
  have h6 := hbx.c1
  refine bodyPost_ret (v := .tuple #[.agg #[.int .i64 x.1, .int .i64 x.2], .bool true]) ?_ rfl ?_
  · simp [results, Try.f35, go_sem, h5, h6]
  · exact ⟨by rw [HX.out], chSetNew (chSetNew (HC1.out.drewN nq) (p := ⟨S, 0, none⟩) (by rw [HSS.out]; exact Nat.le_refl _) _) (p := ⟨S, 1, none⟩) (by rw [HSS.out]; exact Nat.le_refl _) _⟩

theorem at_none {w : World} {R G room first : Nat} {L : Nat → Th} (h : RC w R G room first 0 L) :
    Calls Try.prog 35 #[.pointer (some ⟨R, 0, none⟩), .int .i64 0] w fun e w' => e = .returned (.tuple #[.agg #[.int .i64 0, .int .i64 0], .bool false]) ∧ Ch [] w w' := by
  have hC1 := ((Ch.refl [] w).alloc (.cells #[.int .i64 0, .int .i64 0] 51)).alloc (.cells #[.int .i64 0, .int .i64 0] 51)
  have hR1 := h.ch hC1 (by simp) (by simp)
  have HR1 := Lib.hid hR1
  have HC1 := Lib.hid hC1
  clear h hR1 hC1
  go_enter Try.func35, Try.ntmps35
  go_wp2_with fail
  refine (len_any HR1.out).mono ?_
  rintro e w' ⟨rfl, rfl⟩
  go_wp2
  have hbx := ((Box2.new w (.int .i64 0) (.int .i64 0) 51).alloc (.cells #[.int .i64 0, .int .i64 0] 51))
  have h5 := hbx.c0
  have h6 := hbx.c1
  exact bodyPost_ret (v := .tuple #[.agg #[.int .i64 0, .int .i64 0], .bool false]) (by simp [results, Try.f35, go_sem, h5, h6]) rfl
    ⟨rfl, HC1.out⟩
end Go.Proofs.Ytnnliimjemmekaa.rC
