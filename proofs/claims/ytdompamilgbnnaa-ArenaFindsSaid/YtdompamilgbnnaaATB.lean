/-
  An arena of Thing: holds, empty, at.
-/
import Derived.Test.YtdompamilgbnnaaATA
namespace Go.Proofs.Ytdompamilgbnnaa.aT
open Go.RowKit

attribute [local go_sem] Oper.semAt_some

set_option maxHeartbeats 1000000 in
theorem empty_any {w : World} {R G : Nat} {xs : List (Sl Th)} (h : AC w R G xs) (k : Nat) (hk : k < xs.length) (hg : (at0 xs k).gen ≤ 255) :
    Calls Try.prog 37 #[.pointer (some ⟨G, k * 5, none⟩)] w fun e w' => (∃ v, e = .returned v) ∧ AC w' R G (xs.set k ⟨(at0 xs k).gen + 1, false, default⟩) ∧ Ch [G] w w' := by
  have hGl := h.lt.2
  have HB0 := Lib.hid (Box2.new w (.int .i64 0) (.string ⟨#[]⟩) 61)
  have HC0 := Lib.hid ((Ch.refl [] w).alloc (.cells #[.int .i64 0, .string ⟨#[]⟩] 61))
  have HA0 := Lib.hid (h.ch HC0.out (by simp) (by simp))
  clear h
  go_enter Try.func37, Try.ntmps37
  go_wp2
  obtain ⟨B, hB⟩ : ∃ B, B = w.heap.size := ⟨_, rfl⟩
  rw [← hB] at HB0 hGl ⊢
  clear hB
  generalize w.alloc (.cells #[.int .i64 0, .string ⟨#[]⟩] 61) = w1 at *
  have hN : ∀ a b : Nat, (⟨G, a, none⟩ : Addr) ≠ ⟨B, b, none⟩ := fun a b => addr_ne_block (by omega)
  obtain ⟨c0, c1, c2, c3, c4, f1, f2, f3, f4⟩ := HA0.out.sl k hk
  obtain ⟨b0, b1, _, _⟩ := HB0.out
  have b0' : (w1.setCell ⟨G, k * 5 + 2, none⟩ (.bool false)).cell? ⟨B, 0, none⟩ = some (.int .i64 0) := setCell_other b0 (hN _ _)
  have b1' : (w1.setCell ⟨G, k * 5 + 2, none⟩ (.bool false)).cell? ⟨B, 1, none⟩ = some (.string ⟨#[]⟩) := setCell_other b1 (hN _ _)
  have c3' : (w1.setCell ⟨G, k * 5 + 2, none⟩ (.bool false)).cell? ⟨G, k * 5 + 3, none⟩ = some (.int .i64 (at0 xs k).x.1) := setCell_other c3 (addr_ne_off (by omega))
  have c4' : ((w1.setCell ⟨G, k * 5 + 2, none⟩ (.bool false)).setCell ⟨G, k * 5 + 3, none⟩ (.int .i64 0)).cell? ⟨G, k * 5 + 3 + 1, none⟩ = some (.string (at0 xs k).x.2) := setCell_other (setCell_other c4 (addr_ne_off (by omega))) (addr_ne_off (by omega))
  have A : AC (((w1.setCell ⟨G, k * 5 + 2, none⟩ (.bool false)).setCell ⟨G, k * 5 + 3, none⟩ (.int .i64 0)).setCell ⟨G, k * 5 + 3 + 1, none⟩ (.string ⟨#[]⟩)) R G (xs.set k ⟨(at0 xs k).gen, false, default⟩) :=
    HA0.out.held' k hk false default ⟨by show (at0 xs k).gen ≤ 256; omega, fun e => by cases e⟩
  have hC : Ch [G] w (((w1.setCell ⟨G, k * 5 + 2, none⟩ (.bool false)).setCell ⟨G, k * 5 + 3, none⟩ (.int .i64 0)).setCell ⟨G, k * 5 + 3 + 1, none⟩ (.string ⟨#[]⟩)) :=
    (((HC0.out.mono (T := [G]) (by simp)).setCell (p := ⟨G, k * 5 + 2, none⟩) (by simp) (.bool false)).setCell (p := ⟨G, k * 5 + 3, none⟩) (by simp) (.int .i64 0)).setCell (p := ⟨G, k * 5 + 3 + 1, none⟩) (by simp) (.string ⟨#[]⟩)
  have HA1 := Lib.hid A
  have HC1 := Lib.hid hC
  clear A hC hN
  go_region
  all_goals
    clear c0 c1 c2 c3 c4 f1 f2 f3 f4 b0 b1 b0' b1' c3' c4'
    generalize (((w1.setCell ⟨G, k * 5 + 2, none⟩ (.bool false)).setCell ⟨G, k * 5 + 3, none⟩ (.int .i64 0)).setCell ⟨G, k * 5 + 3 + 1, none⟩ (.string ⟨#[]⟩)) = w2 at *
    have hB := HA1.out.gen' k (by simpa using hk) ((at0 xs k).gen + 1) ⟨by show (at0 xs k).gen + 1 ≤ 256; omega, fun e => by rw [at0_set_same _ _ _ hk] at e; cases e⟩
    rw [List.set_set, at0_set_same _ _ _ hk] at hB
    have d := HA1.out.sl k (by simpa using hk)
    rw [at0_set_same _ _ _ hk] at d
    have d1 := d.c1
    have e1 := d.f1
    have HB := Lib.hid (hB.drewN 1)
    have HC2 := Lib.hid ((HC1.out.setCell (p := ⟨G, k * 5 + 1, none⟩) (by simp) (.int .i64 (((at0 xs k).gen + 1 : Nat) : Int))).drewN 1)
    clear hB d hk
    simp only at d1
    go_wp2
    go_end0
    exact ⟨⟨_, rfl⟩, HB.out, HC2.out⟩
end Go.Proofs.Ytdompamilgbnnaa.aT
