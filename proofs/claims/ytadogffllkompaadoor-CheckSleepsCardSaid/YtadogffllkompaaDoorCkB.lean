/-
  The document's Helper; whether one comes behind another, as the document asks it.
-/
import Derived.Test.YtadogffllkompaaDoorCkA
import Derived.Test.YtadogffllkompaaDoorIsP
namespace Go.Proofs.YtadogffllkompaaDoor
open Go.RowKit Go.BigFrame

attribute [local go_sem] Oper.semAt_some

def cN : Array Value := #[.string ⟨#[110, 111, 119]⟩, .string ⟨#[99, 112, 117]⟩, .string ⟨#[102, 105, 110, 100]⟩, .string ⟨#[112, 117, 116]⟩, .string ⟨#[100, 114, 111, 112]⟩, .string ⟨#[105, 110, 105, 116]⟩, .string ⟨#[99, 97, 108, 108, 98, 97, 99, 107]⟩, .string ⟨#[115, 116, 97, 114, 116]⟩, .string ⟨#[99, 97, 110, 99, 101, 108]⟩, .string ⟨#[115, 116, 111, 112]⟩, .string ⟨#[119, 111, 114, 107]⟩, .string ⟨#[113, 117, 101, 117, 101]⟩, .string ⟨#[99, 111, 112, 121, 105, 110]⟩, .string ⟨#[99, 111, 112, 121, 111, 117, 116]⟩, .string ⟨#[101, 109, 105, 116]⟩, .string ⟨#[112, 97, 117, 115, 101]⟩]
def cA : Array Value := #[.int .i64 0, .int .i64 0, .int .i64 2, .int .i64 4, .int .i64 2, .int .i64 1, .int .i64 2, .int .i64 4, .int .i64 1, .int .i64 1, .int .i64 2, .int .i64 1, .int .i64 3, .int .i64 3, .int .i64 1, .int .i64 0]
theorem cN_at (k : Nat) (hk : k < 16) : cN[k]? = some (.string ⟨(hN.getD k []).toArray⟩) :=
  match k, hk with
  | 0, _ => rfl
  | 1, _ => rfl
  | 2, _ => rfl
  | 3, _ => rfl
  | 4, _ => rfl
  | 5, _ => rfl
  | 6, _ => rfl
  | 7, _ => rfl
  | 8, _ => rfl
  | 9, _ => rfl
  | 10, _ => rfl
  | 11, _ => rfl
  | 12, _ => rfl
  | 13, _ => rfl
  | 14, _ => rfl
  | 15, _ => rfl
  | k + 16, h => absurd h (by omega)
theorem cA_at (k : Nat) (hk : k < 16) : cA[k]? = some (.int .i64 (hA.getD k 0)) :=
  match k, hk with
  | 0, _ => rfl
  | 1, _ => rfl
  | 2, _ => rfl
  | 3, _ => rfl
  | 4, _ => rfl
  | 5, _ => rfl
  | 6, _ => rfl
  | 7, _ => rfl
  | 8, _ => rfl
  | 9, _ => rfl
  | 10, _ => rfl
  | 11, _ => rfl
  | 12, _ => rfl
  | 13, _ => rfl
  | 14, _ => rfl
  | 15, _ => rfl
  | k + 16, h => absurd h (by omega)
set_option maxHeartbeats 2000000 in
theorem rhelp_any {z : Int} (_ : fit z) (w : World) : Calls Tryd.prog 9 #[.int .i64 z] w fun e w' => e = .returned (hV z) ∧ Ch [] w w' := by
  have HC := Lib.hid (((Ch.refl [] w).alloc (.cells cN 9)).alloc (.cells cA 3))
  unfold hV hnm har
  by_cases h : hlp z = true
  · rw [if_pos h, if_pos h, h]
    unfold hlp at h
    rw [decide_eq_true_eq] at h
    obtain ⟨k, hk⟩ : ∃ k : Nat, z - 1 = (k : Int) := ⟨(z - 1).toNat, by omega⟩
    have hk16 : k < 16 := by omega
    rw [hk, Int.toNat_natCast]
    have d1 : ¬ z < 1 := by omega
    have d2 : ¬ 16 < z := by omega
    have hw : IntKind.i64.wrap (z - 1) = (k : Int) := by rw [hk, IntKind.wrap_i64]; omega
    have h1 : ((w.alloc (.cells cN 9)).alloc (.cells cA 3)).cell? ⟨w.heap.size, k, none⟩ = some (.string ⟨(hN.getD k []).toArray⟩) := by
      have := cN_at k hk16
      rw [World.cell?_alloc_past _ _ _ (by simp), World.cell?_alloc_at _ _ _ _ rfl]
      simpa using this
    have h2 : ((w.alloc (.cells cN 9)).alloc (.cells cA 3)).cell? ⟨w.heap.size + 1, k, none⟩ = some (.int .i64 (hA.getD k 0)) := by
      have := cA_at k hk16
      rw [World.cell?_alloc_at _ _ _ _ (by simp)]
      simpa using this
    unfold cN cA at h1 h2 HC
    generalize hN.getD k [] = nm at *
    generalize hA.getD k 0 = ar at *
    clear h hk
    go_enter Tryd.func9, Tryd.ntmps9
    go_wp2_with fail
    go_quiet (fail)
    go_wp2_with fail
    go_ret3
    exact ⟨rfl, HC.out.drewN _⟩
  · rw [if_neg h, if_neg h]
    have hf : hlp z = false := by simpa using h
    rw [hf]
    unfold hlp at hf
    have HF := Lib.hid (of_decide_eq_false hf)
    unfold cN cA at HC
    clear h hf
    by_cases h1 : z < 1
    · go_enter Tryd.func9, Tryd.ntmps9
      go_wp2_with fail
      go_ret3
      exact ⟨rfl, HC.out⟩
    · have h2 : 16 < z := by have := HF.out; omega
      go_enter Tryd.func9, Tryd.ntmps9
      go_wp2_with fail
      go_ret3
      exact ⟨rfl, HC.out⟩

set_option maxHeartbeats 2000000 in
theorem rbhd_any {x : I5} (a t : Nat) (ha : a < 1000) (ht : t < 1000) (w : World) : Calls Tryd.prog 25 #[iv x, .int .i64 (a : Int), .int .i64 (t : Int)] w fun e w' => e = .returned (.bool (bhd x a t)) ∧ Ch [] w w' := by
  obtain ⟨op, d, s, o, i⟩ := x
  have HK := Lib.hid (fun w => kind_any op w)
  unfold kindR at HK
  have HF := Lib.hid (Five.new w ⟨op, d, s, o, i⟩ 35)
  have HC := Lib.hid ((Ch.refl [] w).alloc (.cells #[.int .i64 op, .int .i64 d, .int .i64 s, .int .i64 o, .int .i64 i] 35))
  obtain ⟨r, hr⟩ : ∃ r, bhd ⟨op, d, s, o, i⟩ a t = r := ⟨_, rfl⟩
  rw [hr]
  unfold bhd at hr
  simp only at *
  unfold iv
  by_cases h73 : op = 73
  · subst h73
    obtain rfl : r = false := by rw [← hr]; rfl
    clear hr HK
    go_enter Tryd.func25, Tryd.ntmps25
    go_wp2
    go_ret
    exact ⟨rfl, HC.out⟩
  · have h73b : (op == 73) = false := by simpa using h73
    have hw1 : IntKind.i64.wrap ((t : Int) - (a : Int)) = (t : Int) - (a : Int) := by rw [IntKind.wrap_i64]; omega
    have hw2 : IntKind.i64.wrap ((t : Int) - (a : Int) - 1) = (t : Int) - (a : Int) - 1 := by rw [IntKind.wrap_i64]; omega
    have hw3 : IntKind.i64.wrap ((a : Int) + 1) = (a : Int) + 1 := by rw [IntKind.wrap_i64]; omega
    obtain ⟨b1, hb1⟩ : ∃ b, (cls op == 2) = b := ⟨_, rfl⟩
    obtain ⟨b2, hb2⟩ : ∃ b, ((t : Int) - a - 1 == o) = b := ⟨_, rfl⟩
    obtain ⟨b3, hb3⟩ : ∃ b, (op != 32) = b := ⟨_, rfl⟩
    obtain ⟨b4, hb4⟩ : ∃ b, ((t : Int) == (a : Int) + 1) = b := ⟨_, rfl⟩
    have hb4' : (t == a + 1) = b4 := by rw [← hb4, Bool.eq_iff_iff]; simp; omega
    rw [hb1, hb2, hb3, hb4'] at hr
    have HR := Lib.hid hr
    have HN := Lib.hid h73
    clear hr ha ht hb4' h73
    go_enter Tryd.func25, Tryd.ntmps25
    go_wp2_with fail
    with_reducible refine (HK.out _).mono ?_
    rintro e w1 ⟨rfl, hc1⟩
    have HF1 := Lib.hid (HF.out.ch hc1 (by simp))
    have HC1 := Lib.hid (HC.out.trans hc1)
    clear hc1
    obtain ⟨a0, a1, a2, a3, a4⟩ := HF1.out
    simp only at a0 a1 a2 a3 a4
    generalize cls op = c at *
    cases b1 <;> cases b2 <;> cases b3 <;> cases b4
    all_goals
      go_wp2_with fail
      go_ret
      refine ⟨?_, HC1.out⟩
      first
        | rfl
        | (rw [← HR.out, show (op != 73) = true by simpa using HN.out]; rfl)
end Go.Proofs.YtadogffllkompaaDoor
