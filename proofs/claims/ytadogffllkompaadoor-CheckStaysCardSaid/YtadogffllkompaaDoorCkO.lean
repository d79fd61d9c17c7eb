/-
  The chapter's examples.
-/
import Derived.Test.YtadogffllkompaaDoorCkN
namespace Go.Proofs.YtadogffllkompaaDoor
open Go.RowKit

attribute [local go_sem] Oper.semAt_some

theorem ins_new (W : World) (L : List I5) {cs : Array Value} (hcs : cs = (L.flatMap fiv).toArray) (t : TypeId) : InsAt (W.alloc (.cells cs t)) (some ⟨W.heap.size, 0, none⟩) L := by
  refine .inr ⟨W.heap.size, 0, rfl, fun i hi => ?_⟩
  have e : ∀ k, (W.alloc (.cells cs t)).cell? ⟨W.heap.size, k, none⟩ = (L.flatMap fiv)[k]? := fun k => by
    rw [World.cell?_alloc_at _ _ _ _ rfl, hcs]
    simp
  obtain ⟨h0, h1, h2, h3, h4⟩ := fivs_at L i hi
  rw [Nat.zero_add]
  exact ⟨(e _).trans h0, (e _).trans h1, (e _).trans h2, (e _).trans h3, (e _).trans h4⟩
theorem chk_new {W : World} {L : List I5} {cs : Array Value} (hcs : cs = (L.flatMap fiv).toArray) {n : Nat} (hL : L.length = n) (hfit : ∀ x ∈ L, Fit x) {sl : Bool} {p e : Int} (hr : (((res L sl).1 : Nat) : Int) = p ∧ (res L sl).2 = e) (hT : Tb W) :
    Calls Tryd.prog 20 #[.agg #[.slice (some ⟨W.heap.size, 0, none⟩) n n, .bool sl]] (W.alloc (.cells cs 51)) fun v w' => v = .returned (.tuple #[.int .i64 p, .int .i64 e]) ∧ Ch [] W w' := by
  refine (pcheck_any hL hfit (ins_new W L hcs _) (hT.ch ((Ch.refl [] W).alloc _))).mono ?_
  rintro v w' ⟨rfl, hc⟩
  rw [hr.1, hr.2]
  exact ⟨rfl, ((Ch.refl [] W).alloc _).trans hc⟩

theorem lk0 (L : List I5) (sl : Bool) (a : Nat) : lk L sl 0 a = chk (ia L a) := by unfold lk; rw [if_pos rfl]
theorem lk1 (L : List I5) (sl : Bool) (a : Nat) : lk L sl 1 a = wrg L.length sl (ia L a) a := by unfold lk; rw [if_neg (by decide), if_pos rfl]
theorem lk2 (L : List I5) (sl : Bool) (a : Nat) : lk L sl 2 a = if rb L a = true then 0 else 19 := by unfold lk; rw [if_neg (by decide), if_neg (by decide)]
def mov7 : I5 := ⟨11, 0, 0, 0, 7⟩
def exi : I5 := ⟨73, 0, 0, 0, 0⟩
def jaN (o : Int) : I5 := ⟨32, 0, 0, o, 0⟩
def jeq1 : I5 := ⟨33, 1, 0, -1, 0⟩
theorem fit_small {x : I5} (h : (-1000 ≤ x.op ∧ x.op ≤ 1000) ∧ (-1000 ≤ x.d ∧ x.d ≤ 1000) ∧ (-1000 ≤ x.s ∧ x.s ≤ 1000) ∧ (-1000 ≤ x.o ∧ x.o ≤ 1000) ∧ (-1000 ≤ x.i ∧ x.i ≤ 1000)) : Fit x := by
  obtain ⟨h1, h2, h3, h4, h5⟩ := h
  exact ⟨⟨by omega, by omega⟩, ⟨by omega, by omega⟩, ⟨by omega, by omega⟩, ⟨by omega, by omega⟩, ⟨by omega, by omega⟩⟩
theorem fit_lits : Fit mov7 ∧ Fit exi ∧ Fit (jaN 0) ∧ Fit (jaN (-1)) ∧ Fit jeq1 := by
  refine ⟨fit_small ?_, fit_small ?_, fit_small ?_, fit_small ?_, fit_small ?_⟩ <;> decide

theorem resA : ((((res [mov7, exi] false).1 : Nat) : Int) = 0 ∧ (res [mov7, exi] false).2 = 0) := by
  have h0 : Rch [mov7, exi] 0 := .zero (by decide)
  have h1 : Rch [mov7, exi] 1 := .step h0 (by decide) (by decide +kernel)
  rw [res_ok (by decide) (fun j hj b hb => by
    have hb : b = 0 ∨ b = 1 := by have : b < 2 := hb; omega
    obtain rfl | rfl | rfl : j = 0 ∨ j = 1 ∨ j = 2 := by omega
    · rcases hb with rfl | rfl <;> rw [lk0] <;> decide +kernel
    · rcases hb with rfl | rfl <;> rw [lk1] <;> decide +kernel
    · show (if rb _ b = true then (0 : Int) else 19) = 0
      rcases hb with rfl | rfl
      · rw [if_pos (rb_iff.2 h0)]
      · rw [if_pos (rb_iff.2 h1)])]
  exact ⟨rfl, rfl⟩
theorem resB : ((((res [exi, exi] false).1 : Nat) : Int) = 1 ∧ (res [exi, exi] false).2 = 19) := by
  have h0 : Rch [exi, exi] 0 := .zero (by decide)
  have h1 : ¬ Rch [exi, exi] 1 := by
    intro h
    cases h with
    | step ha ht hb =>
      rename_i x
      have hx : x = 0 ∨ x = 1 := by have := ha.lt.2; have : x < 2 := this; omega
      rcases hx with rfl | rfl
      · exact absurd hb (by decide +kernel)
      · exact absurd hb (by decide +kernel)
  have e19 : lk [exi, exi] false 2 1 = 19 := by show (if rb _ 1 = true then (0 : Int) else 19) = 19; rw [if_neg (fun h => h1 (rb_iff.1 h))]
  rw [res_at (by decide) (k := 2) (a := 1) (by decide) (by decide) (by rw [e19]; decide) (fun b hb => by
      obtain rfl : b = 0 := by omega
      show (if rb _ 0 = true then (0 : Int) else 19) = 0
      rw [if_pos (rb_iff.2 h0)]) (fun j hj b hb => by
    have hb : b = 0 ∨ b = 1 := by have : b < 2 := hb; omega
    obtain rfl | rfl : j = 0 ∨ j = 1 := by omega
    · rcases hb with rfl | rfl <;> rw [lk0] <;> decide +kernel
    · rcases hb with rfl | rfl <;> rw [lk1] <;> decide +kernel), e19]
  exact ⟨rfl, rfl⟩
theorem resC : ((((res [jaN 0] false).1 : Nat) : Int) = 0 ∧ (res [jaN 0] false).2 = 2) := by
  have e2 : lk [jaN 0] false 1 0 = 2 := by rw [lk1]; decide +kernel
  rw [res_at (by decide) (k := 1) (a := 0) (by decide) (by decide) (by rw [e2]; decide) (fun b hb => absurd hb (by omega)) (fun j hj b hb => by
    obtain rfl : b = 0 := by have : b < 1 := hb; omega
    obtain rfl : j = 0 := by omega
    rw [lk0]
    decide +kernel), e2]
  exact ⟨rfl, rfl⟩
theorem resD : ((((res [jaN (-1)] false).1 : Nat) : Int) = 0 ∧ (res [jaN (-1)] false).2 = 0) := by
  have h0 : Rch [jaN (-1)] 0 := .zero (by decide)
  rw [res_ok (by decide) (fun j hj b hb => by
    obtain rfl : b = 0 := by have : b < 1 := hb; omega
    obtain rfl | rfl | rfl : j = 0 ∨ j = 1 ∨ j = 2 := by omega
    · rw [lk0]; decide +kernel
    · rw [lk1]; decide +kernel
    · show (if rb _ 0 = true then (0 : Int) else 19) = 0
      rw [if_pos (rb_iff.2 h0)])]
  exact ⟨rfl, rfl⟩
theorem resE : ((((res [jeq1] false).1 : Nat) : Int) = 0 ∧ (res [jeq1] false).2 = 10) := by
  have e2 : lk [jeq1] false 1 0 = 10 := by rw [lk1]; decide +kernel
  rw [res_at (by decide) (k := 1) (a := 0) (by decide) (by decide) (by rw [e2]; decide) (fun b hb => absurd hb (by omega)) (fun j hj b hb => by
    obtain rfl : b = 0 := by have : b < 1 := hb; omega
    obtain rfl : j = 0 := by omega
    rw [lk0]
    decide +kernel), e2]
  exact ⟨rfl, rfl⟩

set_option maxRecDepth 10000 in
set_option maxHeartbeats 8000000 in
theorem known_any {w : World} (hT : Tb w) : Calls Tryd.prog 10 #[] w fun e w' => e = .returned (.bool true) ∧ Ch [] w w' := by
  obtain ⟨f1, f2, f3, f4, f5⟩ := fit_lits
  have HA := Lib.hid (fun (W : World) (h : Tb W) => chk_new (W := W) (L := [mov7, exi]) (cs := #[.int .i64 11, .int .i64 0, .int .i64 0, .int .i64 0, .int .i64 7, .int .i64 73, .int .i64 0, .int .i64 0, .int .i64 0, .int .i64 0]) rfl (n := 2) rfl (by intro x hx; simp at hx; rcases hx with rfl | rfl <;> assumption) resA h)
  have HB := Lib.hid (fun (W : World) (h : Tb W) => chk_new (W := W) (L := [exi, exi]) (cs := #[.int .i64 73, .int .i64 0, .int .i64 0, .int .i64 0, .int .i64 0, .int .i64 73, .int .i64 0, .int .i64 0, .int .i64 0, .int .i64 0]) rfl (n := 2) rfl (by intro x hx; simp at hx; subst hx; assumption) resB h)
  have HC := Lib.hid (fun (W : World) (h : Tb W) => chk_new (W := W) (L := [jaN 0]) (cs := #[.int .i64 32, .int .i64 0, .int .i64 0, .int .i64 0, .int .i64 0]) rfl (n := 1) rfl (by intro x hx; simp at hx; subst hx; assumption) resC h)
  have HD := Lib.hid (fun (W : World) (h : Tb W) => chk_new (W := W) (L := [jaN (-1)]) (cs := #[.int .i64 32, .int .i64 0, .int .i64 0, .int .i64 (-1), .int .i64 0]) rfl (n := 1) rfl (by intro x hx; simp at hx; subst hx; assumption) resD h)
  have HE := Lib.hid (fun (W : World) (h : Tb W) => chk_new (W := W) (L := [jeq1]) (cs := #[.int .i64 33, .int .i64 1, .int .i64 0, .int .i64 (-1), .int .i64 0]) rfl (n := 1) rfl (by intro x hx; simp at hx; subst hx; assumption) resE h)
  have HT := Lib.hid hT
  have HF1 := Lib.hid ((Five.new w mov7 51).ch ((Ch.refl [] _).alloc (.cells #[.int .i64 73, .int .i64 0, .int .i64 0, .int .i64 0, .int .i64 0] 51)) (by simp))
  have HF2 := Lib.hid (show Five ((w.alloc (.cells #[.int .i64 11, .int .i64 0, .int .i64 0, .int .i64 0, .int .i64 7] 51)).alloc (.cells #[.int .i64 73, .int .i64 0, .int .i64 0, .int .i64 0, .int .i64 0] 51)) (w.heap.size + 1) exi from by have := Five.new (w.alloc (.cells #[.int .i64 11, .int .i64 0, .int .i64 0, .int .i64 0, .int .i64 7] 51)) exi 51; rw [World.size_alloc] at this; exact this)
  have HC0 := Lib.hid (((Ch.refl [] w).alloc (.cells #[.int .i64 11, .int .i64 0, .int .i64 0, .int .i64 0, .int .i64 7] 51)).alloc (.cells #[.int .i64 73, .int .i64 0, .int .i64 0, .int .i64 0, .int .i64 0] 51))
  obtain ⟨w0, hw0⟩ : ∃ w0, (w.alloc (.cells #[.int .i64 11, .int .i64 0, .int .i64 0, .int .i64 0, .int .i64 7] 51)).alloc (.cells #[.int .i64 73, .int .i64 0, .int .i64 0, .int .i64 0, .int .i64 0] 51) = w0 := ⟨_, rfl⟩
  have HW0 := Lib.hid hw0
  rw [show w.alloc (.cells #[.int .i64 mov7.op, .int .i64 mov7.d, .int .i64 mov7.s, .int .i64 mov7.o, .int .i64 mov7.i] 51) = w.alloc (.cells #[.int .i64 11, .int .i64 0, .int .i64 0, .int .i64 0, .int .i64 7] 51) from rfl] at HF1
  rw [hw0] at HF1 HF2 HC0
  clear hT f1 f2 f3 f4 f5 hw0
  go_enter Tryd.func10, Tryd.ntmps10
  refine wp_seq_k (fun K0 hK0 => ?_)
  have HK0 := Lib.hid hK0
  clear hK0
  go_wp2
  refine HK0.out _ _ ?_
  clear HK0
  refine wp_seq_k (fun K0 hK0 => ?_)
  have HK0 := Lib.hid hK0
  clear hK0
  go_wp2
  refine HK0.out _ _ ?_
  clear HK0
  rw [HW0.out]
  obtain ⟨a0, a1, a2, a3, a4⟩ := HF1.out
  obtain ⟨b0, b1, b2, b3, b4⟩ := HF2.out
  simp only [mov7, exi] at a0 a1 a2 a3 a4 b0 b1 b2 b3 b4
  go_wp2_with fail
  with_reducible refine (HA.out _ (HT.out.ch HC0.out)).mono ?_
  rintro e w1 ⟨rfl, hc1⟩
  have HC1 := Lib.hid (HC0.out.trans hc1)
  have HF3 := Lib.hid (HF2.out.ch hc1 (by simp))
  clear hc1 a0 a1 a2 a3 a4 b0 b1 b2 b3 b4 HF2
  obtain ⟨b0, b1, b2, b3, b4⟩ := HF3.out
  simp only [exi] at b0 b1 b2 b3 b4
  go_wp2_with fail
  with_reducible refine (HB.out _ (HT.out.ch HC1.out)).mono ?_
  rintro e w2 ⟨rfl, hc2⟩
  have HC2 := Lib.hid (HC1.out.trans hc2)
  clear hc2 b0 b1 b2 b3 b4
  go_wp2_with fail
  with_reducible refine (HC.out _ (HT.out.ch HC2.out)).mono ?_
  rintro e w3 ⟨rfl, hc3⟩
  have HC3 := Lib.hid (HC2.out.trans hc3)
  clear hc3
  go_wp2_with fail
  with_reducible refine (HD.out _ (HT.out.ch HC3.out)).mono ?_
  rintro e w4 ⟨rfl, hc4⟩
  have HC4 := Lib.hid (HC3.out.trans hc4)
  clear hc4
  go_wp2_with fail
  with_reducible refine (HE.out _ (HT.out.ch HC4.out)).mono ?_
  rintro e w5 ⟨rfl, hc5⟩
  have HC5 := Lib.hid (HC4.out.trans hc5)
  clear hc5
  go_wp2_with fail
  go_ret
  exact ⟨rfl, HC5.out⟩
end Go.Proofs.YtadogffllkompaaDoor
