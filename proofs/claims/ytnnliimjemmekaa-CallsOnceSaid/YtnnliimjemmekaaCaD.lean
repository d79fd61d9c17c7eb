/-
  Close.
-/
import Derived.Test.YtnnliimjemmekaaCaC
namespace Go.Proofs.Ytnnliimjemmekaa
open Go.RowKit Go.Shelf
open rC (Th RL flat tv)

attribute [local go_sem] Oper.semAt_some

/-- The sum over the first CPUs. -/
def sumN (g : Nat → Nat) : Nat → Nat
  | 0 => 0
  | k + 1 => sumN g k + g k
theorem sumN_le {g : Nat → Nat} {b n : Nat} (h : ∀ i, i < n → g i ≤ b) : ∀ k, k ≤ n → sumN g k ≤ k * b
  | 0, _ => by simp [sumN]
  | k + 1, hk => by
    have h1 := sumN_le h k (by omega)
    have h2 := h k (by omega)
    simp only [sumN, Nat.succ_mul]
    omega
/-- What is left to do, CPU by CPU. -/
def partF (k : Nat) (g : List Th → List Th) (f : Nat → List Th) : Nat → List Th := fun i => if i < k then g (f i) else f i
theorem partF_zero (g : List Th → List Th) (f : Nat → List Th) : partF 0 g f = f := by
  funext i; unfold partF; rw [if_neg (by omega)]
theorem partF_at (k : Nat) (g : List Th → List Th) (f : Nat → List Th) : partF k g f k = f k := by unfold partF; rw [if_neg (by omega)]
theorem partF_succ (k : Nat) (g : List Th → List Th) (f : Nat → List Th) : partF (k + 1) g f = updF (partF k g f) k (g (f k)) := by
  funext i
  unfold partF updF
  by_cases e : i = k
  · subst e; rw [if_pos (by omega), if_pos rfl]
  · rw [if_neg e]
    by_cases h : i < k
    · rw [if_pos (by omega)]; show _ = if i < k then g (f i) else f i; rw [if_pos h]
    · rw [if_neg (by omega)]; show _ = if i < k then g (f i) else f i; rw [if_neg h]

section
variable {w : World} {base top A G n : Nat} {last : Int} {R Q : Nat → Nat} {f : Nat → List Th}
theorem CL.congr (h : CL w base top A G n last R Q f) {g : Nat → List Th} (hg : ∀ i, i < n → g i = f i) : CL w base top A G n last R Q g :=
  ⟨h.n1, h.n64, h.c0, h.c1, h.f1, h.row, fun i hi => by rw [hg i hi]; exact h.ring i hi, h.gl, h.ga, h.aq, h.qr, h.mono, h.rt, h.hi⟩
theorem CL.setLast (h : CL w base top A G n last R Q f) (gen : Int) : CL (w.setCell ⟨A, 1, none⟩ (.int .i64 gen)) base top A G n gen R Q f := by
  have hc : Ch [A] w (w.setCell ⟨A, 1, none⟩ (.int .i64 gen)) := (Ch.refl [A] w).setCell (p := ⟨A, 1, none⟩) (by simp) _
  have hga := h.ga
  refine ⟨h.n1, h.n64, setCell_other h.c0 (addr_ne_off (by decide)), setCell_same h.c1, by simpa using h.f1, fun i hi => setCell_other (h.row i hi) (addr_ne_block (by omega)), fun i hi => ?_, h.gl, h.ga, h.aq, h.qr, h.mono, h.rt, by simpa [World.setCell] using h.hi⟩
  have := h.aq i hi
  have := h.qr i hi
  exact (h.ring i hi).ch hc (by simp; omega) (by simp; omega)

set_option maxHeartbeats 1000000 in
theorem close_ok (h : CL w base top A G n last R Q f) {gen : Int} (h1 : 1 ≤ gen) (h2 : last ≤ gen) :
    Calls Try.prog 11 #[.pointer (some ⟨A, 0, none⟩), .int .i64 gen] w fun e w' =>
      e = .returned (.int .i64 (sumN (fun i => zc (f i)) n : Int)) ∧ CL w' base top A G n gen R Q (fun i => (f i).map (giveT gen)) ∧ ChP (Own base top) w w' := by
  have HC := Lib.hid h
  have HS := Lib.hid (sumN_le (g := fun i => zc (f i)) (b := 64) (n := n) (fun i hi => Nat.le_trans (zc_le _) (h.ring i hi).le.1))
  have hn64 := h.n64
  have c0 := h.c0
  have c1 := h.c1
  have f1 := h.f1
  have d1 : decide (gen < 1) = false := decide_eq_false (by omega)
  have d2 : decide (gen < last) = false := decide_eq_false (by omega)
  clear h h1 h2
  go_enter Try.func11, Try.ntmps11
  go_wp2
  have HC1 := Lib.hid (HC.out.setLast gen)
  have HP1 := Lib.hid (ChP.setCell (S := Own base top) (ChP.refl _ w) (p := ⟨A, 1, none⟩) (.inl HC.out.inA) (.int .i64 gen))
  clear c0 c1 f1 d1 d2
  generalize w.setCell ⟨A, 1, none⟩ (.int .i64 gen) = w1 at *
  go_loopw [31, 5] (fun r q wr => ∃ k : Nat, k ≤ n ∧ r = .int .i64 (k : Int) ∧ q = .int .i64 (sumN (fun i => zc (f i)) k : Int) ∧ CL wr base top A G n gen R Q (partF k (List.map (giveT gen)) f) ∧ ChP (Own base top) w wr) (fun r _ _ => n - (intOf r).toNat)
  case atStart => exact ⟨0, Nat.zero_le _, rfl, rfl, by rw [partF_zero]; exact HC1.out, HP1.out⟩
  case round =>
    obtain ⟨k, hk, rfl, rfl, hCk, hPk⟩ := hrel
    have HPk := Lib.hid hPk
    have HCk := Lib.hid hCk
    by_cases hkn : k < n
    · have cr := hCk.row k hkn
      have hring := hCk.ring k hkn
      rw [partF_at] at hring
      have HG := Lib.hid (give_any hring gen)
      have hs := HS.out k hk
      have hz := Nat.le_trans (zc_le (f k)) hring.le.1
      obtain ⟨q, hq⟩ : ∃ q, q = sumN (fun i => zc (f i)) k := ⟨_, rfl⟩
      obtain ⟨z, hzz⟩ : ∃ z, z = zc (f k) := ⟨_, rfl⟩
      have HQ := Lib.hid (show sumN (fun i => zc (f i)) (k + 1) = q + z by rw [hq, hzz]; rfl)
      rw [← hq] at hs ⊢
      rw [← hzz] at HG hz
      have hlt : (k : Int) < (n : Int) := by omega
      have hw1 : IntKind.i64.wrap ((q : Int) + (z : Int)) = (q : Int) + (z : Int) := IntWalk.i64_in _ (by omega)
      have HD := Lib.hid hkn
      clear hCk hPk hring hq hzz
      go_wp2_with fail
      with_reducible refine HG.out.mono ?_
      rintro e w3 ⟨rfl, hr3, hc3⟩
      have HR3 := Lib.hid hr3
      have HC3 := Lib.hid hc3
      clear hr3 hc3
      go_frame
      go_wp2
      go_roundw
      case rel =>
        refine ⟨k + 1, by omega, by go_num, by rw [HQ.out]; rfl, ?_, HPk.out.trans (HCk.out.own HD.out HC3.out)⟩
        rw [partF_succ]
        exact HCk.out.step HD.out HR3.out HC3.out
      case measure => simp [intOf]; omega
    · have hkn' : ¬ (k : Int) < (n : Int) := by omega
      clear hPk hCk
      go_wp2
      go_ret
      obtain rfl : k = n := by omega
      exact ⟨rfl, HCk.out.congr (fun i hi => by unfold partF; rw [if_pos hi]), HPk.out⟩
theorem close_no (h : CL w base top A G n last R Q f) {gen : Int} (h1 : gen < 1 ∨ gen < last) :
    Calls Try.prog 11 #[.pointer (some ⟨A, 0, none⟩), .int .i64 gen] w fun e w' => e = .returned (.int .i64 0) ∧ w = w' := by
  have c1 := h.c1
  clear h
  rcases Int.lt_or_le gen 1 with h0 | h0
  · have d1 : decide (gen < 1) = true := decide_eq_true h0
    clear h1
    go_enter Try.func11, Try.ntmps11
    go_wp2
    go_ret
    exact ⟨rfl, rfl⟩
  · have d1 : decide (gen < 1) = false := decide_eq_false (by omega)
    have d2 : decide (gen < last) = true := decide_eq_true (by omega)
    clear h1
    go_enter Try.func11, Try.ntmps11
    go_wp2
    go_ret
    exact ⟨rfl, rfl⟩
theorem close_nil (gen : Int) (w : World) :
    Calls Try.prog 11 #[.pointer none, .int .i64 gen] w fun e w' => e = .returned (.int .i64 0) ∧ w = w' := by
  go_enter Try.func11, Try.ntmps11
  go_wp2
  go_ret
  exact ⟨rfl, rfl⟩
end
end Go.Proofs.Ytnnliimjemmekaa
