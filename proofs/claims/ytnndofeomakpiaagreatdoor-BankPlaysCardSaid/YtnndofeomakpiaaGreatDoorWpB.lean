/-
  The document's answer for the wheel: Next.
-/
import Derived.Test.YtnndofeomakpiaaGreatDoorWpA
namespace Go.Proofs.YtnndofeomakpiaaGreatDoor
open Go.RowKit

attribute [local go_sem] Oper.semAt_some

/-- The first of a list that is due soonest. -/
structure Best (m : List Tm) (n j : Nat) (x : Tm) : Prop where
  lt : j < n
  at' : m[j]? = some x
  ahead : ∀ i y, i < j → m[i]? = some y → x.sp.due < y.sp.due
  behind : ∀ i y, i < n → m[i]? = some y → x.sp.due ≤ y.sp.due
/-- Next's answer. -/
def NextIs (m : List Tm) (R : Int) : Prop := (m = [] ∧ R = -1) ∨ ∃ (j : Nat) (x : Tm), R = (j : Int) ∧ Best m m.length j x
theorem Best.next {m : List Tm} {n j : Nat} {x y : Tm} (h : Best m n j x) (hy : m[n]? = some y) (hle : ¬ y.sp.due < x.sp.due) : Best m (n + 1) j x :=
  ⟨Nat.lt_succ_of_lt h.lt, h.at', h.ahead, fun i z hi hz => by
    rcases Nat.lt_or_ge i n with h1 | h1
    · exact h.behind i z h1 hz
    · obtain rfl : i = n := by omega
      rw [hy] at hz; cases hz
      omega⟩
theorem Best.better {m : List Tm} {n j : Nat} {x y : Tm} (h : Best m n j x) (hy : m[n]? = some y) (hlt : y.sp.due < x.sp.due) : Best m (n + 1) n y :=
  ⟨Nat.lt_succ_self _, hy, fun i z hi hz => by have := h.behind i z hi hz; omega, fun i z hi hz => by
    rcases Nat.lt_or_ge i n with h1 | h1
    · have := h.behind i z h1 hz; omega
    · obtain rfl : i = n := by omega
      rw [hy] at hz; cases hz
      omega⟩
theorem Best.first {m : List Tm} {y : Tm} (hy : m[0]? = some y) : Best m 1 0 y :=
  ⟨by omega, hy, fun i z hi _ => by omega, fun i z hi hz => by
    obtain rfl : i = 0 := by omega
    rw [hy] at hz; cases hz
    omega⟩
set_option maxRecDepth 100000 in
set_option maxHeartbeats 1000000 in
theorem rnext_any {w : World} {D : Nat} {v : Value} {m : List Tm} (now : Int) (h : RT w D v m) (hl : m.length ≤ 256) :
    Calls Tryz.prog 39 #[rw7 now v] w fun e w' => ∃ R, e = .returned (.int .i64 R) ∧ NextIs m R ∧ Ch [] w w' := by
  obtain ⟨a, cap, rfl⟩ := own_form h
  obtain ⟨L, hL⟩ : ∃ L, L = m.length := ⟨_, rfl⟩
  rw [← hL] at hl ⊢
  have hal := (Ch.refl [] w).alloc (.cells #[.int .u64 now, .slice a L cap] 58)
  have H := Lib.hid (h.quiet ((Ch.refl [] w).alloc (.cells #[.int .u64 now, .slice a L cap] 58)))
  obtain ⟨b0, b1⟩ := two_new w (.int .u64 now) (.slice a L cap) 58
  have HAl := Lib.hid hal
  obtain ⟨b, hb⟩ : ∃ b, b = w.heap.size := ⟨_, rfl⟩
  rw [← hb] at b0 b1
  have HBl := Lib.hid (show b < (w.alloc (.cells #[.int .u64 now, .slice a L cap] 58)).heap.size by rw [hb]; simp)
  have HBe := Lib.hid hb
  have HL := Lib.hid hL
  clear h hL hal hb
  unfold rw7
  go_enter Tryz.func39, Tryz.ntmps39
  go_wp2_with fail
  rw [← HBe.out]
  generalize w.alloc (.cells #[.int .u64 now, .slice a L cap] 58) = W1 at *
  have HB0 := Lib.hid b0
  have HB1 := Lib.hid b1
  clear b0 b1
  go_loopw [3, 4] (fun bv iv wr => ∃ i : Nat, i ≤ L ∧ iv = .int .i64 (i : Int) ∧ ((i = 0 ∧ bv = .int .i64 (-1)) ∨ ∃ j x, bv = .int .i64 ((j : Nat) : Int) ∧ Best m i j x) ∧ Ch [] W1 wr) (fun _ iv _ => L - (intOf iv).toNat)
  case atStart => exact ⟨0, Nat.zero_le _, rfl, .inl ⟨rfl, rfl⟩, Ch.refl _ _⟩
  case round =>
    obtain ⟨i, hi, rfl, hbest, hc⟩ := hrel
    have HC := Lib.hid hc
    have b1 := (hc.cell (p := ⟨b, 1, none⟩) HBl.out (by simp)).trans HB1.out
    have hb0 : (0 : Int) ≤ (i : Int) := by omega
    clear hc
    by_cases hlt : i < L
    · have hb1 : (i : Int) < (L : Int) := by omega
      obtain ⟨y, hy⟩ : ∃ y, m[i]? = some y := ⟨_, List.getElem?_eq_getElem (by rw [← HL.out]; exact hlt)⟩
      obtain ⟨g, cap', e, _, _, _, _, _, _, _, _, c4⟩ := (H.out.quiet HC.out).cells hy
      rw [← HL.out] at e
      obtain ⟨rfl, rfl⟩ : a = some ⟨g, 0, none⟩ ∧ cap = cap' := by simpa using e
      have c4' : wr.cell? ⟨g, i * 5 + 1 + 3, none⟩ = some (.int .u64 y.sp.due) := c4
      have HY := Lib.hid hy
      clear e
      rcases hbest with ⟨rfl, rfl⟩ | ⟨j, x, rfl, hbj⟩
      · obtain ⟨d, hd⟩ : ∃ d, d = y.sp.due := ⟨_, rfl⟩
        rw [← hd] at c4 c4'
        clear hy hd
        go_wp2_with fail
        go_quiet (fail)
        go_wp2_with fail
        go_roundw
        case rel => exact ⟨1, by omega, by go_num, .inr ⟨0, y, rfl, Best.first HY.out⟩, HC.out.drewN _⟩
        case measure => simp [intOf]; omega
      · obtain ⟨g', cap', e, _, _, _, _, _, _, _, _, d4⟩ := (H.out.quiet HC.out).cells hbj.at'
        obtain ⟨rfl, rfl⟩ : g = g' ∧ cap = cap' := by simpa [HL.out] using e
        have d4' : wr.cell? ⟨g, j * 5 + 1 + 3, none⟩ = some (.int .u64 x.sp.due) := d4
        have HBj := Lib.hid hbj
        have hj0 : (0 : Int) ≤ (j : Int) := by omega
        have hj1 : (j : Int) < (L : Int) := by have := hbj.lt; omega
        have hjn : decide ((j : Int) < 0) = false := decide_eq_false (by omega)
        clear e hy hbj
        by_cases hlt2 : y.sp.due < x.sp.due
        · have hdec : decide (y.sp.due < x.sp.due) = true := decide_eq_true hlt2
          have HBn := Lib.hid (HBj.out.better HY.out hlt2)
          generalize y.sp.due = dy at *
          generalize x.sp.due = dx at *
          clear hlt2
          go_wp2_with fail
          go_quiet (fail)
          go_wp2_with fail
          go_roundw
          case rel => exact ⟨i + 1, by omega, by go_num, .inr ⟨i, y, rfl, HBn.out⟩, HC.out.drewN _⟩
          case measure => simp [intOf]; omega
        · have hdec : decide (y.sp.due < x.sp.due) = false := decide_eq_false hlt2
          have HBn := Lib.hid (HBj.out.next HY.out hlt2)
          generalize y.sp.due = dy at *
          generalize x.sp.due = dx at *
          clear hlt2
          go_wp2_with fail
          go_quiet (fail)
          go_wp2_with fail
          go_roundw
          case rel => exact ⟨i + 1, by omega, by go_num, .inr ⟨j, x, rfl, HBn.out⟩, HC.out.drewN _⟩
          case measure => simp [intOf]; omega
    · obtain rfl : L = i := by omega
      rcases hbest with ⟨h0, rfl⟩ | ⟨j, x, rfl, hbj⟩
      · have HN := Lib.hid (show NextIs m (-1) from .inl ⟨List.eq_nil_of_length_eq_zero (by rw [← HL.out]; exact h0), rfl⟩)
        clear h0
        go_wp2_with fail
        go_ret
        exact ⟨_, rfl, HN.out, HAl.out.trans HC.out⟩
      · have HN := Lib.hid (show NextIs m (j : Int) from .inr ⟨j, x, rfl, by rw [← HL.out]; exact hbj⟩)
        clear hbj
        go_wp2_with fail
        go_ret
        exact ⟨_, rfl, HN.out, HAl.out.trans HC.out⟩
end Go.Proofs.YtnndofeomakpiaaGreatDoor
