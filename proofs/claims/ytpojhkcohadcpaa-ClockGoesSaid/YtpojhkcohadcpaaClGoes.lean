/-
  The law ClockGoes, walked.
-/
import Derived.Test.YtpojhkcohadcpaaClC
namespace Go.Proofs.Ytpojhkcohadcpaa
open Go.RowKit

attribute [local go_sem] Oper.semAt_some

/-- Step by one that lies in new memory. -/
theorem step_one {w : World} {b g : Nat} {n d V : Int} (h : Clk w b n) (hd : Wd d) (hc : w.cell? ⟨g, 0, none⟩ = some (.int .u64 d)) (hg : g ≠ b) (hV : addV n d = V) :
    Calls Try.prog 20 #[.pointer (some ⟨b, 0, none⟩), .slice (some ⟨g, 0, none⟩) 1 1] w fun e w' =>
      e = .returned (.int .u64 V) ∧ Clk w' b V ∧ Ch [b] w w' ∧ w'.heap.size = w.heap.size := by
  have := step_any (cap := 1) h (WordsAt.one hd hc) (.inr fun x hx => by cases hx; simpa using hg) (by decide)
  simp only [stepTo] at this
  rw [hV] at this
  exact this
theorem step_no {w : World} {b : Nat} {n : Int} (h : Clk w b n) :
    Calls Try.prog 20 #[.pointer (some ⟨b, 0, none⟩), .slice none 0 0] w fun e w' =>
      e = .returned (.int .u64 n) ∧ Clk w' b n ∧ Ch [b] w w' ∧ w'.heap.size = w.heap.size :=
  step_any (cap := 0) h (words_none w) (.inl rfl) (by decide)

set_option maxHeartbeats 2000000 in
theorem goes_law {n : Int} (hn : Wd n) (ab : Option Addr) (len cap : Nat) (z : Nat → Int) (w : World) (hl : len ≤ cap) (hcap : cap ≤ 9223372036854775807) (hz : WordsAt w ab len z) :
    Calls Try.prog 5 #[.int .u64 n, .slice ab len cap] w fun e w' => e = .returned (.bool true) ∧ Below w.heap.size w w' := by
  obtain ⟨m, hm⟩ : ∃ m, m = min len 60 := ⟨_, rfl⟩
  have hmin : (if (60 : Int) < (len : Int) then (60 : Int) else (len : Int)) = (m : Int) := by split <;> omega
  have hdm : decide ((m : Int) < 0) = false := decide_eq_false (by omega)
  have hmc : (m : Int) ≤ (cap : Int) := by omega
  have HZ := Lib.hid (hz.take m (by omega))
  have HM := Lib.hid (show m ≤ 9223372036854775807 by omega)
  have hm60 : m ≤ 60 := by omega
  obtain ⟨S, hS⟩ : ∃ S, w.heap.size = S := ⟨_, rfl⟩
  have HS := Lib.hid hS
  have HN := Lib.hid hn
  have HAt := Lib.hid (at_any hn w S hS)
  clear hm hl hz hS hn
  go_enter Try.func5, Try.ntmps5
  go_wp2_with fail
  with_reducible refine HAt.out.mono ?_
  rintro e w1 ⟨rfl, hx1, hc1, hz1⟩
  have HX1 := Lib.hid hx1
  have HC1 := Lib.hid hc1
  have HAt2 := Lib.hid (at_any HN.out w1 (S + 1) hz1)
  clear hx1 hc1 hz1 HAt
  go_wp2_with fail
  with_reducible refine HAt2.out.mono ?_
  rintro e w2 ⟨rfl, hx2, hc2, hz2⟩
  have HX2 := Lib.hid (HX1.out.ch hc2 (by simp))
  have HY2 := Lib.hid hx2
  have HC2 := Lib.hid (HC1.out.trans hc2)
  clear hx2 hc2 hz2 HAt2 HX1 HC1
  go_wp2_with fail
  clear hmin hmc
  have HB := Lib.hid (show m = 0 ∨ ∀ x, ab = some x → x.block < S by rw [← HS.out]; exact HZ.out.lt)
  have HWd := Lib.hid (fun k => stepTo_wd HN.out HZ.out.wd k)
  go_loopw [7, 8] (fun nv v wr => ∃ k : Nat, k ≤ m ∧ v = .int .i64 (k : Int) ∧ nv = .int .u64 (stepTo z n k) ∧ Clk wr S (stepTo z n k) ∧ Clk wr (S + 1) n ∧ Ch [] w wr) (fun _ v _ => m - (intOf v).toNat)
  case atStart => exact ⟨0, Nat.zero_le _, rfl, rfl, HX2.out, HY2.out, HC2.out⟩
  case round =>
    obtain ⟨k, hk, rfl, rfl, hx, hy, hc⟩ := hrel
    have HX := Lib.hid hx
    have HY := Lib.hid hy
    have HC := Lib.hid hc
    clear hx hy hc HX2 HY2 HC2
    by_cases hlt : k < m
    · have hzw := HZ.out.ch HC.out (.inr fun _ _ => by simp)
      obtain ⟨c, off, rfl, hcell⟩ := hzw.at'.resolve_left (by omega)
      have hx := hcell k hlt
      have hb0 : (0 : Int) ≤ (k : Int) := by omega
      have hb1 : (k : Int) < (m : Int) := by omega
      have HD := Lib.hid (HZ.out.wd k)
      have HU := Lib.hid (HWd.out k)
      have HV := Lib.hid (show stepTo z n (k + 1) = addV (stepTo z n k) (z k) from rfl)
      have HRA := Lib.hid (radd_any HU.out HD.out wr)
      have HGe := Lib.hid (addV_ge HU.out HD.out)
      obtain ⟨V, hV⟩ : ∃ V, addV (stepTo z n k) (z k) = V := ⟨_, rfl⟩
      have HAV := Lib.hid hV
      rw [hV] at HV HRA HGe
      generalize stepTo z n k = U at *
      generalize z k = d at *
      generalize addO U d = O at *
      clear hzw hcell hV
      have hge : decide (V < U) = false := decide_eq_false (by have := HGe.out; omega)
      go_wp2_with fail
      with_reducible refine (now_any HX.out).mono ?_
      rintro e w3 ⟨rfl, rfl⟩
      go_wp2_with fail
      with_reducible refine (stopped_any HX.out).mono ?_
      rintro e w4 ⟨rfl, rfl⟩
      go_wp2_with fail
      with_reducible refine HRA.out.mono ?_
      rintro e w5 ⟨rfl, rfl⟩
      have hch := (Ch.refl [] w5).alloc (.cells #[.int .u64 d] 22)
      have hne : w5.heap.size ≠ S := by have := HX.out.lt; omega
      have HSt := Lib.hid (step_one (HX.out.ch hch (by simp)) HD.out (cell_new w5 (.int .u64 d) 22).1 hne HAV.out)
      have HYA := Lib.hid (HY.out.ch hch (by simp))
      have HCA := Lib.hid (HC.out.trans hch)
      clear hch hne
      go_wp2_with fail
      with_reducible refine HSt.out.mono ?_
      rintro e w6 ⟨rfl, hx6, hc6, -⟩
      have HX6 := Lib.hid hx6
      have HY6 := Lib.hid (HYA.out.ch hc6 (by simp))
      have HC6 := Lib.hid (HCA.out.fresh hc6 (by simpa using Nat.le_of_eq HS.out))
      clear hx6 hc6
      go_wp2_with fail
      go_roundw
      case rel => exact ⟨k + 1, by omega, by go_num, by rw [HV.out], by rw [HV.out]; exact HX6.out, HY6.out, HC6.out⟩
      case measure => simp [intOf]; omega
    · obtain rfl : k = m := by omega
      clear hlt hk
      have hzw := HZ.out.ch HC.out (.inr fun _ _ => by simp)
      have HSt := Lib.hid (step_any (cap := cap) HY.out hzw (by
        rcases HB.out with h0 | h0
        · exact .inl h0
        · exact .inr fun x hx => by have := h0 x hx; simp; omega) HM.out)
      generalize stepTo z n k = U at *
      clear hzw
      go_wp2_with fail
      with_reducible refine (known_any _).mono ?_
      rintro e w3 ⟨rfl, rfl⟩
      go_wp2_with fail
      with_reducible refine (now_any HX.out).mono ?_
      rintro e w4 ⟨rfl, rfl⟩
      go_wp2_with fail
      with_reducible refine HSt.out.mono ?_
      rintro e w5 ⟨rfl, hy5, hc5, -⟩
      have HY5 := Lib.hid hy5
      have HC5 := Lib.hid (HC.out.fresh hc5 (by have := HS.out; simp; omega))
      clear hy5 hc5 HX HC HSt
      go_wp2_with fail
      with_reducible refine (now_any HY5.out).mono ?_
      rintro e w6 ⟨rfl, rfl⟩
      go_wp2_with fail
      with_reducible refine (step_no HY5.out).mono ?_
      rintro e w7 ⟨rfl, hy7, hc7, -⟩
      have HC7 := Lib.hid (HC5.out.fresh hc7 (by have := HS.out; simp; omega))
      clear hy7 hc7
      go_wp2
      go_ret
      exact ⟨rfl, HC7.out.below _ (by simp) (Nat.le_refl _)⟩
end Go.Proofs.Ytpojhkcohadcpaa
