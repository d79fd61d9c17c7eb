/-
  The law ClockDue, walked.
-/
import Derived.Test.YtpojhkcohadcpaaClGoes
namespace Go.Proofs.Ytpojhkcohadcpaa
open Go.RowKit

attribute [local go_sem] Oper.semAt_some

/-- Due of one that lies in new memory; of none. -/
theorem due_one {w : World} {b g : Nat} {n d : Int} {k : Nat} (h : Clk w b n) (hd : Wd d) (hc : w.cell? ⟨g, 0, none⟩ = some (.int .u64 d)) (hk : (if d ≤ n then 1 else 0) = k) :
    Calls Try.prog 21 #[.pointer (some ⟨b, 0, none⟩), .slice (some ⟨g, 0, none⟩) 1 1] w fun e w' => e = .returned (.int .i64 (k : Nat)) ∧ Ch [] w w' := by
  have := due_any (cap := 1) h (WordsAt.one hd hc) (by decide)
  simp only [dueTo, Nat.zero_add] at this
  rw [hk] at this
  exact this
theorem due_no {w : World} {b : Nat} {n : Int} (h : Clk w b n) :
    Calls Try.prog 21 #[.pointer (some ⟨b, 0, none⟩), .slice none 0 0] w fun e w' => e = .returned (.int .i64 0) ∧ Ch [] w w' :=
  due_any (cap := 0) h (words_none w) (by decide)

set_option maxHeartbeats 2000000 in
theorem due_law {n d0 : Int} (hn : Wd n) (hd0 : Wd d0) (ab : Option Addr) (len cap : Nat) (z : Nat → Int) (w : World) (hl : len ≤ cap) (hcap : cap ≤ 9223372036854775807) (hz : WordsAt w ab len z) :
    Calls Try.prog 6 #[.int .u64 n, .int .u64 d0, .slice ab len cap] w fun e w' => e = .returned (.bool true) ∧ Below w.heap.size w w' := by
  obtain ⟨m, hm⟩ : ∃ m, m = min len 60 := ⟨_, rfl⟩
  have hmin : (if (60 : Int) < (len : Int) then (60 : Int) else (len : Int)) = (m : Int) := by split <;> omega
  have hdm : decide ((m : Int) < 0) = false := decide_eq_false (by omega)
  have hmc : (m : Int) ≤ (cap : Int) := by omega
  have HZ := Lib.hid (hz.take m (by omega))
  have HM := Lib.hid (show m ≤ 9223372036854775807 by omega)
  have hm60 : m ≤ 60 := by omega
  obtain ⟨S, hS⟩ : ∃ S, w.heap.size = S := ⟨_, rfl⟩
  have HS := Lib.hid hS
  have HN := Lib.hid hn
  have HD0 := Lib.hid hd0
  have HAt := Lib.hid (at_any hn w S hS)
  have HB := Lib.hid (show m = 0 ∨ ∀ x, ab = some x → x.block < S by rw [← HS.out]; exact HZ.out.lt)
  clear hm hl hz hS hn hd0
  go_enter Try.func6, Try.ntmps6
  go_wp2_with fail
  with_reducible refine HAt.out.mono ?_
  rintro e w1 ⟨rfl, hx1, hc1, -⟩
  have HX1 := Lib.hid hx1
  have HC1 := Lib.hid hc1
  clear hx1 hc1 HAt
  go_wp2_with fail
  clear hmin hmc
  go_loopw [8, 9] (fun nv v wr => ∃ k : Nat, k ≤ m ∧ v = .int .i64 (k : Int) ∧ nv = .int .i64 (dueTo z n k : Nat) ∧ Clk wr S n ∧ Ch [] w wr) (fun _ v _ => m - (intOf v).toNat)
  case atStart => exact ⟨0, Nat.zero_le _, rfl, rfl, HX1.out, HC1.out⟩
  case round =>
    obtain ⟨k, hk, rfl, rfl, hx, hc⟩ := hrel
    have HX := Lib.hid hx
    have HC := Lib.hid hc
    clear hx hc HX1 HC1
    by_cases hlt : k < m
    · have hzw := HZ.out.ch HC.out (.inr fun _ _ => by simp)
      obtain ⟨c, off, rfl, hcell⟩ := hzw.at'.resolve_left (by omega)
      have hx := hcell k hlt
      have hb0 : (0 : Int) ≤ (k : Int) := by omega
      have hb1 : (k : Int) < (m : Int) := by omega
      have HD := Lib.hid (HZ.out.wd k)
      have HLe := Lib.hid (dueTo_le z n k)
      have HE := Lib.hid (show dueTo z n (k + 1) = dueTo z n k + if z k ≤ n then 1 else 0 from rfl)
      have HLf := Lib.hid (fun W : World => rleft_any HN.out HD.out W)
      have hU := HLe.out
      generalize dueTo z n k = U at *
      generalize z k = d at *
      obtain ⟨X, hX⟩ : ∃ X, Obj.cells #[.int .u64 d] 22 = X := ⟨_, rfl⟩
      have hch : Ch [] wr (wr.alloc (.cells #[.int .u64 d] 22)).drew := ((Ch.refl [] wr).alloc _).drew
      have HCh := Lib.hid hch
      have hxa : ((wr.alloc (.cells #[.int .u64 d] 22)).drew).cell? ⟨c, off + k, none⟩ = some (.int .u64 d) := (hch.cell (cell_lt hx) (by simp)).trans hx
      have HXc := Lib.hid hx
      rcases Int.lt_or_le n d with hd | hd
      · have hd1 : decide (d ≤ n) = false := by simpa using hd
        have HE2 := Lib.hid (show dueTo z n (k + 1) = U by rw [HE.out, if_neg (by omega)]; rfl)
        have HDu := Lib.hid (due_one (k := 0) (HX.out.ch hch (by simp)) HD.out (cell_new wr (.int .u64 d) 22).1 (if_neg (by omega)))
        have hl0 : leftV n d = d - n := by unfold leftV; split <;> omega
        obtain ⟨L, hL⟩ : ∃ L, d - n = L := ⟨_, rfl⟩
        have hL0 : (L == 0) = false := by simp; omega
        rw [hl0, hL] at HLf
        clear hL
        clear hd HE hzw hcell hl0 hX hch
        go_wp2_with fail
        go_region_with (first
          | (go_at_call 21; with_reducible refine HDu.out.mono ?_; rintro e w3 ⟨rfl, hc3⟩; have hx3 := (hc3.cell (cell_lt hxa) (by simp)).trans hxa)
          | (go_at_call 12; with_reducible refine (HLf.out _).mono ?_; rintro e w4 ⟨rfl, rfl⟩))
        all_goals
          have HC5 := Lib.hid (HCh.out.trans hc3)
          clear hc3 hx3 hxa hx HDu HLf
          go_wp2_with fail
          go_roundw
          case rel => exact ⟨k + 1, by omega, by go_num, by rw [HE2.out], HX.out.ch HC5.out (by simp), HC.out.trans HC5.out⟩
          case measure => simp [intOf]; omega
      · have hd1 : decide (d ≤ n) = true := by simpa using hd
        have HE2 := Lib.hid (show dueTo z n (k + 1) = U + 1 by rw [HE.out, if_pos hd])
        have HDu := Lib.hid (due_one (k := 1) (HX.out.ch hch (by simp)) HD.out (cell_new wr (.int .u64 d) 22).1 (if_pos hd))
        have hl0 : leftV n d = 0 := by unfold leftV; split <;> omega
        rw [hl0] at HLf
        clear hd HE hzw hcell hl0 hX hch
        go_wp2_with fail
        go_region_with (first
          | (go_at_call 21; with_reducible refine HDu.out.mono ?_; rintro e w3 ⟨rfl, hc3⟩; have hx3 := (hc3.cell (cell_lt hxa) (by simp)).trans hxa)
          | (go_at_call 12; with_reducible refine (HLf.out _).mono ?_; rintro e w4 ⟨rfl, rfl⟩))
        all_goals
          have HC5 := Lib.hid (HCh.out.trans hc3)
          clear hc3 hx3 hxa hx HDu HLf
          go_wp2_with fail
          go_roundw
          case rel => exact ⟨k + 1, by omega, by go_num, by rw [HE2.out]; go_num, HX.out.ch HC5.out (by simp), HC.out.trans HC5.out⟩
          case measure => simp [intOf]; omega
    · obtain rfl : k = m := by omega
      clear hlt hk
      have hzw := HZ.out.ch HC.out (.inr fun _ _ => by simp)
      have HDa := Lib.hid (due_any (cap := cap) HX.out hzw HM.out)
      obtain ⟨V, hV⟩ : ∃ V, addV n d0 = V := ⟨_, rfl⟩
      have HAV := Lib.hid hV
      have hge := dueTo_mono z (show n ≤ V by rw [← hV]; exact addV_ge HN.out HD0.out) k
      have HP := Lib.hid (show ∃ P, dueTo z n k = P from ⟨_, rfl⟩)
      generalize dueTo z n k = P at *
      obtain ⟨Q, hQ⟩ : ∃ Q, dueTo z V k = Q := ⟨_, rfl⟩
      have HQ := Lib.hid hQ
      rw [hQ] at hge
      have hd1 : decide ((P : Int) ≤ (Q : Int)) = true := by simpa using hge
      have hd2 : decide (P ≤ Q) = true := by simpa using hge
      clear hzw hV HP hQ
      go_wp2_with fail
      with_reducible refine HDa.out.mono ?_
      rintro e w3 ⟨rfl, hc3⟩
      have hch := (Ch.refl [] w3).alloc (.cells #[.int .u64 d0] 22)
      have hx3 := HX.out.ch hc3 (by simp)
      have HSt := Lib.hid (step_one (hx3.ch hch (by simp)) HD0.out (cell_new w3 (.int .u64 d0) 22).1 (by have := hx3.lt; omega) HAV.out)
      have HC3 := Lib.hid ((HC.out.trans hc3).trans hch)
      clear hc3 hch hx3 HDa HX HC
      go_wp2_with fail
      with_reducible refine HSt.out.mono ?_
      rintro e w4 ⟨rfl, hx4, hc4, -⟩
      have HX4 := Lib.hid hx4
      have HC4 := Lib.hid (HC3.out.fresh hc4 (by have := HS.out; simp; omega))
      clear hx4 hc4 HC3 HSt
      have HDb := Lib.hid (due_any (cap := cap) HX4.out (HZ.out.ch HC4.out (.inr fun _ _ => by simp)) HM.out)
      rw [HQ.out] at HDb
      go_wp2_with fail
      with_reducible refine (known_any _).mono ?_
      rintro e w5 ⟨rfl, rfl⟩
      go_wp2_with fail
      with_reducible refine HDb.out.mono ?_
      rintro e w6 ⟨rfl, hc6⟩
      have HX6 := Lib.hid (HX4.out.ch hc6 (by simp))
      have HC6 := Lib.hid (HC4.out.trans hc6)
      clear hc6 HX4 HC4 HDb
      go_wp2_with fail
      with_reducible refine (due_no HX6.out).mono ?_
      rintro e w7 ⟨rfl, hc7⟩
      have HC7 := Lib.hid (HC6.out.trans hc7)
      clear hc7
      go_wp2
      go_ret
      exact ⟨rfl, HC7.out.below _ (by simp) (Nat.le_refl _)⟩
end Go.Proofs.Ytpojhkcohadcpaa
