/-
  The law AluFolds, walked.
-/
import Derived.Test.YtkjeibdoghcgfaaAlG
import Derived.Test.YtkjeibdoghcgfaaAlH
namespace Go.Proofs.Ytkjeibdoghcgfaa
open Go.RowKit Go.BigFrame Go.Lib

attribute [local go_sem] Oper.semAt_some

set_option maxHeartbeats 2000000 in
theorem folds_law {op : Int} (hop : fit op) {a : Nat} (ha : W64 a) (ao : Option Addr) (len cap : Nat) (z : Nat → Nat) (w : World) (hcap : len ≤ cap) (hcm : cap ≤ 9223372036854775807) (hz : WordsAt w ao len z) :
    Calls Try.prog 7 #[.int .i64 op, .int .u64 (a : Int), .slice ao len cap] w fun e w' => e = .returned (.bool true) ∧ Below w.heap.size w w' := by
  obtain ⟨m, hm⟩ : ∃ m, m = min len 60 := ⟨_, rfl⟩
  have hmin : (if (60 : Int) < (len : Int) then (60 : Int) else (len : Int)) = (m : Int) := by split <;> omega
  have hml : m ≤ len := by omega
  have hm60 : m ≤ 60 := by omega
  have hmc : m ≤ cap := by omega
  have hneg : decide ((m : Int) < 0) = false := decide_eq_false (by omega)
  have HO := Lib.hid hop
  have HA := Lib.hid ha
  have HZ := Lib.hid (hz.take m hml)
  have HM := Lib.hid hm60
  clear hop ha hz hm hml hm60 hcap
  by_cases hcl : cls op = 1
  · have hE : doE op = 0 := by unfold doE; rw [if_pos hcl]
    have HF := Lib.hid (fun w (hz : WordsAt w ao m z) => fold_any (cap := cap) HO.out HA.out hz (by have := HM.out; omega))
    rw [if_pos hcl, hE] at HF
    obtain ⟨x, hx⟩ : ∃ x, x = foldN op a z m := ⟨_, rfl⟩
    rw [← hx] at HF
    have HX := Lib.hid hx
    have HE := Lib.hid hE
    clear hcl hx hE
    go_enter Try.func7, Try.ntmps7
    go_wp2_with fail
    with_reducible refine (HF.out _ HZ.out).mono ?_
    rintro e w1 ⟨rfl, hc1⟩
    have C1 := Lib.hid hc1
    clear hc1
    go_wp2_with fail
    go_loopw [9, 10, 11] (fun y t i wr => ∃ k v : Nat, k ≤ m ∧ i = .int .i64 (k : Int) ∧ y = .int .u64 (v : Int) ∧ v = foldN op a z k ∧ t = .int .i64 0 ∧ Ch [] w wr) (fun _ _ i _ => m - (intOf i).toNat)
    case atStart => exact ⟨0, a, Nat.zero_le _, rfl, rfl, rfl, rfl, C1.out⟩
    case round =>
      obtain ⟨k, v, hk, rfl, rfl, hv, rfl, hc⟩ := hrel
      have HC := Lib.hid hc
      have HV := Lib.hid hv
      have hvl : W64 v := by rw [hv]; exact foldN_lt op HA.out HZ.out.wd k
      clear hc hv
      by_cases hlt : k < m
      · obtain ⟨b, off, rfl, hcell⟩ := (HZ.out.ch HC.out).at'.resolve_left (by omega)
        have hcx := hcell k hlt
        have hb0 : (0 : Int) ≤ (k : Int) := by omega
        have hkw : IntKind.i64.wrap ((k : Int) + 1) = ((k + 1 : Nat) : Int) := by rw [IntKind.wrap_i64]; have := HM.out; omega
        have hD := rdo_any op hvl (HZ.out.wd k) wr
        rw [HE.out] at hD
        obtain ⟨u, hu⟩ : ∃ u, u = doV op v (z k) := ⟨_, rfl⟩
        rw [← hu] at hD
        have HD := Lib.hid hD
        have HU := Lib.hid hu
        clear hD hu hcell hvl
        go_wp2_with fail
        with_reducible refine HD.out.mono ?_
        rintro e w2 ⟨rfl, hc2⟩
        have HC2 := Lib.hid (HC.out.trans hc2)
        clear hc2
        go_wp2_with fail
        go_roundw
        case rel => exact ⟨k + 1, u, by omega, rfl, rfl, by rw [HU.out, HV.out]; rfl, rfl, HC2.out⟩
        case measure => simp [intOf]; omega
      · have hkm : k = m := by omega
        have hvx : v = x := by rw [HV.out, HX.out, hkm]
        have hD := rdo_any op HA.out HA.out wr
        rw [HE.out] at hD
        have HD := Lib.hid hD
        clear hD hkm hvl
        subst hvx
        go_wp2_with fail
        with_reducible refine HD.out.mono ?_
        rintro e w2 ⟨rfl, hc2⟩
        have HC2 := Lib.hid (HC.out.trans hc2)
        clear hc2
        go_wp2_with fail
        with_reducible refine (known_any _).mono ?_
        rintro e w3 ⟨rfl, hc3⟩
        have HC3 := Lib.hid (HC2.out.trans hc3)
        clear hc3
        go_wp2
        go_ret
        exact ⟨rfl, HC3.out.below _ (by simp) (Nat.le_refl _)⟩
  · have hE : doE op = 11 := by unfold doE; rw [if_neg hcl]
    have hV : ∀ p q, doV op p q = 0 := fun p q => by unfold doV; rw [if_neg hcl]
    have HF := Lib.hid (fun w (hz : WordsAt w ao m z) => fold_any (cap := cap) HO.out HA.out hz (by have := HM.out; omega))
    rw [if_neg hcl, hE] at HF
    have HR : ∀ (p q : Nat) (_ : W64 p) (_ : W64 q) (w : World), Calls Try.prog 10 #[.int .i64 op, .int .u64 (p : Int), .int .u64 (q : Int)] w fun e w' => e = .returned (.tuple #[.int .u64 0, .int .i64 11]) ∧ Ch [] w w' := fun p q hp hq w => by
      have h := rdo_any op hp hq w
      rw [hE, hV] at h
      exact h
    have HR' := Lib.hid HR
    clear hcl hE hV HR
    go_enter Try.func7, Try.ntmps7
    go_wp2_with fail
    with_reducible refine (HF.out _ HZ.out).mono ?_
    rintro e w1 ⟨rfl, hc1⟩
    have C1 := Lib.hid hc1
    clear hc1
    go_wp2_with fail
    go_loopw [9, 10, 11] (fun y t i wr => ∃ (k v : Nat) (b : Bool), k ≤ m ∧ i = .int .i64 (k : Int) ∧ y = .int .u64 (v : Int) ∧ W64 v ∧ t = .int .i64 (if b = true then 11 else 0) ∧ Ch [] w wr) (fun _ _ i _ => m - (intOf i).toNat)
    case atStart => exact ⟨0, a, false, Nat.zero_le _, rfl, rfl, HA.out, rfl, C1.out⟩
    case round =>
      obtain ⟨k, v, b, hk, rfl, rfl, hvl, rfl, hc⟩ := hrel
      have HC := Lib.hid hc
      have HD2 := Lib.hid (HR'.out a a HA.out HA.out)
      clear hc
      by_cases hlt : k < m
      · cases b with
        | false =>
          obtain ⟨b, off, rfl, hcell⟩ := (HZ.out.ch HC.out).at'.resolve_left (by omega)
          have hcx := hcell k hlt
          have hb0 : (0 : Int) ≤ (k : Int) := by omega
          have hkw : IntKind.i64.wrap ((k : Int) + 1) = ((k + 1 : Nat) : Int) := by rw [IntKind.wrap_i64]; have := HM.out; omega
          have HD := Lib.hid (HR'.out v (z k) hvl (HZ.out.wd k) wr)
          clear hcell hvl
          go_wp2_with fail
          with_reducible refine HD.out.mono ?_
          rintro e w2 ⟨rfl, hc2⟩
          have HC2 := Lib.hid (HC.out.trans hc2)
          clear hc2
          go_wp2_with fail
          go_roundw
          case rel => exact ⟨k + 1, 0, true, by omega, rfl, rfl, by decide, rfl, HC2.out⟩
          case measure => simp [intOf]; omega
        | true =>
          clear hvl
          go_wp2_with fail
          with_reducible refine (HD2.out _).mono ?_
          rintro e w2 ⟨rfl, hc2⟩
          have HC2 := Lib.hid (HC.out.trans hc2)
          clear hc2
          go_wp2_with fail
          with_reducible refine (known_any _).mono ?_
          rintro e w3 ⟨rfl, hc3⟩
          have HC3 := Lib.hid (HC2.out.trans hc3)
          clear hc3
          go_wp2
          go_ret
          exact ⟨rfl, HC3.out.below _ (by simp) (Nat.le_refl _)⟩
      · clear hvl
        cases b
        all_goals
          go_wp2_with fail
          with_reducible refine (HD2.out _).mono ?_
          rintro e w2 ⟨rfl, hc2⟩
          have HC2 := Lib.hid (HC.out.trans hc2)
          clear hc2
          go_wp2_with fail
          with_reducible refine (known_any _).mono ?_
          rintro e w3 ⟨rfl, hc3⟩
          have HC3 := Lib.hid (HC2.out.trans hc3)
          clear hc3
          go_wp2
          go_ret
          exact ⟨rfl, HC3.out.below _ (by simp) (Nat.le_refl _)⟩
end Go.Proofs.Ytkjeibdoghcgfaa
