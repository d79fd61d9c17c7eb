/-
  CopyNil: a nil copy is never done; a nil memory fails.
-/
import Derived.Test.YtcdolkbljheniaaCpG
namespace Go.Proofs.Ytcdolkbljheniaa
open Go.RowKit

set_option maxRecDepth 20000 in
set_option maxHeartbeats 2000000 in
theorem nil_law {a n : Int} (wfa : (Lit.int .i64 a).wf = true) (_ : (Lit.int .i64 n).wf = true) (wait : Bool) (w : World) :
    Calls Try.prog 7 #[.int .i64 a, .int .i64 n, .bool wait] w fun e w' => e = .returned (.bool true) ∧ Below w.heap.size w w' := by
  have ha := (i64_of wfa).2
  have hcase : (∃ k : Nat, n = (k : Int) ∧ k ≤ 64) ∨ n < 0 ∨ (¬ n < 0 ∧ 64 < n) := by
    by_cases h0 : n < 0
    · exact .inr (.inl h0)
    · by_cases h1 : 64 < n
      · exact .inr (.inr ⟨h0, h1⟩)
      · exact .inl ⟨n.toNat, by omega, by omega⟩
  rcases hcase with ⟨k, rfl, hk⟩ | h0 | ⟨h0, h1⟩
  · have C := Lib.hid (in_ok ha hk w)
    have d1 : decide ((k : Int) ≥ 0) = true := decide_eq_true (by omega)
    have d2 : decide ((k : Int) ≤ 64) = true := decide_eq_true (by omega)
    have d2' : (k : Int) ≤ 64 := by omega
    clear wfa ha
    go_enter Try.func7, Try.ntmps7
    go_wp2_with fail
    with_reducible refine (nil_page _).mono ?_
    rintro e w' ⟨rfl, rfl⟩
    go_wp2_with fail
    with_reducible refine C.out.mono ?_
    rintro e w1 ⟨c, rfl, h1, hc1⟩
    clear C
    have C := Lib.hid (tryn_any h1 rfl (show 0 < 1000000 by decide) wait)
    have HC := Lib.hid hc1
    have HL := Lib.hid h1.lo
    clear h1 hc1
    go_wp2_with fail
    with_reducible refine C.out.mono ?_
    rintro e w2 ⟨rfl, -, hc2⟩
    clear C
    have HC2 := Lib.hid (HC.out.fresh hc2 (by simpa using HL.out))
    clear hc2 HC HL
    go_wp2_with fail
    with_reducible refine (known14 _).mono ?_
    rintro e w3 ⟨rfl, hk3⟩
    have HZ := Lib.hid (HC2.out.trans hk3)
    clear hk3 HC2
    go_wp2_with fail
    with_reducible refine (nil_try _ _ _).mono ?_
    rintro e w' ⟨rfl, rfl⟩
    go_wp2_with fail
    with_reducible refine (nil_bytes _).mono ?_
    rintro e w' ⟨rfl, rfl⟩
    go_wp2_with fail
    with_reducible refine (nil_over _).mono ?_
    rintro e w' ⟨rfl, rfl⟩
    go_wp2_with fail
    with_reducible refine (nil_tries _).mono ?_
    rintro e w' ⟨rfl, rfl⟩
    go_wp2_with fail
    go_ret
    exact ⟨rfl, HZ.out.below _ (by simp) (Nat.le_refl _)⟩
  · have C := Lib.hid (in_bad (a := a) (m := n) (.inl h0) w)
    have d1 : decide (n ≥ 0) = false := decide_eq_false (by omega)
    clear wfa ha
    go_enter Try.func7, Try.ntmps7
    go_wp2_with fail
    with_reducible refine (nil_page _).mono ?_
    rintro e w' ⟨rfl, rfl⟩
    go_wp2_with fail
    with_reducible refine C.out.mono ?_
    rintro e w1 ⟨rfl, hc1⟩
    have HC2 := Lib.hid hc1
    clear C hc1
    go_wp2_with fail
    with_reducible refine (known14 _).mono ?_
    rintro e w3 ⟨rfl, hk3⟩
    have HZ := Lib.hid (HC2.out.trans hk3)
    clear hk3 HC2
    go_wp2_with fail
    with_reducible refine (nil_try _ _ _).mono ?_
    rintro e w' ⟨rfl, rfl⟩
    go_wp2_with fail
    with_reducible refine (nil_bytes _).mono ?_
    rintro e w' ⟨rfl, rfl⟩
    go_wp2_with fail
    with_reducible refine (nil_over _).mono ?_
    rintro e w' ⟨rfl, rfl⟩
    go_wp2_with fail
    with_reducible refine (nil_tries _).mono ?_
    rintro e w' ⟨rfl, rfl⟩
    go_wp2_with fail
    go_ret
    exact ⟨rfl, HZ.out.below _ (by simp) (Nat.le_refl _)⟩
  · have C := Lib.hid (in_bad (a := a) (m := n) (.inr h1) w)
    have d1 : decide (n ≥ 0) = true := decide_eq_true (by omega)
    have d2 : decide (n ≤ 64) = false := decide_eq_false (by omega)
    have d2' : ¬ n ≤ 64 := by omega
    clear wfa ha
    go_enter Try.func7, Try.ntmps7
    go_wp2_with fail
    with_reducible refine (nil_page _).mono ?_
    rintro e w' ⟨rfl, rfl⟩
    go_wp2_with fail
    with_reducible refine C.out.mono ?_
    rintro e w1 ⟨rfl, hc1⟩
    have HC2 := Lib.hid hc1
    clear C hc1
    go_wp2_with fail
    with_reducible refine (known14 _).mono ?_
    rintro e w3 ⟨rfl, hk3⟩
    have HZ := Lib.hid (HC2.out.trans hk3)
    clear hk3 HC2
    go_wp2_with fail
    with_reducible refine (nil_try _ _ _).mono ?_
    rintro e w' ⟨rfl, rfl⟩
    go_wp2_with fail
    with_reducible refine (nil_bytes _).mono ?_
    rintro e w' ⟨rfl, rfl⟩
    go_wp2_with fail
    with_reducible refine (nil_over _).mono ?_
    rintro e w' ⟨rfl, rfl⟩
    go_wp2_with fail
    with_reducible refine (nil_tries _).mono ?_
    rintro e w' ⟨rfl, rfl⟩
    go_wp2_with fail
    go_ret
    exact ⟨rfl, HZ.out.below _ (by simp) (Nat.le_refl _)⟩
end Go.Proofs.Ytcdolkbljheniaa
