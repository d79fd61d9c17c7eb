/-
  The law OrderNil, walked.
-/
import Derived.Test.YtediabcgeghogaaOrK
namespace Go.Proofs.Ytediabcgeghogaa
open Go.RowKit oI

attribute [local go_sem] Oper.semAt_some

set_option maxHeartbeats 1000000 in
theorem nil_law (k : Int) (w : World) : Calls Try.prog 6 #[.int .i64 k] w fun e w' => e = .returned (.bool true) ∧ Ch [] w w' := by
  have HO := Lib.hid (fun w => oldest_any (w := w) (p := none) (L := []) (.inl ⟨rfl, rfl⟩))
  have HN := Lib.hid (fun w => newest_any (w := w) (p := none) (L := []) (.inl ⟨rfl, rfl⟩))
  have HL := Lib.hid (fun w => list_any (w := w) (p := none) (L := []) (.inl ⟨rfl, rfl⟩))
  go_enter Try.func6, Try.ntmps6
  go_wp2_with fail
  refine (HO.out _).mono ?_
  rintro e w1 ⟨rfl, hc1⟩
  have HC1 := Lib.hid hc1
  clear hc1
  rw [show oldK (ks []) = 0 from rfl, show decide (0 < (ks ([] : List Ent)).length) = false from rfl]
  go_wp2_with fail
  refine (HN.out _).mono ?_
  rintro e w2 ⟨rfl, hc2⟩
  have HC2 := Lib.hid (HC1.out.trans hc2)
  clear hc2 HC1
  rw [show newK (ks []) = 0 from rfl, show decide (0 < (ks ([] : List Ent)).length) = false from rfl]
  go_wp2_with fail
  refine (known_any _).mono ?_
  rintro e w3 ⟨rfl, hc3⟩
  have HC3 := Lib.hid ((HC2.out.trans hc3).alloc (.cells #[.int .i64 k] 3))
  clear hc3 HC2
  go_wp2_with fail
  refine (touch_nil _ _).mono ?_
  rintro e w4 ⟨rfl, rfl⟩
  go_wp2_with fail
  refine (drop_nil _ _).mono ?_
  rintro e w4 ⟨rfl, rfl⟩
  go_wp2_with fail
  refine (has_nil _ _).mono ?_
  rintro e w4 ⟨rfl, rfl⟩
  go_wp2_with fail
  refine (HL.out _).mono ?_
  rintro e w4 ⟨v, rfl, hr, hc4⟩
  obtain ⟨a, cap, rfl⟩ := own_form hr
  have HC4 := Lib.hid (HC3.out.trans hc4)
  have h0 : (ks ([] : List Ent)).length = 0 := rfl
  rw [h0]
  clear hr hc4 HC3 h0
  go_wp2_with fail
  refine (len_nil _).mono ?_
  rintro e w5 ⟨rfl, rfl⟩
  go_wp2
  go_ret
  exact ⟨rfl, HC4.out⟩
end Go.Proofs.Ytediabcgeghogaa
