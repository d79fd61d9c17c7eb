/-
  The law RingNil, walked.
-/
import Derived.Test.YtkjkaihbpccdmaaRIK
namespace Go.Proofs.Ytkjkaihbpccdmaa
open Go.RowKit

attribute [local go_sem] Oper.semAt_some

theorem nil_list0 (w : World) : Calls Try.prog 18 #[.pointer none] w fun e W' =>
      ∃ a cap, e = .returned (.slice a 0 cap) ∧ Below w.heap.size w W' := by
  refine (rI.list_nil w).mono ?_
  rintro e W' ⟨v, rfl, hown, hB⟩
  rcases hown.2 with ⟨rfl, _⟩ | ⟨g, cap, cur, rfl, _⟩
  · exact ⟨_, _, rfl, hB⟩
  · exact ⟨_, _, rfl, hB⟩

set_option maxHeartbeats 1000000 in
theorem nil_law (i : Int) (a : Option Addr) (len cap : Nat) (w : World) (hl : len ≤ cap) (hc : cap ≤ 9223372036854775807) :
    Calls Try.prog 6 #[.int .i64 i, .slice a len cap] w fun e w' => e = .returned (.bool true) ∧ Below w.heap.size w w' := by
  have HK := Lib.hid (rI.known_any w)
  have HP := Lib.hid (fun W => rI.push_nil a len cap W hl hc)
  clear hl hc
  go_enter Try.func6, Try.ntmps6
  go_wp2_with (first
    | (go_at_call 12; refine (rI.pop_nil _).mono ?_; rintro e w' ⟨rfl, rfl⟩)
    | (go_at_call 14; refine (rI.at_nil _ _).mono ?_; rintro e w' ⟨rfl, rfl⟩)
    | (go_at_call 13; refine (rI.take_nil _ _).mono ?_; rintro e w' ⟨rfl, rfl⟩)
    | (go_at_call 8; refine HK.out.mono ?_; rintro e w1 ⟨rfl, hb1⟩)
    | (go_at_call 10; refine (HP.out _).mono ?_; rintro e w' ⟨rfl, rfl⟩)
    | (go_at_call 18; refine (nil_list0 _).mono ?_; rintro e w2 ⟨a2, cap2, rfl, hb2⟩)
    | (go_at_call 15; refine (rI.len_nil _).mono ?_; rintro e w' ⟨rfl, rfl⟩)
    | (go_at_call 16; refine (rI.room_nil _).mono ?_; rintro e w' ⟨rfl, rfl⟩))
  go_ret
  exact ⟨rfl, hb1.trans (hb2.mono hb1.size)⟩
end Go.Proofs.Ytkjkaihbpccdmaa
