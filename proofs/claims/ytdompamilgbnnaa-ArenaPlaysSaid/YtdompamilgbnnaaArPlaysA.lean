/-
  The law ArenaPlays where there are no such slots.
-/
import Derived.Deep.DeepCutAuto
import Derived.Deep.Cut
import Derived.Deep.CutBlock
import Derived.Test.YtdompamilgbnnaaAIK
import Derived.Test.YtdompamilgbnnaaArC
import Derived.Test.YtdompamilgbnnaaArPA
import Derived.Test.YtdompamilgbnnaaArPB
namespace Go.Proofs.Ytdompamilgbnnaa
open Go.RowKit aI

attribute [local go_sem] Oper.semAt_some

set_option maxRecDepth 100000 in
set_option maxHeartbeats 1000000 in
theorem plays_bad (n : Int) (v : Value) (w : World) (h : n < 1 ∨ 64 < n) :
    Calls Try.prog 3 #[.int .i64 n, v] w fun e w' => e = .returned (.bool true) ∧ Below w.heap.size w w' := by
  have HN := Lib.hid (new_bad n w h)
  have HK := Lib.hid (known_any w)
  by_cases h0 : n < 1
  · have hd1 : decide (n < 1) = true := by simpa using h0
    clear h
    go_enter Try.func3, Try.ntmps3
    go_wp2_with (first | (go_at_call 8; refine HN.out.mono ?_; rintro e w' ⟨rfl, rfl⟩) | (go_at_call 9; refine HK.out.mono ?_; rintro e w' ⟨rfl, hb⟩))
    go_ret
    exact ⟨rfl, hb⟩
  · have h1 : 64 < n := by omega
    have hd1 : decide (n < 1) = false := by simpa using h0
    have hd2 : decide (64 < n) = true := by simpa using h1
    clear h
    go_enter Try.func3, Try.ntmps3
    go_wp2_with (first | (go_at_call 8; refine HN.out.mono ?_; rintro e w' ⟨rfl, rfl⟩) | (go_at_call 9; refine HK.out.mono ?_; rintro e w' ⟨rfl, hb⟩))
    go_ret
    exact ⟨rfl, hb⟩
end Go.Proofs.Ytdompamilgbnnaa
