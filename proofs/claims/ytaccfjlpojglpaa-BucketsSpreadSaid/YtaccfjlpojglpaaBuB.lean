/-
  May there be so many?
-/
import Derived.Test.YtaccfjlpojglpaaBuM
import Derived.Tactics
import Derived.Tactics2
namespace Go.Proofs.Ytaccfjlpojglpaa
open Go.RowKit

attribute [local go_sem] Oper.semAt_some

theorem may_any (m : Int) (w : World) : Calls Try.prog 34 #[.int .i64 m] w fun e w' => e = .returned (.bool (decide (1 ≤ m ∧ m ≤ 64))) ∧ w' = w := by
  by_cases h1 : 1 ≤ m
  · by_cases h2 : m ≤ 64
    · have hd : decide (1 ≤ m ∧ m ≤ 64) = true := decide_eq_true ⟨h1, h2⟩
      rw [hd]
      clear hd
      go_enter Try.func34, Try.ntmps34
      go_wp2
      go_ret
      exact ⟨rfl, rfl⟩
    · have hd : decide (1 ≤ m ∧ m ≤ 64) = false := decide_eq_false (fun h => h2 h.2)
      rw [hd]
      clear hd
      go_enter Try.func34, Try.ntmps34
      go_wp2
      go_ret
      exact ⟨rfl, rfl⟩
  · have hd : decide (1 ≤ m ∧ m ≤ 64) = false := decide_eq_false (fun h => h1 h.1)
    rw [hd]
    clear hd
    go_enter Try.func34, Try.ntmps34
    go_wp2
    go_ret
    exact ⟨rfl, rfl⟩

/-- Words as the elements of a slice. -/
def u64s (l : List Nat) : List Value := l.map fun (i : Nat) => Value.int .u64 (i : Int)
theorem u64s_one (l : List Nat) : ∀ v ∈ u64s l, v.oneCell' = true := by intro v hv; obtain ⟨k, _, rfl⟩ := List.mem_map.1 hv; rfl
theorem u64s_append (a b : List Nat) : u64s (a ++ b) = u64s a ++ u64s b := List.map_append
theorem u64s_len (l : List Nat) : (u64s l).length = l.length := List.length_map _
theorem infoU : (Try.prog.info? 29).map (fun i => (i.zero, i.size, i.bytes)) = some (some (.int .u64 0), 1, 8) := by kernel_rfl
end Go.Proofs.Ytaccfjlpojglpaa
