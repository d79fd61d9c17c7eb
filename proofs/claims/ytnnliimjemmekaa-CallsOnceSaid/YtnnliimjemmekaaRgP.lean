/-
  Plain: the places of a circle.
-/
import Derived.Test.YtnnliimjemmekaaBaseZ
import Derived.Test.YtnnliimjemmekaaBase
namespace Go.Proofs.Ytnnliimjemmekaa
open Go.RowKit

/-- The place of the one that has j others ahead of it. -/
def at' (room first j : Nat) : Nat := (first + j) % room

theorem at_eq {room first j : Nat} (hf : first < room) (hj : j ≤ room) : at' room first j = if first + j < room then first + j else first + j - room := by
  unfold at'
  split
  · exact Nat.mod_eq_of_lt ‹_›
  · rw [Nat.mod_eq_sub_mod (by omega), Nat.mod_eq_of_lt (by omega)]
theorem at_lt {room first j : Nat} (h : 0 < room) : at' room first j < room := Nat.mod_lt _ h
theorem at_inj {room first a b : Nat} (hf : first < room) (ha : a < room) (hb : b < room) (h : at' room first a = at' room first b) : a = b := by
  rw [at_eq hf (by omega), at_eq hf (by omega)] at h
  split at h <;> split at h <;> omega
theorem at_next {room first j : Nat} (hf : first < room) (hj : j + 1 < room) : at' room (at' room first 1) j = at' room first (j + 1) := by
  rw [at_eq (first := first) (j := 1) hf (by omega), at_eq hf (by omega)]
  split
  · rw [at_eq (by omega) (by omega)]; split <;> split <;> omega
  · rw [at_eq (by omega) (by omega)]; split <;> split <;> omega
theorem at_last {room first : Nat} (hf : first < room) : at' room (at' room first 1) (room - 1) = at' room first 0 := by
  rw [at_eq (first := first) (j := 1) hf (by omega), at_eq hf (by omega)]
  split
  · rw [at_eq (by omega) (by omega)]; split <;> split <;> omega
  · rw [at_eq (by omega) (by omega)]; split <;> split <;> omega
end Go.Proofs.Ytnnliimjemmekaa
