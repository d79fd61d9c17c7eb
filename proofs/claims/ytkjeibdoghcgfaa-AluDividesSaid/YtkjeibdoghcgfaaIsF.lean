/-
  The document's Kind at every number.
-/
import Derived.Test.YtkjeibdoghcgfaaIsE
import Derived.Laws.Strings
import Derived.Laws.Strings2
namespace Go.Proofs.Ytkjeibdoghcgfaa
open Go.RowKit

theorem kind_any (op : Int) (w : World) : Calls Try.prog 19 #[.int .i64 op] w fun e w' => e = .returned (kindR op) ∧ Ch [] w w' := by
  rcases Int.lt_or_le op 0 with h | h
  · exact kind_g h w
  · rcases Int.lt_or_le 73 op with h' | h'
    · exact kind_h (by omega) w
    · obtain ⟨k, rfl⟩ : ∃ k : Nat, op = (k : Int) := ⟨op.toNat, by omega⟩
      by_cases ha : k < 12
      · exact kind_a ha w
      · by_cases hb : 16 ≤ k ∧ k < 28
        · exact kind_b (k := k - 16) (by omega) (by omega) w
        · by_cases hc : 33 ≤ k ∧ k < 42
          · exact kind_c (k := k - 33) (by omega) (by omega) w
          · by_cases hd : 49 ≤ k ∧ k < 58
            · exact kind_d (k := k - 49) (by omega) (by omega) w
            · by_cases hz : cls (k : Int) = 0
              · rcases (show (13 ≤ k ∧ k < 16) ∨ (28 ≤ k ∧ k < 33) ∨ (42 ≤ k ∧ k < 49) ∨ (58 ≤ k ∧ k < 74) by
                  have : k ≠ 12 := by rintro rfl; exact absurd hz (by decide)
                  omega) with e | e | e | e
                · exact gap_a (by omega) (by omega) hz w
                · exact gap_b (by omega) (by omega) hz w
                · exact gap_c (by omega) (by omega) hz w
                · exact gap_d (by omega) (by omega) hz w
              · have hsp : k = 12 ∨ k = 32 ∨ (64 ≤ k ∧ k ≤ 67) ∨ k = 72 ∨ k = 73 := by
                  unfold cls at hz; repeat' split at hz
                  all_goals omega
                by_cases hl : k ≤ 65
                · exact kind_e (by omega) w
                · exact kind_f (by omega) w
end Go.Proofs.Ytkjeibdoghcgfaa
