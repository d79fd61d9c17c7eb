/-
  The laws of stage 16, of arguments as the rows have them.
-/
import Derived.Test.YtkjeibdoghcgfaaAlT
import Derived.Test.YtkjeibdoghcgfaaAlL
import Derived.Test.YtkjeibdoghcgfaaAlM
import Derived.Test.YtkjeibdoghcgfaaAlN
namespace Go.Proofs.Ytkjeibdoghcgfaa
open Go.RowKit

theorem sums_row {op a b : Int} (h0 : (Lit.int .i64 op).wf = true) (h1 : (Lit.int .u64 a).wf = true) (h2 : (Lit.int .u64 b).wf = true) (w : World) :
    Calls Try.prog 3 #[.int .i64 op, .int .u64 a, .int .u64 b] w fun e w' => e = .returned (.bool true) ∧ Below w.heap.size w w' := by
  obtain ⟨e1, l1⟩ := u64_of h1
  obtain ⟨e2, l2⟩ := u64_of h2
  rw [e1, e2]
  exact sums_law (fit_of h0) l1 l2 w
theorem jumps_row {op a b : Int} (h0 : (Lit.int .i64 op).wf = true) (h1 : (Lit.int .u64 a).wf = true) (h2 : (Lit.int .u64 b).wf = true) (w : World) :
    Calls Try.prog 4 #[.int .i64 op, .int .u64 a, .int .u64 b] w fun e w' => e = .returned (.bool true) ∧ Below w.heap.size w w' := by
  obtain ⟨e1, l1⟩ := u64_of h1
  obtain ⟨e2, l2⟩ := u64_of h2
  rw [e1, e2]
  exact jumps_law (fit_of h0) l1 l2 w
theorem divides_row {a b : Int} (h1 : (Lit.int .u64 a).wf = true) (h2 : (Lit.int .u64 b).wf = true) (w : World) :
    Calls Try.prog 5 #[.int .u64 a, .int .u64 b] w fun e w' => e = .returned (.bool true) ∧ Below w.heap.size w w' := by
  obtain ⟨e1, l1⟩ := u64_of h1
  obtain ⟨e2, l2⟩ := u64_of h2
  rw [e1, e2]
  exact divides_law l1 l2 w
theorem opposites_row {a b : Int} (h1 : (Lit.int .u64 a).wf = true) (h2 : (Lit.int .u64 b).wf = true) (w : World) :
    Calls Try.prog 6 #[.int .u64 a, .int .u64 b] w fun e w' => e = .returned (.bool true) ∧ Below w.heap.size w w' := by
  obtain ⟨e1, l1⟩ := u64_of h1
  obtain ⟨e2, l2⟩ := u64_of h2
  rw [e1, e2]
  exact opposites_law l1 l2 w
theorem words_row {n a : Int} (h0 : (Lit.int .i64 n).wf = true) (h1 : (Lit.int .u64 a).wf = true) (w : World) :
    Calls Try.prog 8 #[.int .i64 n, .int .u64 a] w fun e w' => e = .returned (.bool true) ∧ Below w.heap.size w w' := by
  obtain ⟨e1, l1⟩ := u64_of h1
  rw [e1]
  exact words_law (fit_of h0) l1 w
theorem folds_row {op a : Int} (h0 : (Lit.int .i64 op).wf = true) (h1 : (Lit.int .u64 a).wf = true) {ao : Option Addr} {len cap : Nat} {w : World} (hz : ∃ z : Nat → Nat, len ≤ cap ∧ cap ≤ 9223372036854775807 ∧ WordsAt w ao len z) :
    Calls Try.prog 7 #[.int .i64 op, .int .u64 a, .slice ao len cap] w fun e w' => e = .returned (.bool true) ∧ Below w.heap.size w w' := by
  obtain ⟨e1, l1⟩ := u64_of h1
  obtain ⟨z, h2, h3, h4⟩ := hz
  rw [e1]
  exact folds_law (fit_of h0) l1 ao len cap z w h2 h3 h4
end Go.Proofs.Ytkjeibdoghcgfaa
