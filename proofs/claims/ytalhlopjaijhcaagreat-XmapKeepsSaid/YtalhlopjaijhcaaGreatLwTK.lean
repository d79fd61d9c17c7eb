/-
  The law XmapKeeps as its row calls it.
-/
import Derived.Test.YtalhlopjaijhcaaGreatLwT
import Derived.Test.YtalhlopjaijhcaaGreatLwL
namespace Go.Proofs.YtalhlopjaijhcaaGreat
open Go.RowKit

theorem keeps_row (r k : Int) (a : Option Addr) (len cap : Nat) (ma : Option Addr) (ml mcap : Nat) (w : World) (hk : (Lit.int .u64 k).wf = true)
    (o : ∃ l : List Nat, len = l.length ∧ len ≤ cap ∧ cap ≤ 9223372036854775807 ∧ WA w a l ∧ ∀ x ∈ l, x < 18446744073709551616)
    (o2 : ∃ l : List Nat, ml = l.length ∧ ml ≤ mcap ∧ mcap ≤ 9223372036854775807 ∧ WA w ma l ∧ ∀ x ∈ l, x < 18446744073709551616) :
    Calls Tryz.prog 5 #[.int .i64 r, .int .u64 k, .slice a len cap, .slice ma ml mcap] w fun e w' => e = .returned (.bool true) ∧ Below w.heap.size w w' := by
  obtain ⟨l, rfl, h1, h2, h3, _⟩ := o
  obtain ⟨m, rfl, g1, g2, g3, g4⟩ := o2
  rw [(u64_of hk).1]
  exact (keeps_law r _ (u64_of hk).2 a cap l ma mcap m w h3 h1 h2 g3 (Nat.le_trans g1 g2) g4).mono fun e w' ⟨he, hc⟩ => ⟨he, hc.below _ (by simp) (Nat.le_refl _)⟩
end Go.Proofs.YtalhlopjaijhcaaGreat
