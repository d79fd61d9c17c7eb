/-
  Rows of instructions of the call's own.
-/
import Derived.Test.YtadogffllkompaaDoorIsN
import Derived.Laws.AppendOwnNone
namespace Go.Proofs.YtadogffllkompaaDoor
open Go.RowKit

theorem own_new {w w' : World} {a : World} {lo e s m : Nat} {v : Value} {ys : List Value} (h : Ch [] a w) (hg : w.grownBy w' v.ownBlock) (hlo : a.heap.size ≤ lo) (hv : w.ownsRow lo e s v m ys) : Ch [] a w' := by
  refine h.kept hg (fun r hr => ?_)
  rcases hv.2 with ⟨rfl, _⟩ | ⟨g, cap, cur, rfl, hb, _⟩
  · simp [Value.ownBlock] at hr
  · have : g = r := by simpa [Value.ownBlock] using hr
    omega

/-- Instructions of the call's own. -/
def IR (w : World) (lo T : Nat) (v : Value) (L : List I5) : Prop := w.ownsRow lo T 5 v L.length (L.flatMap fiv)
theorem fivs_len (L : List I5) : (L.flatMap fiv).length = L.length * 5 := by
  induction L with
  | nil => rfl
  | cons x l ih => simp [fiv] at ih ⊢; omega
theorem fivs_at (L : List I5) (k : Nat) (hk : k < L.length) : (L.flatMap fiv)[k * 5]? = some (.int .i64 L[k].op) ∧ (L.flatMap fiv)[k * 5 + 1]? = some (.int .i64 L[k].d) ∧ (L.flatMap fiv)[k * 5 + 2]? = some (.int .i64 L[k].s) ∧ (L.flatMap fiv)[k * 5 + 3]? = some (.int .i64 L[k].o) ∧ (L.flatMap fiv)[k * 5 + 4]? = some (.int .i64 L[k].i) := by
  induction L generalizing k with
  | nil => simp at hk
  | cons x l ih =>
    cases k with
    | zero => simp [fiv]
    | succ k =>
      have h := ih k (by simpa using hk)
      rw [List.flatMap_cons]
      have e : ∀ j, (fiv x ++ l.flatMap fiv)[(k + 1) * 5 + j]? = (l.flatMap fiv)[k * 5 + j]? := fun j => by
        rw [List.getElem?_append_right (by simp [fiv]; omega)]
        congr 1
        simp [fiv]; omega
      have e0 := e 0
      rw [Nat.add_zero, Nat.add_zero] at e0
      rw [e0, e 1, e 2, e 3, e 4]
      exact h
theorem IR.form {w : World} {lo T : Nat} {v : Value} {L : List I5} (h : IR w lo T v L) : ∃ a cap, v = .slice a L.length cap ∧ InsAt w a L ∧ ∀ y, a = some y → lo ≤ y.block ∧ y.block < w.heap.size := by
  unfold IR at h
  by_cases h0 : L = []
  · subst h0
    rcases h.2 with ⟨rfl, _⟩ | ⟨g, cp, cur, rfl, hb, hg, _⟩
    · exact ⟨none, 0, rfl, .inl rfl, by simp⟩
    · refine ⟨some ⟨g, 0, none⟩, cp, rfl, .inl rfl, fun y e => ?_⟩
      cases e
      exact ⟨hb, (Array.getElem?_eq_some_iff.1 hg).1⟩
  · have hl : 0 < L.length := List.length_pos_iff.2 h0
    obtain ⟨a, cap, rfl⟩ := own_form h
    obtain ⟨g, rfl, hb, hs, _, hc⟩ := own_cells h 0 (by omega)
    refine ⟨some ⟨g, 0, none⟩, cap, rfl, .inr ⟨g, 0, rfl, fun i hi => ?_⟩, fun y e => by cases e; exact ⟨hb, hs⟩⟩
    rw [Nat.zero_add]
    obtain ⟨k0, k1, k2, k3, k4⟩ := fivs_at L i hi
    exact ⟨(hc _ (by omega)).trans k0, (hc _ (by omega)).trans k1, (hc _ (by omega)).trans k2, (hc _ (by omega)).trans k3, (hc _ (by omega)).trans k4⟩
theorem IR.nil (w : World) (lo T : Nat) : IR w lo T (.slice none 0 0) [] := World.ownsRow_nil _ _ _ _
theorem IR.ch {w w' : World} {S : List Nat} {lo T : Nat} {v : Value} {L : List I5} (h : IR w lo T v L) (hc : Ch S w w') (hS : ∀ k ∈ S, k < lo) : IR w' lo T v L := own_ch h hc hS
theorem IR.snoc {w : World} {lo T : Nat} {v : Value} {L : List I5} {x : I5} (h : w.ownsRow lo T 5 v (L.length + 1) (L.flatMap fiv ++ fiv x)) : IR w lo T v (L ++ [x]) := by
  unfold IR
  simpa using h
theorem cells_five (w : World) (x : I5) (t : TypeId) : ∀ j u, (fiv x)[j]? = some u → (w.alloc (.cells #[.int .i64 x.op, .int .i64 x.d, .int .i64 x.s, .int .i64 x.o, .int .i64 x.i] t)).cell? ((⟨w.heap.size, 0, none⟩ : Addr).add j) = some u := by
  intro j u hj
  rw [addr_add, Nat.zero_add, World.cell?_alloc_at _ _ _ _ rfl]
  unfold fiv at hj
  match j, hj with
  | 0, hj => simpa using hj
  | 1, hj => simpa using hj
  | 2, hj => simpa using hj
  | 3, hj => simpa using hj
  | 4, hj => simpa using hj

end Go.Proofs.YtadogffllkompaaDoor
