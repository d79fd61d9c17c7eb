/-
  For the law ArenaFinds: a piece of the code; cells of the rows.
-/
import Derived.Deep.CutBlock
import Derived.Test.YtdompamilgbnnaaATK
import Derived.Test.YtdompamilgbnnaaArFA
namespace Go.Proofs.Ytdompamilgbnnaa
open Go.RowKit aT

/-- A piece of a function's code, by its way from the root. -/
def codeOf : List Nat → Code → Code
  | [], c => c
  | 0 :: t, .seq a _ => codeOf t a
  | _ :: t, .seq _ b => codeOf t b
  | 0 :: t, .cond _ a _ => codeOf t a
  | _ :: t, .cond _ _ b => codeOf t b
  | _ :: t, .block _ c => codeOf t c
  | _ :: t, .loop c => codeOf t c
  | _, c => c

/-- A row that is not empty: its block and its cells. -/
theorem own_cells {w : World} {B e sz n cap : Nat} {a : Option Addr} {xs : List Value} (h : w.ownsRow B e sz (.slice a n cap) n xs) (i : Nat) (hi : i < n * sz) : ∃ g, a = some ⟨g, 0, none⟩ ∧ B ≤ g ∧ g < w.heap.size ∧ (∀ o, w.frozen? ⟨g, o, none⟩ = false) ∧ ∀ j, j < n * sz → w.cell? ⟨g, j, none⟩ = xs[j]? := by
  rcases h.2 with ⟨_, rfl⟩ | ⟨g, cp, cur, e, hb, hg, _⟩
  · simp at hi
  · cases e
    exact ⟨g, rfl, hb, (Array.getElem?_eq_some_iff.1 hg).1, fun o => World.ownsRow.frozenAt h o, fun j hj => World.ownsRow.cellAt h j hj⟩
theorem R3.at' {w : World} {D : Nat} {a9 a10 a11 : Option Addr} {c9 c10 c11 : Nat} {es : List Ent} (h : R3 w D (.slice a9 es.length c9) (.slice a10 es.length c10) (.slice a11 es.length c11) es) {k : Nat} (hk : k < es.length) :
    ∃ e g9 g10 g11, es[k]? = some e ∧ a9 = some ⟨g9, 0, none⟩ ∧ a10 = some ⟨g10, 0, none⟩ ∧ a11 = some ⟨g11, 0, none⟩ ∧
      w.cell? ⟨g9, k * 2, none⟩ = some (.int .i64 (e.slot : Int)) ∧ w.cell? ⟨g9, k * 2 + 1, none⟩ = some (.int .i64 (e.gen : Int)) ∧ w.cell? ⟨g10, k * 2, none⟩ = some (.int .i64 e.x.1) ∧ w.cell? ⟨g10, k * 2 + 1, none⟩ = some (.string e.x.2) ∧
      w.cell? ⟨g11, k, none⟩ = some (.bool e.gone) ∧ w.frozen? ⟨g11, k, none⟩ = false ∧ D ≤ g11 := by
  obtain ⟨g9, rfl, _, _, _, h9⟩ := own_cells h.t (k * 2) (by omega)
  obtain ⟨g10, rfl, _, _, _, h10⟩ := own_cells h.g (k * 2) (by omega)
  obtain ⟨g11, rfl, hd, _, f11, h11⟩ := own_cells h.b k (by omega)
  have he : es[k]? = some es[k] := by simp [hk]
  have t := flat2_at (fun e : Ent => Value.int .i64 (e.slot : Int)) (fun e => .int .i64 (e.gen : Int)) es k es[k] he
  have g := flat2_at (fun e : Ent => Value.int .i64 e.x.1) (fun e => .string e.x.2) es k es[k] he
  have b := egs_at es k es[k] he
  exact ⟨es[k], g9, g10, g11, he, rfl, rfl, rfl, (h9 _ (by omega)).trans t.1, (h9 _ (by omega)).trans t.2, (h10 _ (by omega)).trans g.1, (h10 _ (by omega)).trans g.2, (h11 _ (by omega)).trans b, f11 k, hd⟩
theorem own_set {w : World} {B e s g cp n : Nat} {xs : List Value} (h : w.ownsRow B e s (.slice (some ⟨g, 0, none⟩) n cp) n xs) (j : Nat) (u : Value) (_ : j < n * s) :
    (w.setCell ⟨g, j, none⟩ u).ownsRow B e s (.slice (some ⟨g, 0, none⟩) n cp) n (xs.set j u) := by
  obtain ⟨h1, h2⟩ := h
  rcases h2 with ⟨h2, _⟩ | ⟨g', cap', cur, h2, hb, hg, hn, hc, hs, hx⟩
  · cases h2
  · cases h2
    refine ⟨by simpa using h1, .inr ⟨g, cp, cur.setIfInBounds j u, rfl, hb, ?_, hn, hc, by simpa using hs, ?_⟩⟩
    · obtain ⟨hlt, hk⟩ := Array.getElem?_eq_some_iff.1 hg
      show (w.heap.modify g _)[g]? = _
      rw [Array.getElem?_eq_getElem (by rw [Array.size_modify]; exact hlt), Array.getElem_modify_self, hk]
      rfl
    · rw [← hx, Array.toList_setIfInBounds, List.take_set]
theorem grown_set (w : World) (b o : Nat) (v : Value) : w.grownBy (w.setCell ⟨b, o, none⟩ v) (some b) :=
  ⟨rfl, rfl, rfl, by simp [World.setCell], fun k _ hk => Below.heap_setCell _ _ _ k (fun e => hk (by rw [e]))⟩
/-- One of them is gone now. -/
theorem R3.gone {w : World} {D : Nat} {vt vg : Value} {g11 c11 : Nat} {es : List Ent} (h : R3 w D vt vg (.slice (some ⟨g11, 0, none⟩) es.length c11) es) {q : Nat} {e : Ent} (he : es[q]? = some e) :
    R3 (w.setCell ⟨g11, q, none⟩ (.bool true)) D vt vg (.slice (some ⟨g11, 0, none⟩) es.length c11) (es.set q { e with gone := true }) := by
  obtain ⟨e1, e2, e3⟩ := ehs_gone es q e he
  have hq : q < es.length := (List.getElem?_eq_some_iff.1 he).1
  refine ⟨?_, ?_, ?_⟩
  · rw [List.length_set, e1]; exact h.t.kept (grown_set w g11 q _) (own_apart h.t h.b (by decide))
  · rw [List.length_set, e2]; exact h.g.kept (grown_set w g11 q _) (own_apart h.g h.b (by decide))
  · rw [List.length_set, e3]; exact own_set h.b q _ (by omega)
end Go.Proofs.Ytdompamilgbnnaa
