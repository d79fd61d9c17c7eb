/-
  A bank that may be nil; Late.
-/
import Derived.Test.YtnndofeomakpiaaGreatDoorBkC
namespace Go.Proofs.YtnndofeomakpiaaGreatDoor
open Go.RowKit Go.Maps Go.Shelf

attribute [local go_sem] Oper.semAt_some

/-- A bank that is nil, or one in memory. -/
def BO (w : World) (base : Nat) (p : Option Addr) (n : Nat) (f : Nat → Wh) : Prop := (p = none ∧ n = 0) ∨ ∃ K G cap, p = some ⟨K, 0, none⟩ ∧ BK w base K G cap n f
section
variable {w w' : World} {base n : Nat} {p : Option Addr} {f : Nat → Wh}
theorem BO.quiet (h : BO w base p n f) (hc : Ch [] w w') : BO w' base p n f := by
  rcases h with h | ⟨K, G, cap, e, h⟩
  · exact .inl h
  · exact .inr ⟨K, G, cap, e, h.quiet hc⟩
theorem BO.bat (h : BO w base p n f) : BAt w p n (fun i => (f i).B) := by
  rcases h with h | ⟨K, G, cap, e, h⟩
  · exact .inl h
  · exact .inr ⟨K, G, cap, e, h.n1, h.c, h.row⟩
theorem BO.wh (h : BO w base p n f) {i : Nat} (hi : i < n) : WB w base (f i).B (f i).S (f i).now (f i).puts (f i).L := by
  rcases h with ⟨_, h⟩ | ⟨K, G, cap, e, h⟩
  · omega
  · exact h.wh i hi
theorem BO.le (h : BO w base p n f) : n ≤ 64 := h.bat.le
theorem BO.nil (w : World) (base : Nat) (f : Nat → Wh) : BO w base none 0 f := .inl ⟨rfl, rfl⟩
theorem BK.bo {K G cap : Nat} (h : BK w base K G cap n f) : BO w base (some ⟨K, 0, none⟩) n f := .inr ⟨K, G, cap, rfl, h⟩
end
theorem chP_b {T : Nat → Prop} {w W : World} (l : Nat) (o' : Obj) (hl : w.heap.size ≤ l) (h : ChP T w W) : ChP T w (W.putObj l o') := h.fresh (chP_putObj W l o') (fun _ e => .inr (by cases e; exact hl))
theorem ownFrom_chP {β : Type} {T : Nat → Prop} {w : World} {B : Nat} (hB : w.heap.size ≤ B) : OwnFrom B (fun (_ : β) W => ChP T w W) := fun _ _ _ row hs hg hr =>
  hs.fresh (T := fun k => row = some k) (.grown hg (fun _ e => e)) (fun k e => .inr (Nat.le_trans hB (hr k e).1))
theorem ownFrom_ch {β : Type} {w : World} {B : Nat} (hB : w.heap.size ≤ B) : OwnFrom B (fun (_ : β) W => Ch [] w W) := fun s W W' row hs hg hr =>
  (ownFrom_chP (β := β) (T := fun _ => False) hB s W W' row (.quiet hs) hg hr).ch (fun _ => id)
/-- Of what there was T alone has turned; the iterator's two boxes and a third one are as they were. -/
structure GQ (T : Nat → Prop) (w : World) (B1 B2 bx : Nat) (v1 v2 vx : Value) (W : World) : Prop where
  ch : ChP T w W
  c1 : W.cell? ⟨B1, 0, none⟩ = some v1
  c2 : W.cell? ⟨B2, 0, none⟩ = some v2
  cx : W.cell? ⟨bx, 0, none⟩ = some vx
section
variable {T : Nat → Prop} {w W W' : World} {B1 B2 bx : Nat} {v1 v2 vx : Value}
theorem GQ.step {U : Nat → Prop} (h : GQ T w B1 B2 bx v1 v2 vx W) (hc : ChP U W W') (hT : ∀ k, U k → T k ∨ w.heap.size ≤ k) (h1 : ¬ U B1) (h2 : ¬ U B2) (hx : ¬ U bx) : GQ T w B1 B2 bx v1 v2 vx W' :=
  ⟨h.ch.fresh hc hT, (hc.cell (p := ⟨B1, 0, none⟩) (cell_lt h.c1) h1).trans h.c1, (hc.cell (p := ⟨B2, 0, none⟩) (cell_lt h.c2) h2).trans h.c2, (hc.cell (p := ⟨bx, 0, none⟩) (cell_lt h.cx) hx).trans h.cx⟩
theorem GQ.quiet (h : GQ T w B1 B2 bx v1 v2 vx W) (hc : Ch [] W W') : GQ T w B1 B2 bx v1 v2 vx W' := h.step (U := fun _ => False) (.quiet hc) (fun _ e => e.elim) id id id
theorem GQ.drew (h : GQ T w B1 B2 bx v1 v2 vx W) : GQ T w B1 B2 bx v1 v2 vx W.drew := ⟨h.ch.drew, h.c1, h.c2, h.cx⟩
theorem GQ.q (h : GQ (fun _ => False) w B1 B2 bx v1 v2 vx W) : Ch [] w W := h.ch.ch (fun _ => id)
theorem ownFrom_gq {β : Type} {B : Nat} (hB : w.heap.size ≤ B) : OwnFrom B (fun (_ : β) W => GQ T w B1 B2 bx v1 v2 vx W) := fun s W W' row hs hg hr =>
  ⟨ownFrom_chP (β := β) hB s W W' row hs.ch hg hr, cell_kept hs.c1 hg (fun r e => (hr r e).2), cell_kept hs.c2 hg (fun r e => (hr r e).2), cell_kept hs.cx hg (fun r e => (hr r e).2)⟩
theorem gq_b (l : Nat) (o o' : Obj) (hl : w.heap.size ≤ l) (h : W.heap[l]? = some o) (hc : o.isCells = false) (hq : GQ T w B1 B2 bx v1 v2 vx W) : GQ T w B1 B2 bx v1 v2 vx (W.putObj l o') :=
  ownFrom_gq (β := Unit) (B := w.heap.size) (Nat.le_refl _) () W _ (some l) hq (grownBy_putObj' W l o') (fun r e => by cases e; exact ⟨hl, o, h, hc⟩)
end
theorem ChP.keeps {T : Nat → Prop} {W W' : World} {B : Nat} (h : ChP T W W') (hT : ∀ k, T k → k < B) : KeepsFrom B W W' :=
  ⟨h.size, fun k _ hB hk _ => (h.block k (Array.getElem?_eq_some_iff.1 hk).1 (fun e => by have := hT k e; omega)).trans hk⟩
theorem app1 (a b c : Value) : #[a, b] ++ #[c] = #[a, b, c] := rfl
theorem app0 (a b : Value) : #[a, b] ++ (#[] : Array Value) = #[a, b] := rfl
/-- Some cells of the call's own. -/
def BoxN (W : World) (b : Nat) (vs : List Value) : Prop := ∀ i v, vs[i]? = some v → W.cell? ⟨b, i, none⟩ = some v ∧ W.frozen? ⟨b, i, none⟩ = false
theorem BoxN.new (W : World) (vs : List Value) (t : TypeId) : BoxN (W.alloc (.cells vs.toArray t)) W.heap.size vs := fun i v hv =>
  ⟨by rw [World.cell?_alloc_at _ _ _ _ rfl]; simpa using hv, World.frozen?_alloc_new W _ _ _⟩
theorem BoxN.chP {T : Nat → Prop} {W W' : World} {b : Nat} {vs : List Value} (h : BoxN W b vs) (hc : ChP T W W') (hb : ¬ T b) : BoxN W' b vs := fun i v hv =>
  have h1 := h i v hv
  ⟨(hc.cell (p := ⟨b, i, none⟩) (cell_lt h1.1) hb).trans h1.1, (hc.frozen (p := ⟨b, i, none⟩) (cell_lt h1.1) hb).trans h1.2⟩
theorem BoxN.quiet {W W' : World} {b : Nat} {vs : List Value} (h : BoxN W b vs) (hc : Ch [] W W') : BoxN W' b vs := h.chP (T := fun _ => False) (.quiet hc) id
theorem BoxN.setAt {W : World} {b : Nat} {vs : List Value} (h : BoxN W b vs) (i : Nat) (hi : i < vs.length) (u : Value) : BoxN (W.setCell ⟨b, i, none⟩ u) b (vs.set i u) := fun j v hj => by
  have ho := h i vs[i] (List.getElem?_eq_getElem hi)
  by_cases e : j = i
  · subst e
    rw [List.getElem?_set_self hi] at hj
    cases hj
    exact ⟨setCell_same ho.1, by simpa using ho.2⟩
  · rw [List.getElem?_set_ne (Ne.symm e)] at hj
    have h1 := h j v hj
    exact ⟨setCell_other h1.1 (addr_ne_off (Ne.symm e)), by simpa using h1.2⟩
theorem BoxN.away {W : World} {b c o : Nat} {vs : List Value} (h : BoxN W b vs) (hne : b ≠ c) (u : Value) : BoxN (W.setCell ⟨c, o, none⟩ u) b vs :=
  h.chP (T := fun k => k = c) (ChP.setCell (S := fun k => k = c) (ChP.refl _ W) (p := ⟨c, o, none⟩) (.inl rfl) u) hne
theorem BoxN.put {W : World} {b D : Nat} {vs : List Value} (h : BoxN W b vs) {o : Obj} (hD : W.heap[D]? = some o) (ho : o.isCells = false) (o' : Obj) : BoxN (W.putObj D o') b vs := fun i v hv =>
  have h1 := h i v hv
  ⟨cell_kept h1.1 (grownBy_putObj' W D o') (fun r e => by cases e; exact ⟨_, hD, ho⟩), (frozen_kept h1.1 (grownBy_putObj' W D o') (fun r e => by cases e; exact ⟨_, hD, ho⟩)).trans h1.2⟩
theorem BoxN.drew {W : World} {b : Nat} {vs : List Value} (h : BoxN W b vs) : BoxN W.drew b vs := h
/-- Three results that are stored into boxes side by side: one cell, four, one. -/
theorem set_three {W : World} {s : Nat} {u v x y z t : Value} (h1 : BoxN W (s + 1) [u]) (h2 : BoxN W (s + 1 + 1) [x, y, z, t]) (h3 : BoxN W (s + 1 + 1 + 1) [v]) (u' v' x' y' z' t' : Value) :
    BoxN ((((((W.setCell ⟨s + 1, 0, none⟩ u').setCell ⟨s + 1 + 1, 0, none⟩ x').setCell ⟨s + 1 + 1, 1, none⟩ y').setCell ⟨s + 1 + 1, 2, none⟩ z').setCell ⟨s + 1 + 1, 3, none⟩ t').setCell ⟨s + 1 + 1 + 1, 0, none⟩ v') (s + 1) [u'] ∧
    BoxN ((((((W.setCell ⟨s + 1, 0, none⟩ u').setCell ⟨s + 1 + 1, 0, none⟩ x').setCell ⟨s + 1 + 1, 1, none⟩ y').setCell ⟨s + 1 + 1, 2, none⟩ z').setCell ⟨s + 1 + 1, 3, none⟩ t').setCell ⟨s + 1 + 1 + 1, 0, none⟩ v') (s + 1 + 1) [x', y', z', t'] ∧
    BoxN ((((((W.setCell ⟨s + 1, 0, none⟩ u').setCell ⟨s + 1 + 1, 0, none⟩ x').setCell ⟨s + 1 + 1, 1, none⟩ y').setCell ⟨s + 1 + 1, 2, none⟩ z').setCell ⟨s + 1 + 1, 3, none⟩ t').setCell ⟨s + 1 + 1 + 1, 0, none⟩ v') (s + 1 + 1 + 1) [v'] ∧
    ChP (fun k => s + 1 ≤ k ∧ k ≤ s + 1 + 1 + 1) W ((((((W.setCell ⟨s + 1, 0, none⟩ u').setCell ⟨s + 1 + 1, 0, none⟩ x').setCell ⟨s + 1 + 1, 1, none⟩ y').setCell ⟨s + 1 + 1, 2, none⟩ z').setCell ⟨s + 1 + 1, 3, none⟩ t').setCell ⟨s + 1 + 1 + 1, 0, none⟩ v') := by
  refine ⟨?_, ?_, ?_, ?_⟩
  · exact (((((h1.setAt 0 (by simp) u').away (by omega) x').away (by omega) y').away (by omega) z').away (by omega) t').away (by omega) v'
  · exact ((((((h2.away (by omega) u').setAt 0 (by simp) x').setAt 1 (by simp) y').setAt 2 (by simp) z').setAt 3 (by simp) t').away (by omega) v')
  · exact ((((((h3.away (by omega) u').away (by omega) x').away (by omega) y').away (by omega) z').away (by omega) t').setAt 0 (by simp) v')
  · exact ((((((ChP.refl _ W).setCell (.inl ⟨Nat.le_refl _, by simp only []; omega⟩) u').setCell (.inl ⟨by simp only []; omega, by simp only []; omega⟩) x').setCell (.inl ⟨by simp only []; omega, by simp only []; omega⟩) y').setCell (.inl ⟨by simp only []; omega, by simp only []; omega⟩) z').setCell (.inl ⟨by simp only []; omega, by simp only []; omega⟩) t').setCell (.inl ⟨by simp only []; omega, by simp only []; omega⟩) v'
theorem boxN_own {β : Type} (b : Nat) (vs : β → List Value) : Own (fun (s : β) W => BoxN W b (vs s)) := fun _ _ _ _ hs hg hr i v hv =>
  have h1 := hs i v hv
  ⟨cell_kept h1.1 hg hr, (frozen_kept h1.1 hg hr).trans h1.2⟩

theorem lateM_snoc (l : List Nat) (i : Nat) : Mk.withN (Mk.withN 0 (l.map fun (i : Nat) => (i : Int))) [(i : Int)] = Mk.withN 0 ((l ++ [i]).map fun (i : Nat) => (i : Int)) := by
  simp [Mk.withN, List.foldl_append]
end Go.Proofs.YtnndofeomakpiaaGreatDoor
