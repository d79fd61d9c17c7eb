/-
  Marks that a range over a function in a plain loop leaves behind; a region that draws its order, in a round of a range over a function: by the laws of a plain one.
-/
import Derived.Sort.LoopGhostIn
import Derived.OrdersHeld
import Derived.OrdersIn
import Derived.Deep.RegionHeld3
import Derived.Laws.IdiomCopy
import Derived.Test.YtaccfjlpojglpaaBaseZ
import Derived.Test.YtaccfjlpojglpaaBuL
import Derived.Test.YtaccfjlpojglpaaBuP
namespace Go.Proofs.Ytaccfjlpojglpaa
open Go.RowKit Go.Shelf

attribute [local go_sem] Oper.semAt_some

/-- The marks that rounds have left: each its own block, between n₀ and B, with nothing handed over. -/
def Marks (n₀ B : Nat) (w : World) : List Deferred → Prop
  | [] => True
  | d :: ds => (∃ D, d = { target := .collected D, args := #[] } ∧ n₀ ≤ D ∧ D < B ∧ w.heap[D]? = some (.deferred (some [])) ∧ ∀ d' ∈ ds, d'.target ≠ .collected D) ∧ Marks n₀ B w ds
theorem Marks.keep {n₀ B B' : Nat} {w w' : World} (hB : B ≤ B') (h : ∀ D, n₀ ≤ D → D < B → w.heap[D]? = some (.deferred (some [])) → w'.heap[D]? = some (.deferred (some []))) : ∀ {ds : List Deferred}, Marks n₀ B w ds → Marks n₀ B' w' ds
  | [], _ => trivial
  | _ :: _, ⟨⟨D, h1, h2, h3, h4, h5⟩, h6⟩ => ⟨⟨D, h1, h2, by omega, h D h2 h3 h4, h5⟩, Marks.keep hB h h6⟩
theorem Marks.lt {n₀ B : Nat} {w : World} : ∀ {ds : List Deferred}, Marks n₀ B w ds → ∀ d ∈ ds, ∃ D, d.target = .collected D ∧ D < B
  | [], _, _, hd => by cases hd
  | _ :: _, ⟨⟨D, h1, _, h3, _⟩, h6⟩, d, hd => by
    rcases List.mem_cons.1 hd with rfl | hd
    · exact ⟨D, by rw [h1], h3⟩
    · exact h6.lt d hd
theorem Marks.ch {n₀ B : Nat} {S : List Nat} {w w' : World} {ds : List Deferred} (h : Marks n₀ B w ds) (hc : Ch S w w') (hS : ∀ k ∈ S, ∃ o, w.heap[k]? = some o ∧ o.isCells = true) : Marks n₀ B w' ds :=
  h.keep (Nat.le_refl _) fun D _ _ hD => (hc.block D (Array.getElem?_eq_some_iff.1 hD).1 (fun hm => by
    obtain ⟨o, h1, h2⟩ := hS D hm
    rw [hD] at h1
    cases h1
    cases h2)).trans hD
theorem Marks.own {n₀ B : Nat} {ds : List Deferred} {β : Type} : OwnFrom B (fun (_ : β) W => Marks n₀ B W ds) := fun _ W W' row h hg hr =>
  h.keep (Nat.le_refl _) fun D _ hlt hD => (hg.block D (Array.getElem?_eq_some_iff.1 hD).1 (fun e => by have := (hr D e.symm).1; omega)).trans hD
/-- The marks are taken over one behind the other. -/
theorem leaves_marks {F : Fence} {n : Nat} {P : Program} {fn : Func} {tmps : Array Value} {R : Ending → World → Prop} {n₀ B : Nat} {w0 : World} {v : Value} (hres : ∀ W, (results fn tmps).run P W = .ok v W) (hR : ∀ W, Below n₀ w0 W → R (.returned v) W) :
    ∀ (ds : List Deferred) (w : World), Marks n₀ B w ds → Below n₀ w0 w → LeavesInM F n P fn tmps R ds .returning w
  | [], w, _, hb => ⟨v, hres w, hR w hb⟩
  | d :: ds, w, ⟨⟨D, h1, h2, h3, h4, h5⟩, h6⟩, hb => by
    have hlt := (Array.getElem?_eq_some_iff.1 h4).1
    refine ⟨by simp, .inl ⟨D, _, by rw [h1], run_takeDeferred h4, ?_⟩⟩
    refine leaves_marks (B := B) hres hR ds _ ?_ (hb.trans ((Below.refl n₀ w).grown (grownBy_putObj' w D _) (by omega) (fun k e => by cases e; omega)))
    have key : ∀ (es : List Deferred), (∀ d' ∈ es, d'.target ≠ .collected D) → Marks n₀ B w es → Marks n₀ B (w.putObj D (.deferred none)) es := by
      intro es
      induction es with
      | nil => exact fun _ _ => trivial
      | cons e es ih =>
        rintro hne ⟨⟨D', g1, g2, g3, g4, g5⟩, g6⟩
        refine ⟨⟨D', g1, g2, g3, ?_, g5⟩, ih (fun d' hd' => hne d' (List.mem_cons_of_mem _ hd')) g6⟩
        have : D' ≠ D := fun e2 => hne e (by simp) (by rw [g1, e2])
        exact (World.putObj_heap_other this).trans g4
    exact key ds h5 h6

/-- Blocks of cells are as they were. -/
def CK (A B : World) : Prop := ∀ (k : Nat) (cs : Array Value) (t : TypeId) (fr : Nat × Nat), A.heap[k]? = some (.cells cs t fr) → B.heap[k]? = some (.cells cs t fr)
theorem CK.refl (A : World) : CK A A := fun _ _ _ _ h => h
theorem CK.trans {A B C : World} (h : CK A B) (g : CK B C) : CK A C := fun k cs t fr hk => g k cs t fr (h k cs t fr hk)
theorem CK.put (W : World) (l : Nat) (o o' : Obj) (h : W.heap[l]? = some o) (hc : o.isCells = false) : CK W (W.putObj l o') := fun k cs t fr hk =>
  (World.putObj_heap_other (fun e => by subst e; rw [h] at hk; cases hk; cases hc)).trans hk
theorem CK.grown {W W' : World} {row : Option Nat} (hg : W.grownBy W' row) (hr : ∀ r, row = some r → ∃ o, W.heap[r]? = some o ∧ o.isCells = false) : CK W W' := fun k cs t fr hk =>
  (hg.block k (Array.getElem?_eq_some_iff.1 hk).1 (fun e => by
    obtain ⟨o, h1, h2⟩ := hr k e.symm
    rw [hk] at h1
    cases h1
    cases h2)).trans hk
theorem CK.row {A B : World} (hk : CK A B) {b t s n : Nat} {v : Value} {xs : List Value} (h : A.ownsRow b t s v n xs) : B.ownsRow b t s v n xs := by
  obtain ⟨h1, h2⟩ := h
  refine ⟨h1, ?_⟩
  rcases h2 with h2 | ⟨g, cap, cur, rfl, hb, hg, r⟩
  · exact .inl h2
  · exact .inr ⟨g, cap, cur, rfl, hb, hk _ _ _ _ hg, r⟩
/-- The marks are taken over one behind the other; what lay in cells stays. -/
theorem leaves_marks_ck {F : Fence} {n : Nat} {P : Program} {fn : Func} {tmps : Array Value} {R : Ending → World → Prop} {n₀ B : Nat} {w0 : World} {v : Value} (hres : ∀ W, (results fn tmps).run P W = .ok v W) (hR : ∀ W, Below n₀ w0 W → CK w0 W → R (.returned v) W) :
    ∀ (ds : List Deferred) (w : World), Marks n₀ B w ds → Below n₀ w0 w → CK w0 w → LeavesInM F n P fn tmps R ds .returning w
  | [], w, _, hb, hk => ⟨v, hres w, hR w hb hk⟩
  | d :: ds, w, ⟨⟨D, h1, h2, h3, h4, h5⟩, h6⟩, hb, hk => by
    have hlt := (Array.getElem?_eq_some_iff.1 h4).1
    refine ⟨by simp, .inl ⟨D, _, by rw [h1], run_takeDeferred h4, ?_⟩⟩
    refine leaves_marks_ck (B := B) hres hR ds _ ?_ (hb.trans ((Below.refl n₀ w).grown (grownBy_putObj' w D _) (by omega) (fun k e => by cases e; omega))) (hk.trans (CK.put w D _ _ h4 rfl))
    have key : ∀ (es : List Deferred), (∀ d' ∈ es, d'.target ≠ .collected D) → Marks n₀ B w es → Marks n₀ B (w.putObj D (.deferred none)) es := by
      intro es
      induction es with
      | nil => exact fun _ _ => trivial
      | cons e es ih =>
        rintro hne ⟨⟨D', g1, g2, g3, g4, g5⟩, g6⟩
        refine ⟨⟨D', g1, g2, g3, ?_, g5⟩, ih (fun d' hd' => hne d' (List.mem_cons_of_mem _ hd')) g6⟩
        have : D' ≠ D := fun e2 => hne e (by simp) (by rw [g1, e2])
        exact (World.putObj_heap_other this).trans g4
    exact key ds h5 h6

/-- An operation that is no defer statement. -/
def plainOp (o : Oper) : Bool := match o.op with
  | .defer _ => false
  | _ => true
theorem plainOp_spec {o : Oper} (h : plainOp o = true) : ∀ c, o.op ≠ .defer c := by
  intro c e
  unfold plainOp at h
  rw [e] at h
  cases h
theorem opIn_round {l n : Nat} {P : Program} {o : Oper} {a : Act} {w : World} {K : Act → World → Prop} {Q : Exit → Act → World → Prop} (hp : plainOp o = true) (h : o.wp P a w K Q) : o.wpIn (Fence.wide.inRound l) n P a w K Q := by
  have hd := plainOp_spec hp
  unfold Oper.wpIn
  refine ⟨fun _ _ => trivial, ?_⟩
  rw [show (Fence.wide.inRound l).round = some l from rfl, Oper.semAt_some l _ _ hd]
  unfold Oper.wp at h
  generalize (execOp a.eval o).run P w = r at *
  cases r with
  | ok x w' =>
    cases x
    case enter f args =>
      rw [Oper.upon_enter] at h
      rw [Oper.uponIn_enter]
      refine ⟨fun e => (by cases e), ?_⟩
      refine (CallsIn.inRound l (callsIn_wide.2 h)).mono ?_
      intro e w2 he
      cases e <;> exact he
    case row row args =>
      rw [Oper.upon_row] at h
      rw [Oper.uponIn_row]
      refine ⟨fun e => (by cases e), ?_⟩
      intro c cs _
      obtain ⟨v, w2, r, s⟩ := h c cs
      exact ⟨v, w2, r, stepsIn_wide.2 s⟩
    all_goals first | exact h | exact h.elim
  | halt x w' => cases x <;> exact h
theorem wpOps_round {l n : Nat} {P : Program} {ops : Array Oper} {Q : Exit → Act → World → Prop} (hp : ∀ (j : Nat) (o : Oper), ops[j]? = some o → plainOp o = true) (hL : ¬ LetsOut Q) :
    ∀ (is : List Nat) (a : Act) (w : World), wpOps P ops Q is a w → wpOpsIn (Fence.wide.inRound l) n P ops Q is a w
  | [], _, _, h => h
  | i :: rest, a, w, h => by
    unfold wpOps at h
    unfold wpOpsIn
    cases ho : ops[i]? with
    | none =>
      rw [ho] at h
      exact wpOps_round hp hL rest a w h
    | some o =>
      rw [ho] at h
      simp only at h ⊢
      split
      · rename_i hw
        rw [if_pos hw] at h
        rcases h with h | ⟨_, h⟩
        · exact Oper.wpIn_mono (fun a w => wpOps_round hp hL rest a w) (opIn_round (hp i o ho) h)
        · exact absurd h hL
      · rename_i hw
        rw [if_neg hw] at h
        exact ⟨fun _ _ => trivial, wpOps_round hp hL rest _ w h⟩
/-- A region that draws its order, in a round: whatever is held, by the moves of a plain one. -/
theorem wpIn_region_round {l n : Nat} {P : Program} {S : World → Prop} {id : Nat} {ops : Array Oper} {Q : Exit → Act → World → Prop} {a : Act} {w : World} (hm : P.follows .mixedOrders = true) (hp : ops.all plainOp = true) (hL : ¬ LetsOut Q) (hS : S w.drew)
    (h : S w.drew → wpAnyH P .any ops Q S ops.size (Array.replicate ops.size false) a w.drew) : (Code.region id ops true).wpIn (Fence.wide.inRound l) n P Q a w :=
  wpIn_region_draw fun t => by
    simp only [Region.schedule, hm, Bool.true_or, if_true]
    refine wpOps_round (fun j o ho => ?_) hL _ _ _ (wpAny_sound ops.size t _ a _ (wpAny_of_held _ _ _ _ (h hS)))
    obtain ⟨hlt, rfl⟩ := Array.getElem?_eq_some_iff.1 ho
    exact (Array.all_eq_true.1 hp) j hlt

/-- The others first, then the last, which waits for all of them: as what a region asks. -/
theorem wpAny_region_last {P : Program} {Q : Exit → Act → World → Prop} {hd : List Oper} {z : Oper} {a : Act} {w : World} 
    (hb : ((List.range hd.length).all fun i => (z.after.any fun e => Region.binds .any e && e.on == i) || (List.range hd.length).any fun j => decide (i < j) && match hd[j]? with | some o => o.after.any fun e => Region.binds .any e && e.on == i | none => false) && (z.after.all fun e => decide (e.on < hd.length)) && ((List.range hd.length).all fun i => match hd[i]? with | some o => o.guard.isNone && o.after.all fun e => decide (e.on < i) | none => true) && z.guard.isNone = true)
    (S : World → Prop) (hS : S w.drew) (h : S w.drew → wpAnyH P .any hd.toArray (lastPost P z Q) S hd.length (Array.replicate hd.length false) a w.drew) : wpAny P .any (hd ++ [z]).toArray Q (hd ++ [z]).toArray.size (Array.replicate (hd ++ [z]).toArray.size false) a w.drew := by
  simp only [Bool.and_eq_true] at hb
  obtain ⟨⟨⟨b1, b2⟩, b3⟩, b4⟩ := hb
  have c3 : ∀ (i : Nat) (o : Oper), hd.toArray[i]? = some o → o.guard = none ∧ ∀ e ∈ o.after, e.on < i := fun i o ho => by
    have hs : i < hd.length := by simpa using (Array.getElem?_eq_some_iff.1 ho).1
    have := List.all_eq_true.1 b3 i (List.mem_range.2 hs)
    rw [show hd[i]? = some o by simpa using ho] at this
    simp only [Bool.and_eq_true, Option.isNone_iff_eq_none] at this
    refine ⟨this.1, fun e he => ?_⟩
    have := Array.all_eq_true'.1 this.2 e he
    simpa using this
  have key := wpAny_last (P := P) (Q := Q) (S := S) (hd := hd.toArray) (z := z) (fun i hi => by
      have := List.all_eq_true.1 b1 i (List.mem_range.2 (by simpa using hi))
      rw [Bool.or_eq_true] at this
      rcases this with this | this
      · obtain ⟨e, he, h2⟩ := Array.any_eq_true'.1 this
        simp only [Bool.and_eq_true, beq_iff_eq] at h2
        exact .inl ⟨e, he, h2.1, h2.2⟩
      · obtain ⟨j, hj, h2⟩ := List.any_eq_true.1 this
        rw [Bool.and_eq_true] at h2
        obtain ⟨h3, h4⟩ := h2
        have hj := List.mem_range.1 hj
        have ho : hd[j]? = some hd[j] := by simp [hj]
        rw [ho] at h4
        obtain ⟨e, he, h5⟩ := Array.any_eq_true'.1 h4
        simp only [Bool.and_eq_true, beq_iff_eq] at h5
        exact .inr ⟨j, hd[j], by simpa using h3, by simp, e, he, h5.1, h5.2⟩) (fun e he => by have := Array.all_eq_true'.1 b2 e he; simpa using this) (fun i o ho => (c3 i o ho).2) (fun i o ho => (c3 i o ho).1) (by simpa using b4)
    hd.length (Array.replicate hd.length false) a w.drew (by simp) (fun j o ho hj => by
      exfalso
      have : j < hd.length := by simpa using (Array.getElem?_eq_some_iff.1 ho).1
      simp [this] at hj) (h hS)
  have e1 : (hd ++ [z]).toArray = hd.toArray.push z := by simp
  have e2 : Array.replicate (hd.toArray.push z).size false = (Array.replicate hd.length false).push false := by simp [Array.replicate_succ]
  rw [e1, e2, show (hd.toArray.push z).size = hd.length + 1 by simp]
  exact key
/-- A region that draws its order and whose last operation waits for all others, in a round. -/
theorem wpIn_region_roundL {l n : Nat} {P : Program} {id : Nat} {ops : List Oper} {Q : Exit → Act → World → Prop} {a : Act} {w : World} (z : Oper) (hm : P.follows .mixedOrders = true) (hp : ops.toArray.all plainOp = true) (hL : ¬ LetsOut Q) (hl : ops = ops.dropLast ++ [z])
    (hb : ((List.range ops.dropLast.length).all fun i => (z.after.any fun e => Region.binds .any e && e.on == i) || (List.range ops.dropLast.length).any fun j => decide (i < j) && match ops.dropLast[j]? with | some o => o.after.any fun e => Region.binds .any e && e.on == i | none => false) && (z.after.all fun e => decide (e.on < ops.dropLast.length)) && ((List.range ops.dropLast.length).all fun i => match ops.dropLast[i]? with | some o => o.guard.isNone && o.after.all fun e => decide (e.on < i) | none => true) && z.guard.isNone = true)
    (S : World → Prop) (hS : S w.drew) (h : S w.drew → wpAnyH P .any ops.dropLast.toArray (lastPost P z Q) S ops.dropLast.length (Array.replicate ops.dropLast.length false) a w.drew) : (Code.region id ops.toArray true).wpIn (Fence.wide.inRound l) n P Q a w :=
  wpIn_region_draw fun t => by
    simp only [Region.schedule, hm, Bool.true_or, if_true]
    have key := wpAny_region_last (Q := Q) hb S hS h
    rw [← hl] at key
    refine wpOps_round (fun j o ho => ?_) hL _ _ _ (wpAny_sound ops.toArray.size t _ a _ key)
    obtain ⟨hlt, rfl⟩ := Array.getElem?_eq_some_iff.1 ho
    exact (Array.all_eq_true.1 hp) j hlt

/-- What a block holds behind cells that are laid. -/
theorem heap_setCell_same (w : World) (b k : Nat) (cur : Array Value) (t : TypeId) (v : Value) (h : w.heap[b]? = some (.cells cur t (0, 0))) : (w.setCell ⟨b, k, none⟩ v).heap[b]? = some (.cells (cur.setIfInBounds k v) t (0, 0)) := by
  obtain ⟨hlt, hk⟩ := Array.getElem?_eq_some_iff.1 h
  show (w.heap.modify b _)[b]? = _
  rw [Array.getElem?_eq_getElem (by rw [Array.size_modify]; exact hlt), Array.getElem_modify_self, hk]
  rfl
theorem heap_setCells : ∀ (vs : List Value) (w : World) (b o : Nat) (cur : Array Value) (t : TypeId), w.heap[b]? = some (.cells cur t (0, 0)) → (w.setCells b o vs).heap[b]? = some (.cells (spl cur o vs) t (0, 0))
  | [], _, _, _, _, _, h => h
  | v :: r, w, b, o, cur, t, h => by
    rw [World.setCells, spl]
    exact heap_setCells r _ b (o + 1) _ t (heap_setCell_same w b o cur t v h)
theorem ch_setCells {S : List Nat} {a : World} (b : Nat) (hb : b ∈ S ∨ a.heap.size ≤ b) : ∀ (vs : List Value) (o : Nat) {w : World}, Ch S a w → Ch S a (w.setCells b o vs)
  | [], _, _, h => h
  | v :: r, o, _, h => by
    rw [World.setCells]
    exact ch_setCells b hb r (o + 1) (h.setCell2 (p := ⟨b, o, none⟩) hb v)
/-- Cells of a plain block. -/
theorem cell_plain {w : World} {b : Nat} {cur : Array Value} {t : TypeId} (h : w.heap[b]? = some (.cells cur t (0, 0))) (j : Nat) : w.cell? ⟨b, j, none⟩ = cur[j]? ∧ w.frozen? ⟨b, j, none⟩ = false := by
  refine ⟨by simp [World.cell?, h], by simp [World.frozen?, h]⟩
end Go.Proofs.Ytaccfjlpojglpaa
