/-
  A table of values of string: what a call may turn; Get, Put.
-/
import Derived.Test.YtaccfjlpojglpaaBSD
import Derived.Test.YtaccfjlpojglpaaBSE
namespace Go.Proofs.Ytaccfjlpojglpaa.bS
open Go.RowKit Go.Shelf

attribute [local go_sem] Oper.semAt_some

/-- Of what there was, the table's own blocks alone may have turned: entries' and chains' heads', from S on. -/
structure Tn (S : Nat) (w w' : World) : Prop where
  os : w'.os = w.os
  tape : w'.tape = w.tape
  output : w'.output = w.output
  size : w.heap.size ≤ w'.heap.size
  low : ∀ k, k < w.heap.size → k < S → w'.heap[k]? = w.heap[k]?
  typ : ∀ (k : Nat) (o : Obj), w.heap[k]? = some o → (∀ cs fr, o ≠ .cells cs 92 fr) → (∀ cs fr, o ≠ .cells cs 93 fr) → w'.heap[k]? = some o
section
variable {S : Nat} {a w w' w2 : World}
theorem Tn.of_ch (h : Ch [] w w') : Tn S w w' := ⟨h.os, h.tape, h.output, h.size, fun k hk _ => h.block k hk (by simp), fun k o hk _ _ => (h.block k (Array.getElem?_eq_some_iff.1 hk).1 (by simp)).trans hk⟩
theorem Tn.trans (h : Tn S w w') (k : Tn S w' w2) : Tn S w w2 :=
  ⟨k.os.trans h.os, k.tape.trans h.tape, k.output.trans h.output, Nat.le_trans h.size k.size, fun i hi hs => (k.low i (Nat.lt_of_lt_of_le hi h.size) hs).trans (h.low i hi hs), fun i o hi h1 h2 => k.typ i o (h.typ i o hi h1 h2) h1 h2⟩
theorem Tn.grown {row : Option Nat} (hg : w.grownBy w' row) (hr : ∀ g, row = some g → S ≤ g ∧ ∃ cs fr, w.heap[g]? = some (.cells cs 92 fr)) : Tn S w w' := by
  refine ⟨hg.os, hg.tape, hg.output, hg.size, fun k hk hs => hg.block k hk (fun e => by have := (hr k e.symm).1; omega), fun k o hk h1 _ => (hg.block k (Array.getElem?_eq_some_iff.1 hk).1 (fun e => ?_)).trans hk⟩
  obtain ⟨_, cs, fr, h2⟩ := hr k e.symm
  rw [hk] at h2
  cases h2
  exact h1 _ _ rfl
theorem Tn.head {K j : Nat} {cs : Array Value} {fr : Nat × Nat} (hK : w.heap[K]? = some (.cells cs 93 fr)) (hS : S ≤ K) (v : Value) : Tn S w (w.setCell ⟨K, j, none⟩ v) := by
  have hc := (Ch.refl [K] w).setCell (p := ⟨K, j, none⟩) (by simp) v
  refine ⟨hc.os, hc.tape, hc.output, hc.size, fun k hk hs => hc.block k hk (by simp; omega), fun k o hk _ h2 => (hc.block k (Array.getElem?_eq_some_iff.1 hk).1 (fun e => ?_)).trans hk⟩
  obtain rfl : k = K := by simpa using e
  rw [hk] at hK
  cases hK
  exact h2 _ _ rfl
theorem Tn.entry {g j : Nat} {cs : Array Value} {fr : Nat × Nat} (hK : w.heap[g]? = some (.cells cs 92 fr)) (hS : S ≤ g) (v : Value) : Tn S w (w.setCell ⟨g, j, none⟩ v) := by
  have hc := (Ch.refl [g] w).setCell (p := ⟨g, j, none⟩) (by simp) v
  refine Tn.grown (row := some g) ⟨hc.os, hc.tape, hc.output, hc.size, fun k hk hne => hc.block k hk (by simpa using hne)⟩ (fun g' e => by cases e; exact ⟨hS, _, _, hK⟩)
theorem Tn.ch (h : Tn S w w') (hc : Ch [] a w) (hS : a.heap.size ≤ S) : Ch [] a w' :=
  ⟨h.os.trans hc.os, h.tape.trans hc.tape, h.output.trans hc.output, Nat.le_trans hc.size h.size, fun k hk _ => (h.low k (Nat.lt_of_lt_of_le hk hc.size) (by omega)).trans (hc.block k hk (by simp))⟩
theorem Tn.row (h : Tn S w w') {b t s n : Nat} {v : Value} {xs : List Value} (hr : w.ownsRow b t s v n xs) (h1 : t ≠ 92) (h2 : t ≠ 93) : w'.ownsRow b t s v n xs := by
  refine ⟨hr.1, ?_⟩
  rcases hr.2 with hn | ⟨g, cap, cur, rfl, hb, hg, rest⟩
  · exact .inl hn
  · exact .inr ⟨g, cap, cur, rfl, hb, h.typ g _ hg (fun cs fr e => by cases e; exact h1 rfl) (fun cs fr e => by cases e; exact h2 rfl), rest⟩
theorem Tn.blk (h : Tn S w w') {g : Nat} {cs : Array Value} {t : TypeId} {fr : Nat × Nat} (hg : w.heap[g]? = some (.cells cs t fr)) (h1 : t ≠ 92) (h2 : t ≠ 93) : w'.heap[g]? = some (.cells cs t fr) :=
  h.typ g _ hg (fun cs fr e => by cases e; exact h1 rfl) (fun cs fr e => by cases e; exact h2 rfl)
end

theorem ne_of_types {W : World} {g B : Nat} {cs ds : Array Value} {t t' : TypeId} {fr gr : Nat × Nat} (h1 : W.heap[g]? = some (.cells cs t fr)) (h2 : W.heap[B]? = some (.cells ds t' gr)) (h : t ≠ t') : B ≠ g := by
  rintro rfl
  rw [h1] at h2
  cases h2
  exact h rfl
/-- A cell that is none of the table's own turns. -/
theorem TB.other {S R K n room : Nat} {H : Nat → Value} {L : List E} {w : World} (h : TB w S R K n room H L) {B : Nat} {ds : Array Value} {t : TypeId} {gr : Nat × Nat} (hB : w.heap[B]? = some (.cells ds t gr)) (h1 : t ≠ 92) (h2 : t ≠ 93) (h3 : t ≠ 88) (o : Nat) (v : Value) : TB (w.setCell ⟨B, o, none⟩ v) S R K n room H L := by
  have hset := grown_set w B o v
  have hR : R ≠ B := fun e => ne_of_types h.blk hB (fun e => h3 e.symm) e.symm
  refine ⟨(Below.heap_setCell _ _ _ _ hR).trans h.blk, ?_, fun b hb => ?_, h.apart, h.rS, h.nd, h.hn, h.hr, h.hl⟩
  · refine h.heads.kept hset (.inr (fun e => ?_))
    rcases h.heads.2 with ⟨e2, _⟩ | ⟨g', cap, cur, e2, _, hg, _⟩
    · cases e2
    · cases e2
      cases e
      exact ne_of_types hg hB (fun e => h2 e.symm) rfl
  · refine (h.rows b hb).kept hset ?_
    rcases (h.rows b hb).2 with ⟨e2, _⟩ | ⟨g', cap, cur, e2, _, hg, _⟩
    · left; rw [e2]; rfl
    · right
      rw [e2]
      intro e
      cases e
      exact ne_of_types hg hB (fun e => h1 e.symm) rfl
theorem TB.ck {S R K n room : Nat} {H : Nat → Value} {L : List E} {w w' : World} (h : TB w S R K n room H L) (hk : CK w w') : TB w' S R K n room H L :=
  ⟨hk _ _ _ _ h.blk, hk.row h.heads, fun b hb => hk.row (h.rows b hb), h.apart, h.rS, h.nd, h.hn, h.hr, h.hl⟩
theorem TGR.ck {S n room : Nat} {p : Option Addr} {L : List E} {w w' : World} (h : TGR w S p n room L) (hk : CK w w') : TGR w' S p n room L := by
  rcases h with h | ⟨R, K, H, h1, h2⟩
  · exact .inl h
  · exact .inr ⟨R, K, H, h1, h2.ck hk⟩
theorem Tn.later {S : Nat} {w W1 W2 : World} (h : Tn S w W1) {row : Option Nat} (hg : W1.grownBy W2 row) (hr : ∀ r, row = some r → w.heap.size ≤ r) : Tn S w W2 :=
  have hb : ∀ k, k < w.heap.size → W2.heap[k]? = W1.heap[k]? := fun k hk => hg.block k (Nat.lt_of_lt_of_le hk h.size) (fun e => by have := hr k e.symm; omega)
  ⟨hg.os.trans h.os, hg.tape.trans h.tape, hg.output.trans h.output, Nat.le_trans h.size hg.size, fun k hk hs => (hb k hk).trans (h.low k hk hs), fun k o hk h1 h2 => (hb k (Array.getElem?_eq_some_iff.1 hk).1).trans (h.typ k o hk h1 h2)⟩
theorem Tn.below {S : Nat} {w W1 W2 : World} (h : Tn S w W1) (hb : Below w.heap.size W1 W2) : Tn S w W2 :=
  ⟨hb.os.trans h.os, hb.tape.trans h.tape, hb.output.trans h.output, Nat.le_trans h.size hb.size, fun k hk hs => (hb.block k hk).trans (h.low k hk hs), fun k o hk h1 h2 => (hb.block k (Array.getElem?_eq_some_iff.1 hk).1).trans (h.typ k o hk h1 h2)⟩
theorem Tn.set {S : Nat} {w W1 : World} (h : Tn S w W1) {B : Nat} (hB : w.heap.size ≤ B) (v : Value) : Tn S w (W1.setCell ⟨B, 0, none⟩ v) := h.later (row := some B) (grown_set W1 B 0 v) (fun r e => by cases e; exact hB)
/-- A chain turned. -/
def updH (H : Nat → Value) (b : Nat) (v : Value) : Nat → Value := fun i => if i = b then v else H i
theorem heads_upd (H : Nat → Value) (n b : Nat) (v : Value) : ((List.range n).map H).set b v = (List.range n).map (updH H b v) := by
  apply List.ext_getElem?
  intro i
  rw [List.getElem?_set]
  by_cases hi : i < n
  · by_cases e : b = i
    · subst e; simp [hi, updH]
    · have e' : ¬ i = b := fun h => e h.symm
      simp [hi, updH, e, e']
  · by_cases e : b = i
    · subst e; simp [hi]
    · simp [hi, e]
theorem row_blk {w : World} {S : Nat} {v : Value} {C : List E} (h : CR w S v C) : ∀ g, v.ownBlock = some g → S ≤ g ∧ ∃ cs fr, w.heap[g]? = some (.cells cs 92 fr) := by
  intro g hg
  rcases h.2 with ⟨e, _⟩ | ⟨g', cap, cur, e, h1, h2, _⟩
  · rw [e] at hg; cases hg
  · rw [e] at hg
    obtain rfl : g' = g := by simpa [Value.ownBlock] using hg
    exact ⟨h1, _, _, h2⟩
section
variable {w w4 : World} {S R K n room : Nat} {H : Nat → Value} {L L' : List E}
theorem TB.headsBlk (h : TB w S R K n room H L) : S ≤ K ∧ ∃ cs fr, w.heap[K]? = some (.cells cs 93 fr) := by
  rcases h.heads.2 with ⟨e, _⟩ | ⟨g', cap, cur, e, h1, h2, _⟩
  · cases e
  · cases e; exact ⟨h1, _, _, h2⟩
/-- What still stands behind a chain's turn. -/
theorem TB.still (h : TB w S R K n room H L) {b : Nat} (hb : b < n) (hg : w.grownBy w4 (H b).ownBlock) : w4.cell? ⟨R, 1, none⟩ = some (.slice (some ⟨K, 0, none⟩) n n) ∧ w4.cell? ⟨K, b, none⟩ = some (H b) ∧ w4.frozen? ⟨K, b, none⟩ = false :=
  have hR : w4.heap[R]? = w.heap[R]? := hg.block R h.lt.1 (fun e => h.rH hb e.symm)
  have hK : w4.heap[K]? = w.heap[K]? := hg.block K h.lt.2.1 (fun e => h.kH hb e.symm)
  ⟨(World.cell?_of_block (a := ⟨R, 1, none⟩) hR).trans h.c1, (World.cell?_of_block (a := ⟨K, b, none⟩) hK).trans (h.head hb).1, (World.frozen?_of_block (a := ⟨K, b, none⟩) hK).trans (h.head hb).2⟩
/-- A chain is put in another's place. -/
theorem TB.upd (h : TB w S R K n room H L) {b : Nat} (hb : b < n) {v' : Value} (hch : ∀ i, i ≠ b → chn n i L' = chn n i L) (hrow : CR w4 S v' (chn n b L')) (hg : w.grownBy w4 (H b).ownBlock) (hat : v'.ownBlock = (H b).ownBlock ∨ ∃ g, v'.ownBlock = some g ∧ w.heap.size ≤ g)
    (hnd : (ksE L').Nodup) (hl : L'.length ≤ room) : TB (w4.setCell ⟨K, b, none⟩ v') S R K n room (updH H b v') L' ∧ Tn S w (w4.setCell ⟨K, b, none⟩ v') := by
  have hR : w4.heap[R]? = w.heap[R]? := hg.block R h.lt.1 (fun e => h.rH hb e.symm)
  have hheads : w4.ownsRow S 93 1 (.slice (some ⟨K, 0, none⟩) n n) n ((List.range n).map H) := h.heads.kept hg (.inr (fun e => h.kH hb e.symm))
  have hvK : v'.ownBlock ≠ some K := by
    rcases own_apart hrow hheads (by decide) with e | e
    · rw [e]; simp
    · exact e
  have hset : w4.grownBy (w4.setCell ⟨K, b, none⟩ v') (some K) := grown_set w4 K b v'
  have hKb : ∃ cs fr, w4.heap[K]? = some (.cells cs 93 fr) := by
    rcases hheads.2 with ⟨e, _⟩ | ⟨g', cap, cur, e, h1, h2, _⟩
    · cases e
    · cases e; exact ⟨_, _, h2⟩
  refine ⟨⟨?_, ?_, fun i hi => ?_, fun i j hi hj hij => ?_, h.rS, hnd, h.hn, h.hr, hl⟩, ?_⟩
  · rw [Below.heap_setCell _ _ _ _ (show R ≠ K from h.rK), hR]; exact h.blk
  · have := own_set hheads b v' (by omega)
    rwa [heads_upd] at this
  · by_cases e : i = b
    · subst e
      have : updH H i v' i = v' := by simp [updH]
      rw [this]
      exact hrow.kept hset (.inr hvK)
    · have : updH H b v' i = H i := by simp [updH, e]
      rw [this, hch i e]
      refine ((h.rows i hi).kept hg ?_).kept hset (.inr (h.kH hi))
      exact h.apart i b hi hb e
  · by_cases e : i = b
    · subst e
      have e2 : ¬ j = i := fun h => hij h.symm
      have h1 : updH H i v' i = v' := by simp [updH]
      have h2 : updH H i v' j = H j := by simp [updH, e2]
      rw [h1, h2]
      rcases hat with hat | ⟨g, hat, hge⟩
      · rw [hat]; exact h.apart i j hi hj hij
      · right
        rw [hat]
        intro e3
        have := ((h.rows j hj).lt g e3.symm).2
        omega
    · have h1 : updH H b v' i = H i := by simp [updH, e]
      rw [h1]
      by_cases e2 : j = b
      · subst e2
        have h2 : updH H j v' j = v' := by simp [updH]
        rw [h2]
        rcases hat with hat | ⟨g, hat, hge⟩
        · rw [hat]; exact h.apart i j hi hj hij
        · right
          rw [hat]
          intro e3
          have := ((h.rows i hi).lt g e3).2
          omega
      · have h2 : updH H b v' j = H j := by simp [updH, e2]
        rw [h2]
        exact h.apart i j hi hj hij
  · obtain ⟨cs, fr, hk⟩ := hKb
    exact (Tn.grown hg (row_blk (h.rows b hb))).trans (Tn.head hk h.headsBlk.1 v')
theorem cells_set (A B : List E) (k : Nat) (v v' : V) : (cells (A ++ ⟨k, v⟩ :: B)).set (A.length * 2 + 1) (vv v') = cells (A ++ ⟨k, v'⟩ :: B) := by
  have hl := cells_len A
  rw [cells_append, cells_append, cells_cons, cells_cons, List.set_append_right _ _ (by omega), hl, show A.length * 2 + 1 - A.length * 2 = 1 by omega]
  rfl
/-- A value is put in another's place. -/
theorem TB.val (h : TB w S R K n room H L) {k j g cap : Nat} {x : E} (hat : At w S R K n room H L k j x g cap) (v : V) : TB (w.setCell ⟨g, j * 2 + 1, none⟩ (vv v)) S R K n room H (setE L k v) ∧ Tn S w (w.setCell ⟨g, j * 2 + 1, none⟩ (vv v)) := by
  have hb : bk n k < n := bk_lt (by have := h.hn; omega) k
  have hob : (H (bk n k)).ownBlock = some g := by rw [hat.hd]; rfl
  obtain ⟨hS, cs, fr, hgb⟩ := row_blk (h.rows _ hb) g hob
  have hset : w.grownBy (w.setCell ⟨g, j * 2 + 1, none⟩ (vv v)) (some g) := grown_set w g _ _
  have hjl := (List.getElem?_eq_some_iff.1 hat.pl).1
  refine ⟨⟨?_, h.heads.kept hset (.inr (fun e => by cases e; exact h.kH hb hob)), fun i hi => ?_, h.apart, h.rS, by rw [ks_set]; exact h.nd, h.hn, h.hr, by rw [set_len]; exact h.hl⟩, Tn.entry hgb hS _⟩
  · rw [Below.heap_setCell _ _ _ _ (fun e : R = g => by subst e; exact h.rH hb hob)]; exact h.blk
  · by_cases e : i = bk n k
    · subst e
      have hr := h.rows _ hb
      rw [hat.hd] at hr ⊢
      have h2 := own_set hr (j * 2 + 1) (vv v) (by omega)
      obtain ⟨A, B, hAB, hA, h3, h4⟩ := at_parts (chn_nodup h.nd n (bk n k)) hat.pl
      have hk := hat.key
      have h5 : chn n (bk n k) (setE L k v) = A ++ ⟨k, v⟩ :: B := by
        rw [chn_set, hAB, ← hk]
        exact set_at h3 h4 v
      have hln : (chn n (bk n k) (setE L k v)).length = (chn n (bk n k) L).length := by rw [chn_set, set_len]
      rw [hAB] at h2 hln ⊢
      rw [h5] at hln ⊢
      rw [show x = ⟨k, x.v⟩ by rw [← hk], ← hA, cells_set] at h2
      have e2 : (A ++ (⟨k, v⟩ : E) :: B).length = (A ++ x :: B).length := hln
      show World.ownsRow _ _ _ _ _ _ _
      rw [show x = ⟨k, x.v⟩ by rw [← hk], ← hA]
      rw [show (A ++ (⟨k, v⟩ : E) :: B).length = (A ++ (⟨k, x.v⟩ : E) :: B).length by simp]
      exact h2
    · rw [chn_set_other e]
      refine (h.rows i hi).kept hset ?_
      have := h.apart i _ hi hb e
      rwa [hob] at this
end
end Go.Proofs.Ytaccfjlpojglpaa.bS
