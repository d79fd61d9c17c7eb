/-
  For the law ArenaFinds: what was told, plain; its rows.
-/
import Derived.Test.YtdompamilgbnnaaAR
import Derived.Test.YtdompamilgbnnaaAL
namespace Go.Proofs.Ytdompamilgbnnaa
open Go.RowKit

/-- A handle that was told: its slot, its generation, its thing, and whether it is gone. -/
structure Ent where
  slot : Nat
  gen : Nat
  x : Th
  gone : Bool
instance : Inhabited Ent := ⟨⟨0, 0, default, false⟩⟩

/-- What holds of those that were told. -/
structure Inv (xs : List (Sl Th)) (es : List Ent) : Prop where
  lt : ∀ (k : Nat) (e : Ent), es[k]? = some e → e.slot < xs.length
  gone : ∀ (k : Nat) (e : Ent), es[k]? = some e → e.gone = true → e.gen < (at0 xs e.slot).gen
  here : ∀ (k : Nat) (e : Ent), es[k]? = some e → e.gone = false → (at0 xs e.slot).held = true ∧ (at0 xs e.slot).gen = e.gen ∧ (at0 xs e.slot).x = e.x
  apart : ∀ (i j : Nat) (a b : Ent), es[i]? = some a → es[j]? = some b → i ≠ j → ¬ (a.slot = b.slot ∧ a.gen = b.gen)

theorem inv_nil (xs : List (Sl Th)) : Inv xs [] := ⟨fun k e h => by simp at h, fun k e h => by simp at h, fun k e h => by simp at h, fun i j a b h => by simp at h⟩

/-- A new one is none of those that were told. -/
theorem Inv.new {xs : List (Sl Th)} {es : List Ent} (h : Inv xs es) {k : Nat} (hf : isFree (at0 xs k) = true) (i : Nat) (e : Ent) (he : es[i]? = some e) : ¬ (e.slot = k ∧ e.gen = (at0 xs k).gen) := by
  rintro ⟨rfl, hg⟩
  cases hb : e.gone with
  | true => have := h.gone i e he hb; omega
  | false => have := (h.here i e he hb).1; rw [(free_held hf).1] at this; cases this

theorem get_snoc {α : Type} {l : List α} {y : α} {k : Nat} {e : α} (h : (l ++ [y])[k]? = some e) : (k < l.length ∧ l[k]? = some e) ∨ (k = l.length ∧ e = y) := by
  rcases Nat.lt_trichotomy k l.length with hk | hk | hk
  · rw [List.getElem?_append_left hk] at h; exact .inl ⟨hk, h⟩
  · subst hk; simp at h; exact .inr ⟨rfl, h.symm⟩
  · rw [List.getElem?_eq_none (by simp; omega)] at h; cases h

theorem Inv.put {xs : List (Sl Th)} {es : List Ent} (h : Inv xs es) {k : Nat} (hf : firstOf xs isFree = some k) (x : Th) : Inv (putL xs x) (es ++ [⟨k, (at0 xs k).gen, x, false⟩]) := by
  obtain ⟨hk, hfr⟩ := firstOf_some hf
  rw [putL_some hf]
  have hnew := h.new hfr
  refine ⟨fun i e he => ?_, fun i e he hg => ?_, fun i e he hg => ?_, fun i j a b ha hb hij => ?_⟩
  · rw [List.length_set]
    rcases get_snoc he with ⟨_, he⟩ | ⟨_, rfl⟩
    · exact h.lt i e he
    · exact hk
  · rcases get_snoc he with ⟨_, he⟩ | ⟨_, rfl⟩
    · by_cases e1 : e.slot = k
      · rw [e1, at0_set_same _ _ _ hk]
        have := h.gone i e he hg
        rw [e1] at this
        exact this
      · rw [at0_set_other _ _ _ _ e1]; exact h.gone i e he hg
    · cases hg
  · rcases get_snoc he with ⟨_, he⟩ | ⟨_, rfl⟩
    · by_cases e1 : e.slot = k
      · have := (h.here i e he hg).1
        rw [e1, (free_held hfr).1] at this
        cases this
      · rw [at0_set_other _ _ _ _ e1]; exact h.here i e he hg
    · rw [at0_set_same _ _ _ hk]; exact ⟨rfl, rfl, rfl⟩
  · rcases get_snoc ha with ⟨_, ha⟩ | ⟨ia, rfl⟩
    · rcases get_snoc hb with ⟨_, hb⟩ | ⟨ib, rfl⟩
      · exact h.apart i j a b ha hb hij
      · exact hnew i a ha
    · rcases get_snoc hb with ⟨_, hb⟩ | ⟨ib, rfl⟩
      · rintro ⟨e1, e2⟩
        exact hnew j b hb ⟨e1.symm, e2.symm⟩
      · omega

/-- One that is gone is stale. -/
theorem Inv.stale {xs : List (Sl Th)} {es : List Ent} (h : Inv xs es) {q : Nat} {e : Ent} (he : es[q]? = some e) (hg : e.gone = true) : findE xs (e.slot : Int) (e.gen : Int) = 7 :=
  findE_stale (h.lt q e he) (fun hh => by have := h.gone q e he hg; omega)
theorem Inv.found {xs : List (Sl Th)} {es : List Ent} (h : Inv xs es) {q : Nat} {e : Ent} (he : es[q]? = some e) (hg : e.gone = false) : findE xs (e.slot : Int) (e.gen : Int) = 0 ∧ getX xs (e.slot : Int) (e.gen : Int) = e.x := by
  obtain ⟨h1, h2, h3⟩ := h.here q e he hg
  have h0 : findE xs (e.slot : Int) (e.gen : Int) = 0 := findE_ok (h.lt q e he) h1 (by rw [h2])
  exact ⟨h0, by unfold getX; rw [if_pos h0, Int.toNat_natCast, h3]⟩

theorem Inv.free {xs : List (Sl Th)} {es : List Ent} (h : Inv xs es) {q : Nat} {e : Ent} (he : es[q]? = some e) : Inv (freeL xs (e.slot : Int) (e.gen : Int)) (es.set q { e with gone := true }) := by
  have hq : q < es.length := (List.getElem?_eq_some_iff.1 he).1
  have hlt := h.lt q e he
  cases hg : e.gone with
  | true =>
    have e1 : freeL xs (e.slot : Int) (e.gen : Int) = xs := by unfold freeL; rw [h.stale he hg]; rfl
    have e2 : es.set q { e with gone := true } = es := by
      have e3 : ({ e with gone := true } : Ent) = e := by cases e; simp only at hg; subst hg; rfl
      rw [e3]
      apply List.ext_getElem?
      intro i
      by_cases ei : q = i
      · subst ei; rw [List.getElem?_set_self hq, he]
      · rw [List.getElem?_set_ne ei]
    rw [e1, e2]
    exact h
  | false =>
    obtain ⟨h1, h2, h3⟩ := h.here q e he hg
    have h0 := (h.found he hg).1
    have e1 : freeL xs (e.slot : Int) (e.gen : Int) = xs.set e.slot ⟨(at0 xs e.slot).gen + 1, false, default⟩ := by unfold freeL; rw [if_pos h0, Int.toNat_natCast]
    rw [e1]
    have split : ∀ (i : Nat) (a : Ent), (es.set q { e with gone := true })[i]? = some a → (i = q ∧ a = { e with gone := true }) ∨ (i ≠ q ∧ es[i]? = some a) := fun i a ha => by
      by_cases ei : q = i
      · subst ei; rw [List.getElem?_set_self hq] at ha; simp at ha; exact .inl ⟨rfl, ha.symm⟩
      · rw [List.getElem?_set_ne ei] at ha; exact .inr ⟨fun h => ei h.symm, ha⟩
    refine ⟨fun i a ha => ?_, fun i a ha hga => ?_, fun i a ha hga => ?_, fun i j a b ha hb hij => ?_⟩
    · rw [List.length_set]
      rcases split i a ha with ⟨rfl, rfl⟩ | ⟨_, ha⟩
      · exact hlt
      · exact h.lt i a ha
    · rcases split i a ha with ⟨rfl, rfl⟩ | ⟨_, ha⟩
      · rw [at0_set_same _ _ _ hlt]; show e.gen < (at0 xs e.slot).gen + 1; omega
      · by_cases es1 : a.slot = e.slot
        · rw [es1, at0_set_same _ _ _ hlt]
          have := h.gone i a ha hga
          rw [es1] at this
          show a.gen < (at0 xs e.slot).gen + 1
          omega
        · rw [at0_set_other _ _ _ _ es1]; exact h.gone i a ha hga
    · rcases split i a ha with ⟨rfl, rfl⟩ | ⟨hi, ha⟩
      · cases hga
      · obtain ⟨a1, a2, a3⟩ := h.here i a ha hga
        by_cases es1 : a.slot = e.slot
        · exact absurd ⟨es1, by rw [← a2, ← h2, es1]⟩ (h.apart i q a e ha he hi)
        · rw [at0_set_other _ _ _ _ es1]; exact ⟨a1, a2, a3⟩
    · rcases split i a ha with ⟨hi, rfl⟩ | ⟨_, ha'⟩
      · rcases split j b hb with ⟨hj, rfl⟩ | ⟨hj, hb'⟩
        · omega
        · exact h.apart q j e b he hb' (by omega)
      · rcases split j b hb with ⟨hj, rfl⟩ | ⟨hj, hb'⟩
        · exact h.apart i q a e ha' he (by omega)
        · exact h.apart i j a b ha' hb' hij

/-- The rows of what was told. -/
def ehs (es : List Ent) : List Value := es.flatMap fun e => [.int .i64 (e.slot : Int), .int .i64 (e.gen : Int)]
def ets (es : List Ent) : List Value := es.flatMap fun e => [.int .i64 e.x.1, .string e.x.2]
def egs (es : List Ent) : List Value := es.map fun e => .bool e.gone
theorem ehs_snoc (es : List Ent) (e : Ent) : ehs (es ++ [e]) = ehs es ++ [.int .i64 (e.slot : Int), .int .i64 (e.gen : Int)] := by simp [ehs]
theorem ets_snoc (es : List Ent) (e : Ent) : ets (es ++ [e]) = ets es ++ [.int .i64 e.x.1, .string e.x.2] := by simp [ets]
theorem egs_snoc (es : List Ent) (e : Ent) : egs (es ++ [e]) = egs es ++ [.bool e.gone] := by simp [egs]
theorem flat2_at {α : Type} (f g : α → Value) (es : List α) (k : Nat) (e : α) (h : es[k]? = some e) : (es.flatMap fun e => [f e, g e])[k * 2]? = some (f e) ∧ (es.flatMap fun e => [f e, g e])[k * 2 + 1]? = some (g e) := by
  induction es generalizing k with
  | nil => simp at h
  | cons a t ih =>
    rw [List.flatMap_cons]
    cases k with
    | zero => simp at h; subst h; simp
    | succ k =>
      have := ih k (by simpa using h)
      rw [show (k + 1) * 2 = k * 2 + 2 by omega]
      simpa using this
theorem egs_at (es : List Ent) (k : Nat) (e : Ent) (h : es[k]? = some e) : (egs es)[k]? = some (.bool e.gone) := by simp [egs, h]
theorem ehs_gone (es : List Ent) (q : Nat) (e : Ent) (h : es[q]? = some e) : ehs (es.set q { e with gone := true }) = ehs es ∧ ets (es.set q { e with gone := true }) = ets es ∧ egs (es.set q { e with gone := true }) = (egs es).set q (.bool true) := by
  induction es generalizing q with
  | nil => simp at h
  | cons a t ih =>
    cases q with
    | zero => simp at h; subst h; simp [ehs, ets, egs]
    | succ q =>
      obtain ⟨h1, h2, h3⟩ := ih q (by simpa using h)
      simp only [List.set_cons_succ]
      refine ⟨?_, ?_, ?_⟩
      · unfold ehs at *; rw [List.flatMap_cons, List.flatMap_cons, h1]
      · unfold ets at *; rw [List.flatMap_cons, List.flatMap_cons, h2]
      · unfold egs at *; rw [List.map_cons, List.map_cons, h3, List.set_cons_succ]

theorem own_apart {w : World} {b b' e e' s s' n n' : Nat} {v v' : Value} {xs xs' : List Value} (h : w.ownsRow b e s v n xs) (h' : w.ownsRow b' e' s' v' n' xs') (he : e ≠ e') : v.ownBlock = none ∨ v.ownBlock ≠ v'.ownBlock := by
  rcases h.2 with ⟨rfl, _⟩ | ⟨g, cap, cur, rfl, _, hg, _⟩
  · exact .inl rfl
  · right
    intro e2
    rcases h'.2 with ⟨rfl, _⟩ | ⟨g', cap', cur', rfl, _, hg', _⟩
    · simp [Value.ownBlock] at e2
    · obtain rfl : g = g' := by simpa [Value.ownBlock] using e2
      rw [hg] at hg'
      simp at hg'
      exact he hg'.2

/-- The three rows. -/
structure R3 (w : World) (D : Nat) (vt vg vb : Value) (es : List Ent) : Prop where
  t : w.ownsRow D 33 2 vt es.length (ehs es)
  g : w.ownsRow D 61 2 vg es.length (ets es)
  b : w.ownsRow D 4 1 vb es.length (egs es)
theorem R3.ch {w w' : World} {S : List Nat} {D : Nat} {vt vg vb : Value} {es : List Ent} (h : R3 w D vt vg vb es) (hc : Ch S w w') (hS : ∀ k ∈ S, k < D) : R3 w' D vt vg vb es :=
  ⟨own_ch h.t hc hS, own_ch h.g hc hS, own_ch h.b hc hS⟩
end Go.Proofs.Ytdompamilgbnnaa
