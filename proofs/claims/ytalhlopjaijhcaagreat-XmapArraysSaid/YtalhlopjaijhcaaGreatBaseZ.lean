/-
  Plain, for every stage: a region that draws its order and whose last operation waits for all others ('a[i] = f(a[i], x)': it stores where others load): the others first, S kept by them alone; then the last.
-/
import Derived.Deep.RegionHeld3
import Derived.Test.YtalhlopjaijhcaaGreatChecked
namespace Go.Proofs.YtalhlopjaijhcaaGreat
section
variable {P : Program} {S : World → Prop} {Q Q' : Exit → Act → World → Prop}

/-- An operation speaks of what stands behind the region where it leaves it alone. -/
theorem oper_wp_post {o : Oper} {a : Act} {w : World} {K : Act → World → Prop} (hp : ∀ c a w, Q' (.panic c) a w → Q (.panic c) a w) (ho : ∀ a w, Q' .outgrown a w → Q .outgrown a w) (h : o.wp P a w K Q') : o.wp P a w K Q := by
  unfold Oper.wp at *
  generalize (execOp a.eval o).run P w = r at h
  match r, h with
  | .ok (.value _) _, h => exact h
  | .ok .skip _, h => exact h
  | .ok (.defer _) _, h => exact h
  | .ok (.enter _ _) _, h => exact Calls.mono h (fun e w' k => by
      cases e with
      | returned v => exact k
      | panicked c => exact hp _ _ _ k
      | outgrown => obtain ⟨a1, w1, k⟩ := k; exact ⟨a1, w1, ho _ _ k⟩)
  | .ok (.row _ _) _, h => exact h
  | .halt (.panic _) _, h => exact hp _ _ _ h
  | .ok (.round ..) _, h => exact h.elim
  | .halt .blocked _, h => exact h.elim
  | .halt (.exit _) _, h => exact h.elim
  | .halt (.stuck _) _, h => exact h.elim

/-- What stands behind the others: the last operation. -/
def lastPost (P : Program) (z : Oper) (Q : Exit → Act → World → Prop) : Exit → Act → World → Prop
  | .normal, a, w => z.wp P a w (fun a' w' => Q .normal a' w') Q
  | e, a, w => Q e a w

theorem getD_push {l : Array Bool} (i : Nat) (h : i < l.size) (d : Bool) : (l.push false).getD i d = l.getD i d := by
  simp [Array.getElem?_push, Nat.ne_of_lt h]
/-- What has come up has come up behind all that it waits for. -/
def Closed (hd : Array Oper) (l : Array Bool) : Prop := ∀ (j : Nat) (o : Oper), hd[j]? = some o → l.getD j false = true → ∀ e ∈ o.after, Region.binds .any e = true → l.getD e.on false = true
theorem Closed.set {hd : Array Oper} {l : Array Bool} (h : Closed hd l) {i : Nat} (hi : i ∈ Region.ready .any hd l) : Closed hd (l.setIfInBounds i true) := by
  intro j o ho hj e he hb
  rw [mem_ready] at hi
  obtain ⟨h1, o', h2, h3⟩ := hi
  by_cases e1 : i = j
  · subst e1
    rw [h2] at ho
    cases ho
    exact getD_set_true (h3 e he hb)
  · rw [getD_set_ne false e1] at hj
    exact getD_set_true (h j o ho hj e he hb)
theorem ready_push {hd : Array Oper} {z : Oper} (hz : ∀ i, i < hd.size → (∃ e ∈ z.after, Region.binds .any e = true ∧ e.on = i) ∨ ∃ (j : Nat) (o : Oper), i < j ∧ hd[j]? = some o ∧ ∃ e ∈ o.after, Region.binds .any e = true ∧ e.on = i) (hza : ∀ e ∈ z.after, e.on < hd.size) (hc : ∀ (i : Nat) (o : Oper), hd[i]? = some o → ∀ e ∈ o.after, e.on < i) {l : Array Bool} (hl : l.size = hd.size) (hcl : Closed hd l) :
    (∀ i, i ∈ Region.ready .any (hd.push z) (l.push false) → (i < hd.size ∧ i ∈ Region.ready .any hd l) ∨ (i = hd.size ∧ Region.ready .any hd l = [])) ∧
    (∀ i, i ∈ Region.ready .any hd l → i ∈ Region.ready .any (hd.push z) (l.push false)) ∧
    (Region.ready .any hd l = [] → hd.size ∈ Region.ready .any (hd.push z) (l.push false) ∧ ∀ i, i < hd.size → l.getD i false = true) := by
  have hfull : Region.ready .any hd l = [] → ∀ n i, i < n → i < hd.size → l.getD i false = true := by
    intro h0 n
    induction n with
    | zero => intro i hi; omega
    | succ n ih =>
      intro i hi hs
      by_cases e : i = n
      · subst e
        cases hb : l.getD i false with
        | true => rfl
        | false =>
          exfalso
          have hm : i ∈ Region.ready .any hd l := by
            rw [mem_ready]
            refine ⟨?_, hd[i], by simp [hs], fun e he hbd => ih e.on (hc i _ (by simp [hs]) e he) (Nat.lt_trans (hc i _ (by simp [hs]) e he) hs)⟩
            have : i < l.size := by omega
            simpa [this] using hb
          rw [h0] at hm
          cases hm
      · exact ih i (by omega) hs
  refine ⟨fun i hi => ?_, fun i hi => ?_, fun h0 => ⟨?_, fun i hi => hfull h0 (i + 1) i (by omega) hi⟩⟩
  · rw [mem_ready] at hi
    obtain ⟨h1, o, h2, h3⟩ := hi
    have hs : i < (hd.push z).size := (Array.getElem?_eq_some_iff.1 h2).1
    simp at hs
    by_cases e : i < hd.size
    · left
      refine ⟨e, ?_⟩
      rw [Array.getElem?_push, if_neg (by omega)] at h2
      rw [getD_push i (by omega)] at h1
      rw [mem_ready]
      refine ⟨h1, o, h2, fun x hx hb => ?_⟩
      have := h3 x hx hb
      rwa [getD_push _ (by have := hc i o h2 x hx; omega)] at this
    · right
      obtain rfl : i = hd.size := by omega
      refine ⟨rfl, ?_⟩
      rw [List.eq_nil_iff_forall_not_mem]
      intro j hj
      rw [mem_ready] at hj
      obtain ⟨k1, o', k2, _⟩ := hj
      have hj : j < hd.size := (Array.getElem?_eq_some_iff.1 k2).1
      rw [Array.getElem?_push, if_pos rfl] at h2
      cases h2
      have all : ∀ n i, i < hd.size → hd.size - i ≤ n → l.getD i false = true := by
        intro n
        induction n with
        | zero => intro i h1 h2; omega
        | succ n ih =>
          intro i h1 _
          rcases hz i h1 with ⟨x, hx, hb, rfl⟩ | ⟨k, ok, hk, hok, x, hx, hb, rfl⟩
          · have := h3 x hx hb
            rwa [getD_push _ (by omega)] at this
          · have hks : k < hd.size := (Array.getElem?_eq_some_iff.1 hok).1
            exact hcl k ok hok (ih k hks (by omega)) x hx hb
      have h5 : j < l.size := by omega
      have := all _ j hj (Nat.le_refl _)
      simp [h5] at this k1
      rw [this] at k1
      cases k1
  · rw [mem_ready] at hi ⊢
    obtain ⟨h1, o, h2, h3⟩ := hi
    have hs : i < hd.size := (Array.getElem?_eq_some_iff.1 h2).1
    refine ⟨by rw [getD_push i (by omega)]; exact h1, o, by rw [Array.getElem?_push, if_neg (by omega)]; exact h2, fun x hx hb => ?_⟩
    rw [getD_push _ (by have := hc i o h2 x hx; omega)]
    exact h3 x hx hb
  · rw [mem_ready]
    refine ⟨by simp [← hl], z, by simp, fun x hx _ => ?_⟩
    have := hza x hx
    rw [getD_push _ (by omega)]
    exact hfull h0 (x.on + 1) x.on (by omega) this

theorem wpOp_last {hd : Array Oper} {z : Oper} {i : Nat} (hi : i < hd.size) (hg : ∀ (i : Nat) (o : Oper), hd[i]? = some o → o.guard = none) {K K' : Act → World → Prop} (hK : ∀ a w, K a w → K' a w) {a : Act} {w : World}
    (h : wpOp P hd (lastPost P z Q) i K a w) : wpOp P (hd.push z) Q i K' a w := by
  unfold wpOp at *
  have e1 : hd[i]? = some hd[i] := by simp [hi]
  have e2 : (hd.push z)[i]? = some hd[i] := by rw [Array.getElem?_push, if_neg (by omega)]; exact e1
  have hgi := hg i _ e1
  simp only [e1] at h
  simp only [e2]
  have w1 : ∀ l, Region.wanted hd[i] l = true := fun l => by simp [Region.wanted, hgi]
  rw [w1, if_pos rfl] at h
  rw [w1, if_pos rfl]
  rcases h with h | ⟨h1, a0, w0, h2⟩
  · exact .inl (Oper.wp_mono hK (oper_wp_post (Q' := lastPost P z Q) (fun _ _ _ k => k) (fun _ _ k => k) h))
  · exact .inr ⟨h1, a0, w0, h2⟩
/-- **The others, S kept by them; then the last.** -/
theorem wpAny_last {hd : Array Oper} {z : Oper} (hz : ∀ i, i < hd.size → (∃ e ∈ z.after, Region.binds .any e = true ∧ e.on = i) ∨ ∃ (j : Nat) (o : Oper), i < j ∧ hd[j]? = some o ∧ ∃ e ∈ o.after, Region.binds .any e = true ∧ e.on = i) (hza : ∀ e ∈ z.after, e.on < hd.size) (hc : ∀ (i : Nat) (o : Oper), hd[i]? = some o → ∀ e ∈ o.after, e.on < i)
    (hg : ∀ (i : Nat) (o : Oper), hd[i]? = some o → o.guard = none) (hgz : z.guard = none) :
    ∀ (fuel : Nat) (l : Array Bool) (a : Act) (w : World), l.size = hd.size → Closed hd l → wpAnyH P .any hd (lastPost P z Q) S fuel l a w → wpAny P .any (hd.push z) Q (fuel + 1) (l.push false) a w := by
  have done : ∀ (fuel : Nat) (l : Array Bool) (a : Act) (w : World), l.size = hd.size → Closed hd l → Region.ready .any hd l = [] → lastPost P z Q .normal a w → wpAny P .any (hd.push z) Q (fuel + 1) (l.push false) a w := by
    intro fuel l a w hl hcl h0 hq
    obtain ⟨r1, r2, r3⟩ := ready_push hz hza hc hl hcl
    obtain ⟨r4, r5⟩ := r3 h0
    refine ⟨fun e => (by rw [e] at r4; cases r4), fun i hi => ?_⟩
    rcases r1 i hi with ⟨_, h⟩ | ⟨rfl, _⟩
    · rw [h0] at h; cases h
    · have e0 : Region.ready .any (hd.push z) ((l.push false).setIfInBounds hd.size true) = [] := by
        rw [List.eq_nil_iff_forall_not_mem]
        intro j hj
        rw [mem_ready] at hj
        obtain ⟨k1, o, k2, _⟩ := hj
        have hs : j < (hd.push z).size := (Array.getElem?_eq_some_iff.1 k2).1
        simp at hs
        by_cases e : j = hd.size
        · subst e
          simp [← hl] at k1
        · rw [getD_set_ne true (Ne.symm e), getD_push j (by omega)] at k1
          have := r5 j (by omega)
          have h5 : j < l.size := by omega
          simp [h5] at this k1
          rw [this] at k1
          cases k1
      unfold wpOp
      simp only [Array.getElem?_push_size]
      rw [show Region.wanted z (yielded (hd.push z) a.tmps) = true by simp [Region.wanted, hgz], if_pos rfl]
      refine .inl (Oper.wp_mono (fun a' w' k => ?_) hq)
      cases fuel with
      | zero => exact ⟨e0, k⟩
      | succ fuel => exact ⟨fun _ => k, fun i hi => by rw [e0] at hi; cases hi⟩
  intro fuel
  induction fuel with
  | zero => exact fun l a w hl hcl h => done 0 l a w hl hcl h.1 h.2
  | succ fuel ih =>
    intro l a w hl hcl h
    by_cases h0 : Region.ready .any hd l = []
    · exact done _ l a w hl hcl h0 (h.1 h0)
    · obtain ⟨r1, r2, r3⟩ := ready_push hz hza hc hl hcl
      refine ⟨fun e => ?_, fun i hi => ?_⟩
      · obtain ⟨j, hj⟩ := List.exists_mem_of_ne_nil _ h0
        have := r2 j hj
        rw [e] at this
        cases this
      · rcases r1 i hi with ⟨hs, hr⟩ | ⟨_, h⟩
        · refine wpOp_last hs hg (fun a' w' k => ?_) (h.2 i hr)
          have := ih (l.setIfInBounds i true) a' w' (by simpa using hl) (hcl.set hr) k.2
          rwa [show (l.setIfInBounds i true).push false = (l.push false).setIfInBounds i true from by
            apply Array.ext_getElem?
            intro j
            simp only [Array.getElem?_push, Array.getElem?_setIfInBounds, Array.size_setIfInBounds, Array.size_push]
            by_cases e1 : j = l.size
            · subst e1
              rw [if_pos rfl, if_neg (by omega), if_pos rfl]
            · rw [if_neg e1]
              by_cases e2 : i = j
              · subst e2
                have h1 : i < l.size := by omega
                have h2 : i < l.size + 1 := by omega
                simp [h1, h2]
              · rw [if_neg e2, if_neg e2, if_neg e1]] at this
        · exact absurd h h0
/-- The region, whose last operation waits for all others. -/
theorem wp_region_last {id : Nat} {hd : List Oper} {z : Oper} {a : Act} {w : World} (hm : P.follows .mixedOrders = true)
    (hb : ((List.range hd.length).all fun i => (z.after.any fun e => Region.binds .any e && e.on == i) || (List.range hd.length).any fun j => decide (i < j) && match hd[j]? with | some o => o.after.any fun e => Region.binds .any e && e.on == i | none => false) && (z.after.all fun e => decide (e.on < hd.length)) && ((List.range hd.length).all fun i => match hd[i]? with | some o => o.guard.isNone && o.after.all fun e => decide (e.on < i) | none => true) && z.guard.isNone = true)
    (S : World → Prop) (hS : S w.drew) (h : S w.drew → wpAnyH P .any hd.toArray (lastPost P z Q) S hd.length (Array.replicate hd.length false) a w.drew) : (Code.region id (hd ++ [z]).toArray true).wp P Q a w := by
  simp only [Bool.and_eq_true] at hb
  obtain ⟨⟨⟨b1, b2⟩, b3⟩, b4⟩ := hb
  have c3 : ∀ (i : Nat) (o : Oper), hd.toArray[i]? = some o → o.guard = none ∧ ∀ e ∈ o.after, e.on < i := fun i o ho => by
    have hs : i < hd.length := by simpa using (Array.getElem?_eq_some_iff.1 ho).1
    have := List.all_eq_true.1 b3 i (List.mem_range.2 hs)
    rw [show hd[i]? = some o by simpa using ho] at this
    simp only [Bool.and_eq_true, Option.isNone_iff_eq_none] at this
    refine ⟨this.1, fun e he => ?_⟩
    have := Array.all_eq_true'.1 this.2 e he
    simpa using this
  have key := wpAny_last (P := P) (Q := Q) (S := S) (hd := hd.toArray) (z := z) (fun i hi => by
      have := List.all_eq_true.1 b1 i (List.mem_range.2 (by simpa using hi))
      rw [Bool.or_eq_true] at this
      rcases this with this | this
      · obtain ⟨e, he, h2⟩ := Array.any_eq_true'.1 this
        simp only [Bool.and_eq_true, beq_iff_eq] at h2
        exact .inl ⟨e, he, h2.1, h2.2⟩
      · obtain ⟨j, hj, h2⟩ := List.any_eq_true.1 this
        rw [Bool.and_eq_true] at h2
        obtain ⟨h3, h4⟩ := h2
        have hj := List.mem_range.1 hj
        have ho : hd[j]? = some hd[j] := by simp [hj]
        rw [ho] at h4
        obtain ⟨e, he, h5⟩ := Array.any_eq_true'.1 h4
        simp only [Bool.and_eq_true, beq_iff_eq] at h5
        exact .inr ⟨j, hd[j], by simpa using h3, by simp, e, he, h5.1, h5.2⟩) (fun e he => by have := Array.all_eq_true'.1 b2 e he; simpa using this) (fun i o ho => (c3 i o ho).2) (fun i o ho => (c3 i o ho).1) (by simpa using b4)
    hd.length (Array.replicate hd.length false) a w.drew (by simp) (fun j o ho hj => by
      exfalso
      have : j < hd.length := by simpa using (Array.getElem?_eq_some_iff.1 ho).1
      simp [this] at hj) (h hS)
  refine wp_region_any hm ?_
  have e1 : (hd ++ [z]).toArray = hd.toArray.push z := by simp
  have e2 : Array.replicate (hd.toArray.push z).size false = (Array.replicate hd.length false).push false := by simp [Array.replicate_succ]
  rw [e1, e2, show (hd.toArray.push z).size = hd.length + 1 by simp]
  exact key
/-- The same, its operations written out. -/
theorem wp_region_lastL {id : Nat} {l : List Oper} {a : Act} {w : World} (z : Oper) (hm : P.follows .mixedOrders = true) (hl : l = l.dropLast ++ [z])
    (hb : ((List.range l.dropLast.length).all fun i => (z.after.any fun e => Region.binds .any e && e.on == i) || (List.range l.dropLast.length).any fun j => decide (i < j) && match l.dropLast[j]? with | some o => o.after.any fun e => Region.binds .any e && e.on == i | none => false) && (z.after.all fun e => decide (e.on < l.dropLast.length)) && ((List.range l.dropLast.length).all fun i => match l.dropLast[i]? with | some o => o.guard.isNone && o.after.all fun e => decide (e.on < i) | none => true) && z.guard.isNone = true)
    (S : World → Prop) (hS : S w.drew) (h : S w.drew → wpAnyH P .any l.dropLast.toArray (lastPost P z Q) S l.dropLast.length (Array.replicate l.dropLast.length false) a w.drew) : (Code.region id l.toArray true).wp P Q a w := by
  rw [hl]
  exact wp_region_last hm hb S hS h
end
end Go.Proofs.YtalhlopjaijhcaaGreat
