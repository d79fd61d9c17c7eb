/-
  A region that draws its order and whose last two operations wait for all others (two stores), one behind the other.
-/
import Derived.Test.YtadogffllkompaaDoorBaseZ
namespace Go.Proofs.YtadogffllkompaaDoor
section
variable {P : Program} {S : World → Prop} {Q : Exit → Act → World → Prop}

theorem anyH_of_any {ops : Array Oper} {md : Region.Mode} : ∀ (fuel : Nat) (l : Array Bool) (a : Act) (w : World), wpAny P md ops Q fuel l a w → wpAnyH P md ops Q (fun _ => True) fuel l a w
  | 0, _, _, _, h => h
  | fuel + 1, _, _, _, h => ⟨h.1, fun i hi => wpOp_mono (fun a w k => ⟨trivial, anyH_of_any fuel _ a w k⟩) (h.2 i hi)⟩
/-- The last one waits for all others. -/
def lastOk (hd : List Oper) (z : Oper) : Bool := ((List.range hd.length).all fun i => (z.after.any fun e => Region.binds .any e && e.on == i) || (List.range hd.length).any fun j => decide (i < j) && match hd[j]? with | some o => o.after.any fun e => Region.binds .any e && e.on == i | none => false) && (z.after.all fun e => decide (e.on < hd.length)) && ((List.range hd.length).all fun i => match hd[i]? with | some o => o.guard.isNone && o.after.all fun e => decide (e.on < i) | none => true) && z.guard.isNone
theorem wpAny_lastL {hd : List Oper} {z : Oper} {a : Act} {w0 : World} (hb : lastOk hd z = true)
    (h : wpAnyH P .any hd.toArray (lastPost P z Q) S hd.length (Array.replicate hd.length false) a w0) : wpAny P .any (hd ++ [z]).toArray Q (hd ++ [z]).length (Array.replicate (hd ++ [z]).length false) a w0 := by

  unfold lastOk at hb
  simp only [Bool.and_eq_true] at hb
  obtain ⟨⟨⟨b1, b2⟩, b3⟩, b4⟩ := hb
  have c3 : ∀ (i : Nat) (o : Oper), hd.toArray[i]? = some o → o.guard = none ∧ ∀ e ∈ o.after, e.on < i := fun i o ho => by
    have hs : i < hd.length := by simpa using (Array.getElem?_eq_some_iff.1 ho).1
    have := List.all_eq_true.1 b3 i (List.mem_range.2 hs)
    rw [show hd[i]? = some o by simpa using ho] at this
    simp only [Bool.and_eq_true, Option.isNone_iff_eq_none] at this
    refine ⟨this.1, fun e he => ?_⟩
    have := Array.all_eq_true'.1 this.2 e he
    simpa using this
  have key := wpAny_last (P := P) (Q := Q) (S := S) (hd := hd.toArray) (z := z) (fun i hi => by
      have := List.all_eq_true.1 b1 i (List.mem_range.2 (by simpa using hi))
      rw [Bool.or_eq_true] at this
      rcases this with this | this
      · obtain ⟨e, he, h2⟩ := Array.any_eq_true'.1 this
        simp only [Bool.and_eq_true, beq_iff_eq] at h2
        exact .inl ⟨e, he, h2.1, h2.2⟩
      · obtain ⟨j, hj, h2⟩ := List.any_eq_true.1 this
        rw [Bool.and_eq_true] at h2
        obtain ⟨h3, h4⟩ := h2
        have hj := List.mem_range.1 hj
        have ho : hd[j]? = some hd[j] := by simp [hj]
        rw [ho] at h4
        obtain ⟨e, he, h5⟩ := Array.any_eq_true'.1 h4
        simp only [Bool.and_eq_true, beq_iff_eq] at h5
        exact .inr ⟨j, hd[j], by simpa using h3, by simp, e, he, h5.1, h5.2⟩) (fun e he => by have := Array.all_eq_true'.1 b2 e he; simpa using this) (fun i o ho => (c3 i o ho).2) (fun i o ho => (c3 i o ho).1) (by simpa using b4)
    hd.length (Array.replicate hd.length false) a w0 (by simp) (fun j o ho hj => by
      exfalso
      have : j < hd.length := by simpa using (Array.getElem?_eq_some_iff.1 ho).1
      simp [this] at hj) h
  have e1 : (hd ++ [z]).toArray = hd.toArray.push z := by simp
  have e2 : Array.replicate (hd ++ [z]).length false = (Array.replicate hd.length false).push false := by simp [Array.replicate_succ]
  rw [e1, e2, show (hd ++ [z]).length = hd.length + 1 by simp]
  exact key
/-- The others, S kept by them; then the last but one; then the last. -/
theorem wp_region_last2 {id : Nat} {l : List Oper} {a : Act} {w : World} (hd : List Oper) (y z : Oper) (hl : l = (hd ++ [y]) ++ [z]) (hm : P.follows .mixedOrders = true) (hby : lastOk hd y = true) (hbz : lastOk (hd ++ [y]) z = true)
    (S : World → Prop) (h : wpAnyH P .any hd.toArray (lastPost P y (lastPost P z Q)) S hd.length (Array.replicate hd.length false) a w.drew) : (Code.region id l.toArray true).wp P Q a w := by
  subst hl
  refine wp_region_any hm ?_
  have := wpAny_lastL (P := P) (Q := Q) (S := fun _ => True) (hd := hd ++ [y]) (z := z) (a := a) (w0 := w.drew) hbz (anyH_of_any _ _ _ _ (wpAny_lastL hby h))
  rw [show ((hd ++ [y]) ++ [z]).toArray.size = ((hd ++ [y]) ++ [z]).length by simp]
  exact this
end
end Go.Proofs.YtadogffllkompaaDoor
