/-
  Plain: the program's lists, CPU by CPU, against the answer's one list.
-/
import Derived.Test.YtnnliimjemmekaaCrD
namespace Go.Proofs.Ytnnliimjemmekaa
open rC (Th)

/-- What a CPU has, of the answer's list. -/
def strip (x : Cb) : Th := (x.id, x.gen)
def fOf (M : List Cb) (i : Nat) : List Th := (M.filter fun x => decide (x.c = (i : Int))).map strip
/-- What always holds of the answer's list. -/
structure MI (M : List Cb) (n : Nat) (last : Int) : Prop where
  cpu : ∀ x ∈ M, 0 ≤ x.c ∧ x.c < (n : Int)
  gen : ∀ x ∈ M, 0 ≤ x.gen ∧ x.gen ≤ last
  ord : M.Pairwise fun x y => y.gen = 0 ∨ (1 ≤ x.gen ∧ x.gen ≤ y.gen)
  lo : 0 ≤ last
theorem MI.nil (n : Nat) : MI [] n 0 := ⟨by simp, by simp, List.Pairwise.nil, by omega⟩
theorem MI.add {M : List Cb} {n : Nat} {last : Int} (h : MI M n last) {c : Nat} (hc : c < n) (zs : List Int) : MI (M ++ zs.map (mkC (c : Int))) n last := by
  have hn : ∀ x ∈ zs.map (mkC (c : Int)), x.c = (c : Int) ∧ x.gen = 0 := fun x hx => by
    obtain ⟨z, _, rfl⟩ := List.mem_map.1 hx
    exact ⟨rfl, rfl⟩
  have hl := h.lo
  refine ⟨fun x hx => ?_, fun x hx => ?_, ?_, h.lo⟩
  · rcases List.mem_append.1 hx with h1 | h1
    · exact h.cpu x h1
    · have := (hn x h1).1; omega
  · rcases List.mem_append.1 hx with h1 | h1
    · exact h.gen x h1
    · have := (hn x h1).2; omega
  · rw [List.pairwise_append]
    refine ⟨h.ord, ?_, fun x _ y hy => .inl (hn y hy).2⟩
    exact List.Pairwise.imp_of_mem (fun {a b} _ hb _ => .inl (hn b hb).2) (List.pairwise_of_forall (R := fun _ _ => True) (fun _ _ => trivial))
theorem MI.close {M : List Cb} {n : Nat} {last gen : Int} (h : MI M n last) (h1 : 1 ≤ gen) (h2 : last ≤ gen) : MI (M.map (giveC gen)) n gen := by
  have hg : ∀ x : Cb, (giveC gen x).c = x.c ∧ (x.gen = 0 → (giveC gen x).gen = gen) ∧ (x.gen ≠ 0 → (giveC gen x).gen = x.gen) := fun x => by
    unfold giveC
    by_cases e : x.gen = 0
    · rw [if_pos e]; exact ⟨rfl, fun _ => rfl, fun f => absurd e f⟩
    · rw [if_neg e]; exact ⟨rfl, fun f => absurd f e, fun _ => rfl⟩
  refine ⟨fun x hx => ?_, fun x hx => ?_, ?_, by omega⟩
  · obtain ⟨y, hy, rfl⟩ := List.mem_map.1 hx
    rw [(hg y).1]
    exact h.cpu y hy
  · obtain ⟨y, hy, rfl⟩ := List.mem_map.1 hx
    have := h.gen y hy
    by_cases e : y.gen = 0
    · rw [(hg y).2.1 e]; omega
    · rw [(hg y).2.2 e]; omega
  · rw [List.pairwise_map]
    refine List.Pairwise.imp_of_mem (fun {a b} ha hb hab => .inr ?_) h.ord
    have ga := h.gen a ha
    have gb := h.gen b hb
    by_cases ea : a.gen = 0
    · rw [(hg a).2.1 ea]
      by_cases eb : b.gen = 0
      · rw [(hg b).2.1 eb]; omega
      · omega
    · rw [(hg a).2.2 ea]
      by_cases eb : b.gen = 0
      · rw [(hg b).2.1 eb]; omega
      · rw [(hg b).2.2 eb]; omega
theorem MI.done {M : List Cb} {n : Nat} {last : Int} (h : MI M n last) (p : Cb → Bool) : MI (M.filter p) n last :=
  ⟨fun x hx => h.cpu x (List.mem_filter.1 hx).1, fun x hx => h.gen x (List.mem_filter.1 hx).1, h.ord.filter p, h.lo⟩

theorem fOf_len (M : List Cb) (c : Nat) : (fOf M c).length = cntM M (c : Int) := by
  unfold fOf cntM
  rw [List.length_map, List.countP_eq_length_filter]
theorem fOf_add (M : List Cb) (c : Nat) (zs : List Int) (i : Nat) : fOf (M ++ zs.map (mkC (c : Int))) i = if i = c then fOf M i ++ zs.map fresh else fOf M i := by
  unfold fOf
  rw [List.filter_append, List.map_append]
  by_cases e : i = c
  · subst e
    have h1 : (zs.map (mkC (i : Int))).filter (fun x => decide (x.c = (i : Int))) = zs.map (mkC (i : Int)) := List.filter_eq_self.2 (fun x hx => by obtain ⟨z, _, rfl⟩ := List.mem_map.1 hx; exact decide_eq_true rfl)
    rw [if_pos rfl, h1, List.map_map]
    rfl
  · have h1 : (zs.map (mkC (c : Int))).filter (fun x => decide (x.c = (i : Int))) = [] := List.filter_eq_nil_iff.2 (fun x hx => by
      obtain ⟨z, _, rfl⟩ := List.mem_map.1 hx
      intro e2
      have e3 : (c : Int) = (i : Int) := of_decide_eq_true e2
      omega)
    rw [if_neg e, h1]
    simp
theorem add_rel (M : List Cb) (c : Nat) (zs : List Int) (h64 : cntM M (c : Int) ≤ 64) : updF (fOf M) c ((fOf M c ++ zs.map fresh).take 64) = fOf (M ++ (zs.take (64 - cntM M (c : Int))).map (mkC (c : Int))) := by
  funext i
  rw [fOf_add]
  by_cases e : i = c
  · subst e
    rw [updF_same, if_pos rfl, List.take_append, fOf_len, List.take_of_length_le (by rw [fOf_len]; exact h64), List.map_take]
  · rw [updF_other _ e, if_neg e]
theorem close_rel (M : List Cb) (gen : Int) (i : Nat) : fOf (M.map (giveC gen)) i = (fOf M i).map (giveT gen) := by
  unfold fOf
  rw [List.filter_map, List.map_map, List.map_map]
  have e1 : ((fun x : Cb => decide (x.c = (i : Int))) ∘ giveC gen) = fun x => decide (x.c = (i : Int)) := by
    funext x
    show decide ((giveC gen x).c = (i : Int)) = _
    unfold giveC
    split <;> rfl
  rw [e1]
  apply List.map_congr_left
  intro x _
  show strip (giveC gen x) = giveT gen (strip x)
  unfold giveC giveT strip
  by_cases e : x.gen = 0
  · rw [if_pos e, if_pos e]
  · rw [if_neg e, if_neg e]

/-- Where generations never fall, and those without one stand last. -/
def OrdT (l : List Th) : Prop := l.Pairwise fun x y => y.2 = 0 ∨ (1 ≤ x.2 ∧ x.2 ≤ y.2)
theorem fOf_ord {M : List Cb} {n : Nat} {last : Int} (h : MI M n last) (i : Nat) : OrdT (fOf M i) := by
  unfold OrdT fOf
  rw [List.pairwise_map]
  exact h.ord.filter _
theorem ord_while {l : List Th} (h : OrdT l) (gen : Int) : l.takeWhile (up gen) = l.filter (up gen) ∧ l.dropWhile (up gen) = l.filter (fun x => !up gen x) := by
  unfold OrdT at h
  induction l with
  | nil => simp
  | cons x t ih =>
    obtain ⟨h1, h2⟩ := List.pairwise_cons.1 h
    obtain ⟨i1, i2⟩ := ih h2
    by_cases e : up gen x = true
    · simp [e, i1, i2]
    · have hall : ∀ y ∈ t, up gen y = false := fun y hy => by
        have e2 : ¬ (1 ≤ x.2 ∧ x.2 ≤ gen) := by unfold up at e; simpa using e
        unfold up
        refine decide_eq_false ?_
        rcases h1 y hy with h3 | h3 <;> omega
      have e' : up gen x = false := by simpa using e
      have f1 : t.filter (up gen) = [] := List.filter_eq_nil_iff.2 (fun y hy => by rw [hall y hy]; simp)
      have f2 : t.filter (fun x => !up gen x) = t := List.filter_eq_self.2 (fun y hy => by rw [hall y hy]; rfl)
      simp [e', f1, f2]
theorem out_rel {M : List Cb} {n : Nat} {last : Int} (h : MI M n last) (gen : Int) (k : Nat) : outN gen (fOf M) k = outM gen M k := by
  unfold outN outM
  congr 1
  funext i
  rw [(ord_while (fOf_ord h i) gen).1]
  unfold fOf outC
  rw [List.filter_map, List.map_map, List.filter_filter]
  have e1 : (fun a : Cb => (up gen ∘ strip) a && decide (a.c = (i : Int))) = selM (i : Int) gen := by
    funext x
    show (decide (1 ≤ x.gen ∧ x.gen ≤ gen) && decide (x.c = (i : Int))) = decide (x.c = (i : Int) ∧ 0 < x.gen ∧ x.gen ≤ gen)
    rw [Bool.eq_iff_iff]
    simp only [Bool.and_eq_true, decide_eq_true_eq]
    omega
  rw [e1]
  rfl
theorem done_rel {M : List Cb} {n : Nat} {last : Int} (h : MI M n last) (gen : Int) (i : Nat) : fOf (M.filter (leftM gen)) i = (fOf M i).dropWhile (up gen) := by
  rw [(ord_while (fOf_ord h i) gen).2]
  unfold fOf
  rw [List.filter_map, List.filter_filter, List.filter_filter]
  congr 1
  apply List.filter_congr
  intro x hx
  have hg := h.gen x hx
  show (decide (x.c = (i : Int)) && decide (x.gen = 0 ∨ gen < x.gen)) = (!decide (1 ≤ x.gen ∧ x.gen ≤ gen) && decide (x.c = (i : Int)))
  rw [Bool.eq_iff_iff]
  simp only [Bool.and_eq_true, decide_eq_true_eq, Bool.not_eq_true', decide_eq_false_iff_not]
  omega

theorem filter_split {α : Type} (p q r : α → Bool) (hr : ∀ x, r x = (p x || q x)) (hd : ∀ x, p x = true → q x = false) : ∀ l : List α, (l.filter p ++ l.filter q).Perm (l.filter r)
  | [] => List.Perm.refl _
  | x :: t => by
    have ih := filter_split p q r hr hd t
    rw [List.filter_cons, List.filter_cons, List.filter_cons, hr x]
    cases hp : p x with
    | true =>
      rw [hd x hp]
      simpa using ih
    | false =>
      cases hq : q x with
      | true => simpa using List.perm_middle.trans (List.Perm.cons x ih)
      | false => simpa using ih
theorem cat_perm {M : List Cb} {n : Nat} (h : ∀ x ∈ M, 0 ≤ x.c ∧ x.c < (n : Int)) : (catL (fOf M) n).Perm (M.map strip) := by
  have key : ∀ k, (catL (fOf M) k).Perm ((M.filter fun x => decide (x.c < (k : Int))).map strip) := by
    intro k
    induction k with
    | zero =>
      have : M.filter (fun x => decide (x.c < ((0 : Nat) : Int))) = [] := List.filter_eq_nil_iff.2 (fun x hx => by have := (h x hx).1; simp; omega)
      rw [this]
      exact List.Perm.refl _
    | succ k ih =>
      rw [catL_succ]
      refine (ih.append_right _).trans ?_
      unfold fOf
      rw [← List.map_append]
      refine List.Perm.map _ (filter_split _ _ _ (fun x => ?_) (fun x hx => ?_) M)
      · rw [Bool.eq_iff_iff]
        simp only [Bool.or_eq_true, decide_eq_true_eq]
        omega
      · simp only [decide_eq_true_eq] at hx
        exact decide_eq_false (by omega)
  have h2 := key n
  rwa [List.filter_eq_self.2 (fun x hx => decide_eq_true (h x hx).2)] at h2
theorem sum_zc (f : Nat → List Th) : ∀ n, sumN (fun i => zc (f i)) n = zc (catL f n)
  | 0 => rfl
  | n + 1 => by
    rw [catL_succ]
    show sumN (fun i => zc (f i)) n + zc (f n) = _
    rw [sum_zc f n]
    unfold zc
    rw [List.countP_append]
theorem zc_rel {M : List Cb} {n : Nat} (h : ∀ x ∈ M, 0 ≤ x.c ∧ x.c < (n : Int)) : zc (catL (fOf M) n) = zcM M := by
  unfold zc zcM
  rw [(cat_perm h).countP_eq, List.countP_map]
  rfl
theorem len_rel {M : List Cb} {n : Nat} (h : ∀ x ∈ M, 0 ≤ x.c ∧ x.c < (n : Int)) : (catL (fOf M) n).length = M.length := by
  rw [(cat_perm h).length_eq, List.length_map]
theorem mx_le {α : Type} (g : α → Int) (b : Int) : ∀ (l : List α) (s : Int), l.foldl (fun m x => if m < g x then g x else m) s ≤ b ↔ s ≤ b ∧ ∀ x ∈ l, g x ≤ b
  | [], s => by simp
  | x :: t, s => by
    rw [List.foldl_cons, mx_le g b t]
    constructor
    · rintro ⟨h1, h2⟩
      split at h1
      · exact ⟨by omega, fun y hy => by rcases List.mem_cons.1 hy with rfl | h3; exact h1; exact h2 y h3⟩
      · exact ⟨h1, fun y hy => by rcases List.mem_cons.1 hy with rfl | h3; omega; exact h2 y h3⟩
    · rintro ⟨h1, h2⟩
      have := h2 x (by simp)
      refine ⟨by split <;> omega, fun y hy => h2 y (by simp [hy])⟩
theorem mx_rel {M : List Cb} {n : Nat} (h : ∀ x ∈ M, 0 ≤ x.c ∧ x.c < (n : Int)) : mxI (catL (fOf M) n) = mxM M := by
  have hp := cat_perm h
  have h1 : ∀ b, mxI (catL (fOf M) n) ≤ b ↔ mxM M ≤ b := fun b => by
    unfold mxI mxM
    rw [mx_le (fun x : Th => x.2), mx_le (fun x : Cb => x.gen)]
    refine and_congr_right fun _ => ⟨fun h2 x hx => ?_, fun h2 x hx => ?_⟩
    · exact h2 (strip x) (hp.mem_iff.2 (List.mem_map.2 ⟨x, hx, rfl⟩))
    · obtain ⟨y, hy, rfl⟩ := List.mem_map.1 (hp.mem_iff.1 hx)
      exact h2 y hy
  exact Int.le_antisymm ((h1 _).2 (Int.le_refl _)) ((h1 _).1 (Int.le_refl _))

/-- Where one of the answer's callbacks stands in its CPU's list. -/
theorem fOf_at {M : List Cb} {k : Nat} {x : Cb} (hx : M[k]? = some x) {c : Nat} (hc : x.c = (c : Int)) : (fOf M c)[cntM (M.take k) (c : Int)]? = some (strip x) := by
  obtain ⟨hk, rfl⟩ := List.getElem?_eq_some_iff.1 hx
  have e : M = M.take k ++ M[k] :: M.drop (k + 1) := by
    rw [← List.drop_eq_getElem_cons hk, List.take_append_drop]
  have e2 : fOf M c = fOf (M.take k) c ++ strip M[k] :: fOf (M.drop (k + 1)) c := by
    have e3 : fOf (M.take k ++ M[k] :: M.drop (k + 1)) c = fOf (M.take k) c ++ strip M[k] :: fOf (M.drop (k + 1)) c := by
      unfold fOf
      rw [List.filter_append, List.map_append, List.filter_cons, decide_eq_true hc]
      rfl
    rwa [← e] at e3
  rw [e2, ← fOf_len, List.getElem?_append_right (Nat.le_refl _)]
  simp
end Go.Proofs.Ytnnliimjemmekaa
