/-
  Orders, plain: a list of keys from the oldest to the newest; touches (a key, and how many touches there were then), rising; what several touches make.
-/
import Derived.Test.YtediabcgeghogaaBase
namespace Go.Proofs.Ytediabcgeghogaa

/-- A key with its touch. -/
structure Tch (α : Type) where
  k : α
  t : Nat

section
variable {α : Type} [DecidableEq α]

/-- Without a key. -/
def drp (L : List α) (k : α) : List α := L.filter fun x => decide (x ≠ k)
def wo (L : List (Tch α)) (k : α) : List (Tch α) := L.filter fun x => decide (x.k ≠ k)
def ks (L : List (Tch α)) : List α := L.map (·.k)
theorem mem_drp {L : List α} {k x : α} : x ∈ drp L k ↔ x ∈ L ∧ x ≠ k := by simp [drp]
theorem mem_wo {L : List (Tch α)} {k : α} {x : Tch α} : x ∈ wo L k ↔ x ∈ L ∧ x.k ≠ k := by simp [wo]
theorem ks_wo (L : List (Tch α)) (k : α) : ks (wo L k) = drp (ks L) k := by
  unfold ks wo drp
  rw [List.filter_map]
  rfl
theorem drp_not {L : List α} {k : α} (h : k ∉ L) : drp L k = L := List.filter_eq_self.2 (fun x hx => by simp; exact fun e => h (e ▸ hx))
theorem wo_not {L : List (Tch α)} {k : α} (h : ∀ e ∈ L, e.k ≠ k) : wo L k = L := List.filter_eq_self.2 (fun x hx => by simpa using h x hx)
theorem drp_nodup {L : List α} (h : L.Nodup) (k : α) : (drp L k).Nodup := h.filter _
theorem drp_parts {A B : List α} {k : α} (h : (A ++ k :: B).Nodup) : drp (A ++ k :: B) k = A ++ B := by
  rw [List.nodup_append, List.nodup_cons] at h
  obtain ⟨_, ⟨h2, _⟩, h4⟩ := h
  have hA : k ∉ A := fun hm => h4 k hm k (by simp) rfl
  unfold drp
  rw [List.filter_append, List.filter_cons_of_neg (by simp)]
  have e1 := drp_not hA
  have e2 := drp_not h2
  unfold drp at e1 e2
  rw [e1, e2]
theorem drp_len {L : List α} (h : L.Nodup) {k : α} (hk : k ∈ L) : (drp L k).length + 1 = L.length := by
  obtain ⟨A, B, rfl⟩ := List.append_of_mem hk
  rw [drp_parts h]
  simp
  omega
theorem drp_le (L : List α) (k : α) : (drp L k).length ≤ L.length := List.length_filter_le _ _
theorem wo_nodup {L : List (Tch α)} (h : (L.map (·.k)).Nodup) (k : α) : ((wo L k).map (·.k)).Nodup := by
  have := drp_nodup h k
  rwa [show (wo L k).map (·.k) = drp (L.map (·.k)) k from ks_wo L k]
theorem wo_in {L : List (Tch α)} (h : (L.map (·.k)).Nodup) {e : Tch α} (he : e ∈ L) : (wo L e.k).length + 1 = L.length := by
  have := drp_len h (k := e.k) (List.mem_map.2 ⟨e, he, rfl⟩)
  rw [← show (wo L e.k).map (·.k) = drp (L.map (·.k)) e.k from ks_wo L e.k, List.length_map, List.length_map] at this
  exact this
theorem wo_snoc_nodup {L : List (Tch α)} (h : (L.map (·.k)).Nodup) (e : Tch α) : ((wo L e.k ++ [e]).map (·.k)).Nodup := by
  rw [List.map_append, List.nodup_append]
  refine ⟨wo_nodup h e.k, by simp, fun a ha b hb e1 => ?_⟩
  obtain ⟨x, hx, rfl⟩ := List.mem_map.1 ha
  obtain rfl : b = e.k := by simpa using hb
  exact (mem_wo.1 hx).2 e1

/-- Touches rise, and none is above n. -/
structure Ris (n : Nat) (L : List (Tch α)) : Prop where
  up : L.Pairwise fun a b => a.t < b.t
  top : ∀ e ∈ L, e.t ≤ n
omit [DecidableEq α] in
theorem Ris.nil (n : Nat) : Ris n ([] : List (Tch α)) := ⟨List.Pairwise.nil, by simp⟩
theorem Ris.wo {n : Nat} {L : List (Tch α)} (h : Ris n L) (k : α) : Ris n (wo L k) := ⟨h.up.filter _, fun e he => h.top e (mem_wo.1 he).1⟩
theorem Ris.put {n : Nat} {L : List (Tch α)} (h : Ris n L) (k : α) : Ris (n + 1) (Proofs.Ytediabcgeghogaa.wo L k ++ [⟨k, n + 1⟩]) := by
  refine ⟨List.pairwise_append.2 ⟨(h.wo k).up, by simp, fun a ha b hb => ?_⟩, fun e he => ?_⟩
  · obtain rfl : b = ⟨k, n + 1⟩ := by simpa using hb
    have := (h.wo k).top a ha
    simp only
    omega
  · rcases List.mem_append.1 he with he | he
    · have := (h.wo k).top e he
      omega
    · obtain rfl : e = ⟨k, n + 1⟩ := by simpa using he
      exact Nat.le_refl _
omit [DecidableEq α] in
/-- Rising lists of the same touches are the same. -/
theorem rising_eq {A B : List (Tch α)} (h : A.Perm B) (hA : A.Pairwise fun a b => a.t ≤ b.t) (hB : B.Pairwise fun a b => a.t < b.t) : A = B := by
  induction A generalizing B with
  | nil => exact (List.nil_perm.1 h).symm
  | cons a r ih =>
    cases B with
    | nil => cases List.perm_nil.1 h
    | cons b s =>
      rw [List.pairwise_cons] at hA hB
      have e : a = b := by
        rcases List.mem_cons.1 (h.mem_iff.1 (List.mem_cons_self ..)) with e | hm
        · exact e
        · rcases List.mem_cons.1 (h.mem_iff.2 (List.mem_cons_self ..)) with e2 | hm2
          · exact e2.symm
          · have h1 := hB.1 a hm
            have h2 := hA.1 b hm2
            omega
      subst e
      rw [ih (List.perm_cons a |>.1 h) hA.2 hB.2]

/-- A touch: what is held behind it, from the oldest on; the error. -/
def tch (room : Nat) (L : List α) (k : α) : List α × Nat := if k ∈ L ∨ L.length < room then (drp L k ++ [k], 0) else (L, 3)
/-- Several, one behind the other. -/
def tchs (room : Nat) : List α → List α → List α × Nat
  | L, [] => (L, 0)
  | L, k :: r => if (tch room L k).2 = 0 then tchs room (tch room L k).1 r else tch room L k
theorem tch_nodup {room : Nat} {L : List α} (h : L.Nodup) (k : α) : (tch room L k).1.Nodup := by
  unfold tch
  split
  · rw [List.nodup_append]
    refine ⟨drp_nodup h k, by simp, fun a ha b hb e => ?_⟩
    obtain rfl : b = k := by simpa using hb
    exact (mem_drp.1 ha).2 e
  · exact h
theorem tch_len {room : Nat} {L : List α} (h : L.Nodup) (hl : L.length ≤ room) (k : α) : (tch room L k).1.length ≤ room := by
  unfold tch
  split
  · rename_i hc
    rcases hc with hc | hc
    · have := drp_len h hc
      simp
      omega
    · have := drp_le L k
      simp
      omega
  · exact hl
end
end Go.Proofs.Ytediabcgeghogaa
