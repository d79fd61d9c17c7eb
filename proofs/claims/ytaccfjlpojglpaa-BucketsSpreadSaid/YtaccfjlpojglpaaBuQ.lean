/-
  Plain: all keys stand in the chains, each once; what a table holds that was never full.
-/
import Derived.Test.YtaccfjlpojglpaaBuP
namespace Go.Proofs.Ytaccfjlpojglpaa

section
variable {V : Type}
theorem keysN_bk {n : Nat} {L : List (Ent V)} : ∀ {m x : Nat}, x ∈ keysN n L m → bk n x < m
  | 0, x, h => by simp [keysN] at h
  | m + 1, x, h => by
    rw [keysN_succ, List.mem_append] at h
    rcases h with h | h
    · exact Nat.lt_succ_of_lt (keysN_bk h)
    · obtain ⟨e, he, rfl⟩ := ksE_mem.1 h
      rw [(chn_mem.1 he).2]
      exact Nat.lt_succ_self _
theorem keysN_nodup {n : Nat} {L : List (Ent V)} (h : (ksE L).Nodup) : ∀ m, (keysN n L m).Nodup
  | 0 => List.nodup_nil
  | m + 1 => by
    rw [keysN_succ, List.nodup_append]
    refine ⟨keysN_nodup h m, chn_nodup h n m, fun a ha b hb => ?_⟩
    rintro rfl
    have h1 := keysN_bk ha
    obtain ⟨e, he, rfl⟩ := ksE_mem.1 hb
    rw [(chn_mem.1 he).2] at h1
    exact absurd h1 (Nat.lt_irrefl _)
theorem keysN_pre (n : Nat) (L : List (Ent V)) (m : Nat) : ∀ d, keysN n L m <+: keysN n L (m + d)
  | 0 => List.prefix_refl _
  | d + 1 => (keysN_pre n L m d).trans (by
      rw [show m + (d + 1) = (m + d) + 1 by omega, keysN_succ]
      exact List.prefix_append _ _)
/-- A chain's key, among all. -/
theorem keysE_at {n b : Nat} (hb : b < n) (L : List (Ent V)) {i : Nat} (hi : i < (chn n b L).length) : ∃ x, (keysE n L)[lenE n L b + i]? = some x ∧ (ksE (chn n b L))[i]? = some x ∧ bk n x = b := by
  have hi2 : i < (ksE (chn n b L)).length := by simpa [ksE] using hi
  refine ⟨(ksE (chn n b L))[i], ?_, List.getElem?_eq_getElem hi2, ?_⟩
  · have hp := keysN_pre n L (b + 1) (n - (b + 1))
    rw [show b + 1 + (n - (b + 1)) = n by omega, keysN_succ] at hp
    obtain ⟨t, ht⟩ := hp
    rw [show keysE n L = keysN n L n from rfl, ← ht, List.append_assoc, List.getElem?_append_right (by rw [keysN_len]; omega), keysN_len, show lenE n L b + i - lenE n L b = i by omega, List.getElem?_append_left hi2, List.getElem?_eq_getElem hi2]
  · obtain ⟨e, he, h2⟩ := ksE_mem.1 (List.getElem_mem hi2)
    rw [← h2]
    exact (chn_mem.1 he).2
theorem keysE_ne {n : Nat} {L : List (Ent V)} (h : (ksE L).Nodup) {i k x y : Nat} (hik : k < i) (h1 : (keysE n L)[k]? = some x) (h2 : (keysE n L)[i]? = some y) : x ≠ y := by
  obtain ⟨a1, rfl⟩ := List.getElem?_eq_some_iff.1 h1
  obtain ⟨a2, rfl⟩ := List.getElem?_eq_some_iff.1 h2
  exact (List.pairwise_iff_getElem.1 (keysN_nodup (n := n) h n)) k i a1 a2 hik
/-- A Put where there is room. -/
theorem put_free {L : List (Ent V)} {room : Nat} (h : L.length < room) (k : Nat) (v : V) : ∃ X b, putE room L k v = (X, b, 0) ∧ X.length ≤ L.length + 1 ∧ k ∈ ksE X ∧ (∀ j, j ∈ ksE L → j ∈ ksE X) := by
  unfold putE
  by_cases hk : k ∈ ksE L
  · rw [if_pos hk]
    exact ⟨_, _, rfl, by rw [set_len]; omega, by rw [ks_set]; exact hk, fun j hj => by rw [ks_set]; exact hj⟩
  · rw [if_neg hk, if_neg (by omega)]
    exact ⟨_, _, rfl, by simp, by simp [ksE], fun j hj => by simp [ksE] at hj ⊢; exact .inr hj⟩
theorem val_some {L : List (Ent V)} {k : Nat} (h : k ∈ ksE L) : (valE L k).isSome = true := by
  unfold valE
  obtain ⟨e, he, h2⟩ := ksE_mem.1 h
  cases hf : L.find? fun e => decide (e.k = k) with
  | none => have := List.find?_eq_none.1 hf e he; simp [h2] at this
  | some y => rfl
theorem val_set_other {L : List (Ent V)} {k y : Nat} (h : y ≠ k) (v : V) : valE (setE L k v) y = valE L y := by
  have hk : ∀ e : Ent V, (if e.k = k then (⟨k, v⟩ : Ent V) else e).k = e.k := fun e => by
    split
    · rename_i h; exact h.symm
    · rfl
  unfold valE setE
  rw [List.find?_map, show ((fun e : Ent V => decide (e.k = y)) ∘ fun e => if e.k = k then (⟨k, v⟩ : Ent V) else e) = fun e => decide (e.k = y) from funext fun e => by rw [Function.comp_apply, hk]]
  cases hf : L.find? fun e => decide (e.k = y) with
  | none => rfl
  | some e =>
    have h2 := List.find?_some hf
    have h3 : e.k = y := of_decide_eq_true h2
    show some (if e.k = k then (⟨k, v⟩ : Ent V) else e).v = some e.v
    rw [if_neg (by rw [h3]; exact h)]
theorem val_set_same {L : List (Ent V)} {k : Nat} (hk : k ∈ ksE L) (v : V) : valE (setE L k v) k = some v := by
  unfold valE setE
  have hk2 : ∀ e : Ent V, (if e.k = k then (⟨k, v⟩ : Ent V) else e).k = e.k := fun e => by
    split
    · rename_i h; exact h.symm
    · rfl
  rw [List.find?_map, show ((fun e : Ent V => decide (e.k = k)) ∘ fun e => if e.k = k then (⟨k, v⟩ : Ent V) else e) = fun e => decide (e.k = k) from funext fun e => by rw [Function.comp_apply, hk2]]
  obtain ⟨e, he, h2⟩ := ksE_mem.1 hk
  cases hf : L.find? fun e => decide (e.k = k) with
  | none => have := List.find?_eq_none.1 hf e he; simp [h2] at this
  | some e =>
    have h2 := List.find?_some hf
    have h3 : e.k = k := of_decide_eq_true h2
    show some (if e.k = k then (⟨k, v⟩ : Ent V) else e).v = some v
    rw [if_pos h3]
theorem val_del_other {L : List (Ent V)} {k y : Nat} (h : y ≠ k) : valE (delE L k) y = valE L y := by
  unfold valE delE
  rw [List.find?_filter]
  congr 2
  funext e
  by_cases e1 : e.k = y
  · have : e.k ≠ k := by rw [e1]; exact h
    simp [e1, h]
  · simp [e1]
theorem val_del_same (L : List (Ent V)) (k : Nat) : valE (delE L k) k = none := val_not (del_gone L k)
theorem val_cons_other {L : List (Ent V)} {k y : Nat} (h : y ≠ k) (v : V) : valE (⟨k, v⟩ :: L) y = valE L y := by
  unfold valE
  rw [List.find?_cons]
  simp [Ne.symm h]
theorem val_cons_same (L : List (Ent V)) (k : Nat) (v : V) : valE (⟨k, v⟩ :: L) k = some v := by simp [valE]
/-- A Put where there is room: the values. -/
theorem put_free_val {L : List (Ent V)} {room : Nat} (h : L.length < room) (k : Nat) (v : V) : ∃ X b, putE room L k v = (X, b, 0) ∧ X.length ≤ L.length + 1 ∧ k ∈ ksE X ∧ valE X k = some v ∧ ∀ y, y ≠ k → valE X y = valE L y := by
  unfold putE
  by_cases hk : k ∈ ksE L
  · rw [if_pos hk]
    exact ⟨_, _, rfl, by rw [set_len]; omega, by rw [ks_set]; exact hk, val_set_same hk v, fun y hy => val_set_other hy v⟩
  · rw [if_neg hk, if_neg (by omega)]
    exact ⟨_, _, rfl, by simp, by simp [ksE], val_cons_same L k v, fun y hy => val_cons_other hy v⟩

/-- Each key's value is the one that was put last, if it wasn't deleted then. -/
def Last (z : Nat → Nat) (s : Nat → V) (db : Nat → Bool) (i : Nat) (L : List (Ent V)) : Prop := ∀ j, j < i → (∀ t, j < t → t < i → z t ≠ z j) → valE L (z j) = if db j then none else some (s j)
variable {z : Nat → Nat} {s : Nat → V} {db : Nat → Bool}
theorem Last.put {i : Nat} {L X : List (Ent V)} (h : Last z s db i L) (hd : db i = false) (h1 : valE X (z i) = some (s i)) (h2 : ∀ y, y ≠ z i → valE X y = valE L y) : Last z s db (i + 1) X := fun j hj ht => by
  by_cases e : j = i
  · subst e
    rw [h1, hd]
    rfl
  · rw [h2 _ (fun e1 => ht i (by omega) (by omega) e1.symm)]
    exact h j (by omega) (fun t h3 h4 => ht t h3 (by omega))
theorem Last.del {i : Nat} {L X : List (Ent V)} (h : Last z s db i L) (hd : db i = true) (h2 : ∀ y, y ≠ z i → valE X y = valE L y) : Last z s db (i + 1) (delE X (z i)) := fun j hj ht => by
  by_cases e : j = i
  · subst e
    rw [val_del_same, hd]
    rfl
  · have hne : z j ≠ z i := fun e1 => ht i (by omega) (by omega) e1.symm
    rw [val_del_other hne, h2 _ hne]
    exact h j (by omega) (fun t h3 h4 => ht t h3 (by omega))
end
end Go.Proofs.Ytaccfjlpojglpaa
