/-
  Plain: a table's keys and values as one list, the one that came last first; a key's bucket; a bucket's chain; what Put, Del, Get tell; cells that are laid over one another.
-/
import Derived.Test.YtaccfjlpojglpaaBase
namespace Go.Proofs.Ytaccfjlpojglpaa

/-- A key with its value. -/
structure Ent (V : Type) where
  k : Nat
  v : V

/-- A key's bucket, of n; 0 if there are none. -/
def bk (n k : Nat) : Nat := if n = 0 then 0 else k * 11400714819323198485 % 18446744073709551616 / 4294967296 % n
theorem bk_lt {n : Nat} (h : 0 < n) (k : Nat) : bk n k < n := by
  unfold bk
  rw [if_neg (by omega)]
  exact Nat.mod_lt _ h

section
variable {V : Type}
/-- A bucket's chain. -/
def chn (n b : Nat) (L : List (Ent V)) : List (Ent V) := L.filter fun e => decide (bk n e.k = b)
def ksE (L : List (Ent V)) : List Nat := L.map (·.k)
def setE (L : List (Ent V)) (k : Nat) (v : V) : List (Ent V) := L.map fun e => if e.k = k then ⟨k, v⟩ else e
def delE (L : List (Ent V)) (k : Nat) : List (Ent V) := L.filter fun e => decide (e.k ≠ k)
/-- A key's value. -/
def valE (L : List (Ent V)) (k : Nat) : Option V := (L.find? fun e => decide (e.k = k)).map (·.v)
/-- All keys, bucket by bucket. -/
def keysE (n : Nat) (L : List (Ent V)) : List Nat := (List.range n).flatMap fun b => ksE (chn n b L)
/-- Put: behind it, was the key there, the error. -/
def putE (room : Nat) (L : List (Ent V)) (k : Nat) (v : V) : List (Ent V) × Bool × Nat :=
  if k ∈ ksE L then (setE L k v, true, 0) else if room ≤ L.length then (L, false, 3) else (⟨k, v⟩ :: L, false, 0)
/-- Del of several: behind it, how many. -/
def delsE (L : List (Ent V)) : List Nat → List (Ent V) × Nat
  | [] => (L, 0)
  | k :: r => ((delsE (delE L k) r).1, (if k ∈ ksE L then 1 else 0) + (delsE (delE L k) r).2)

/-- The chain at a number that may be no bucket's. -/
def chI (n : Nat) (L : List (Ent V)) (z : Int) : List (Ent V) := if 0 ≤ z ∧ z < n then chn n z.toNat L else []
theorem chI_in {n b : Nat} (hb : b < n) (L : List (Ent V)) : chI n L (b : Int) = chn n b L := by
  unfold chI
  rw [if_pos (by omega), Int.toNat_natCast]
theorem chI_out {n : Nat} {z : Int} (h : z < 0 ∨ (n : Int) ≤ z) (L : List (Ent V)) : chI n L z = [] := by
  unfold chI
  rw [if_neg (by omega)]
theorem chI_len (n : Nat) (L : List (Ent V)) (z : Int) : (chI n L z).length ≤ L.length := by
  unfold chI
  split
  · exact List.length_filter_le _ _
  · simp
theorem ksE_mem {L : List (Ent V)} {k : Nat} : k ∈ ksE L ↔ ∃ e ∈ L, e.k = k := by simp [ksE]
theorem ks_set (L : List (Ent V)) (k : Nat) (v : V) : ksE (setE L k v) = ksE L := by
  unfold ksE setE
  rw [List.map_map]
  apply List.map_congr_left
  intro e _
  show (if e.k = k then (⟨k, v⟩ : Ent V) else e).k = e.k
  split
  · rename_i h; exact h.symm
  · rfl
theorem set_len (L : List (Ent V)) (k : Nat) (v : V) : (setE L k v).length = L.length := by simp [setE]
theorem set_not {L : List (Ent V)} {k : Nat} (h : k ∉ ksE L) (v : V) : setE L k v = L := by
  unfold setE
  rw [← List.map_id L, List.map_map]
  apply List.map_congr_left
  intro e he
  show (if e.k = k then (⟨k, v⟩ : Ent V) else e) = e
  rw [if_neg (fun e1 => h (ksE_mem.2 ⟨e, he, e1⟩))]
theorem del_not {L : List (Ent V)} {k : Nat} (h : k ∉ ksE L) : delE L k = L := by
  unfold delE
  rw [List.filter_eq_self]
  intro e he
  exact decide_eq_true (fun e1 => h (ksE_mem.2 ⟨e, he, e1⟩))
theorem ks_del (L : List (Ent V)) (k : Nat) : ksE (delE L k) = (ksE L).filter fun x => decide (x ≠ k) := by
  unfold ksE delE
  rw [List.filter_map]
  rfl
theorem del_nodup {L : List (Ent V)} (h : (ksE L).Nodup) (k : Nat) : (ksE (delE L k)).Nodup := by
  rw [ks_del]
  exact h.filter _
theorem del_len_le (L : List (Ent V)) (k : Nat) : (delE L k).length ≤ L.length := List.length_filter_le _ _
theorem del_gone (L : List (Ent V)) (k : Nat) : k ∉ ksE (delE L k) := by
  rw [ks_del]
  simp
theorem del_len {L : List (Ent V)} (h : (ksE L).Nodup) {k : Nat} (hk : k ∈ ksE L) : (delE L k).length + 1 = L.length := by
  induction L with
  | nil => simp [ksE] at hk
  | cons e r ih =>
    have h' := h
    simp only [ksE, List.map_cons, List.nodup_cons] at h'
    by_cases e1 : e.k = k
    · subst e1
      have : delE (e :: r) e.k = delE r e.k := by simp [delE]
      rw [this, del_not (by simpa [ksE] using h'.1)]
      rfl
    · have hk2 : k ∈ ksE r := by
        simp only [ksE, List.map_cons, List.mem_cons] at hk
        rcases hk with hk | hk
        · exact absurd hk.symm e1
        · exact hk
      have : delE (e :: r) k = e :: delE r k := by simp [delE, e1]
      rw [this]
      have := ih h'.2 hk2
      simp
      omega
/-- A list about a key's place. -/
theorem at_parts {L : List (Ent V)} (h : (ksE L).Nodup) {p : Nat} {e : Ent V} (hp : L[p]? = some e) : ∃ A B, L = A ++ e :: B ∧ A.length = p ∧ e.k ∉ ksE A ∧ e.k ∉ ksE B := by
  obtain ⟨hlt, he⟩ := List.getElem?_eq_some_iff.1 hp
  refine ⟨L.take p, L.drop (p + 1), ?_, by simp; omega, ?_, ?_⟩
  · rw [← he, ← List.drop_eq_getElem_cons hlt, List.take_append_drop]
  all_goals
    have e1 : L = L.take p ++ e :: L.drop (p + 1) := by rw [← he, ← List.drop_eq_getElem_cons hlt, List.take_append_drop]
    rw [e1] at h
    simp only [ksE, List.map_append, List.map_cons, List.nodup_append, List.nodup_cons] at h
    intro hm
  · exact h.2.2 _ hm _ (by simp) rfl
  · exact h.2.1.1 hm
theorem set_at {A B : List (Ent V)} {e : Ent V} (hA : e.k ∉ ksE A) (hB : e.k ∉ ksE B) (v : V) : setE (A ++ e :: B) e.k v = A ++ ⟨e.k, v⟩ :: B := by
  have h1 := set_not hA v
  have h2 := set_not hB v
  unfold setE at *
  rw [List.map_append, List.map_cons, h1, h2, if_pos rfl]
theorem del_at {A B : List (Ent V)} {e : Ent V} (hA : e.k ∉ ksE A) (hB : e.k ∉ ksE B) : delE (A ++ e :: B) e.k = A ++ B := by
  have h1 := del_not hA
  have h2 := del_not hB
  unfold delE at *
  rw [List.filter_append, List.filter_cons, h1, h2]
  simp

theorem val_not {L : List (Ent V)} {k : Nat} (h : k ∉ ksE L) : valE L k = none := by
  unfold valE
  rw [List.find?_eq_none.2 (fun e he h2 => h (ksE_mem.2 ⟨e, he, of_decide_eq_true h2⟩))]
  rfl
theorem key_eq {L : List (Ent V)} (h : (ksE L).Nodup) {a b : Ent V} (ha : a ∈ L) (hb : b ∈ L) (e : a.k = b.k) : a = b := by
  induction L with
  | nil => cases ha
  | cons x r ih =>
    have h' := h
    simp only [ksE, List.map_cons, List.nodup_cons] at h'
    rcases List.mem_cons.1 ha with rfl | ha'
    · rcases List.mem_cons.1 hb with rfl | hb'
      · rfl
      · exact absurd (List.mem_map.2 ⟨b, hb', e.symm⟩) h'.1
    · rcases List.mem_cons.1 hb with rfl | hb'
      · exact absurd (List.mem_map.2 ⟨a, ha', e⟩) h'.1
      · exact ih h'.2 ha' hb'
theorem val_in {L : List (Ent V)} (h : (ksE L).Nodup) {x : Ent V} (hx : x ∈ L) : valE L x.k = some x.v := by
  unfold valE
  cases hf : L.find? fun e => decide (e.k = x.k) with
  | none =>
    have := List.find?_eq_none.1 hf x hx
    simp at this
  | some y =>
    have h1 := List.mem_of_find?_eq_some hf
    have h2 := List.find?_some hf
    rw [key_eq h h1 hx (of_decide_eq_true h2)]
    rfl
theorem chn_mem {n b : Nat} {L : List (Ent V)} {e : Ent V} : e ∈ chn n b L ↔ e ∈ L ∧ bk n e.k = b := by simp [chn]
theorem chn_nodup {L : List (Ent V)} (h : (ksE L).Nodup) (n b : Nat) : (ksE (chn n b L)).Nodup := by
  have : (ksE (chn n b L)).Sublist (ksE L) := List.Sublist.map _ List.filter_sublist
  exact this.nodup h
theorem chn_len (n b : Nat) (L : List (Ent V)) : (chn n b L).length ≤ L.length := List.length_filter_le _ _
theorem chn_key {n k : Nat} {L : List (Ent V)} : k ∈ ksE (chn n (bk n k) L) ↔ k ∈ ksE L := by
  rw [ksE_mem, ksE_mem]
  constructor
  · rintro ⟨e, he, rfl⟩; exact ⟨e, (chn_mem.1 he).1, rfl⟩
  · rintro ⟨e, he, rfl⟩; exact ⟨e, chn_mem.2 ⟨he, rfl⟩, rfl⟩
theorem chn_other {n k b : Nat} (hb : b ≠ bk n k) (L : List (Ent V)) : k ∉ ksE (chn n b L) := fun hm => by
  obtain ⟨e, he, rfl⟩ := ksE_mem.1 hm
  exact hb (chn_mem.1 he).2.symm
theorem chn_set (n b k : Nat) (v : V) (L : List (Ent V)) : chn n b (setE L k v) = setE (chn n b L) k v := by
  have hk : ∀ e : Ent V, (if e.k = k then (⟨k, v⟩ : Ent V) else e).k = e.k := fun e => by
    split
    · rename_i h; exact h.symm
    · rfl
  unfold chn setE
  rw [List.filter_map]
  have h2 : List.filter ((fun e : Ent V => decide (bk n e.k = b)) ∘ fun e => if e.k = k then (⟨k, v⟩ : Ent V) else e) L = List.filter (fun e => decide (bk n e.k = b)) L := by
    apply List.filter_congr
    intro e _
    rw [Function.comp_apply, hk]
  rw [h2]
theorem chn_del (n b k : Nat) (L : List (Ent V)) : chn n b (delE L k) = delE (chn n b L) k := by
  unfold chn delE
  rw [List.filter_filter, List.filter_filter]
  apply List.filter_congr
  intro e _
  exact Bool.and_comm _ _
theorem chn_set_other {n b k : Nat} (hb : b ≠ bk n k) (v : V) (L : List (Ent V)) : chn n b (setE L k v) = chn n b L := by rw [chn_set, set_not (chn_other hb L)]
theorem chn_del_other {n b k : Nat} (hb : b ≠ bk n k) (L : List (Ent V)) : chn n b (delE L k) = chn n b L := by rw [chn_del, del_not (chn_other hb L)]
theorem chn_cons {n : Nat} (e : Ent V) (L : List (Ent V)) : chn n (bk n e.k) (e :: L) = e :: chn n (bk n e.k) L := by
  unfold chn
  rw [List.filter_cons, if_pos (decide_eq_true rfl)]
theorem chn_cons_other {n b : Nat} {e : Ent V} (hb : b ≠ bk n e.k) (L : List (Ent V)) : chn n b (e :: L) = chn n b L := by
  unfold chn
  rw [List.filter_cons, if_neg (by simp; exact fun h => hb h.symm)]
/-- How many stand in the first m chains. -/
def lenE (n : Nat) (L : List (Ent V)) : Nat → Nat
  | 0 => 0
  | m + 1 => lenE n L m + (chn n m L).length
theorem lenE_cons (n : Nat) (e : Ent V) (L : List (Ent V)) : ∀ m, lenE n (e :: L) m = lenE n L m + if bk n e.k < m then 1 else 0
  | 0 => by simp [lenE]
  | m + 1 => by
    unfold lenE
    rw [lenE_cons n e L m]
    by_cases h : m = bk n e.k
    · subst h
      rw [chn_cons, if_neg (by omega), if_pos (by omega), List.length_cons]
      omega
    · rw [chn_cons_other h]
      by_cases h2 : bk n e.k < m
      · rw [if_pos h2, if_pos (by omega)]; omega
      · rw [if_neg h2, if_neg (by omega)]; omega
theorem lenE_nil (n : Nat) : ∀ m, lenE n ([] : List (Ent V)) m = 0
  | 0 => rfl
  | m + 1 => by
    unfold lenE
    rw [lenE_nil n m]
    rfl
theorem lenE_all {n : Nat} (h : 0 < n) : ∀ L : List (Ent V), lenE n L n = L.length
  | [] => lenE_nil n n
  | e :: L => by
    rw [lenE_cons, if_pos (bk_lt h e.k), lenE_all h L]
    rfl
theorem lenE_le {n : Nat} (L : List (Ent V)) {m : Nat} (d : Nat) : lenE n L m ≤ lenE n L (m + d) := by
  induction d with
  | zero => exact Nat.le_refl _
  | succ d ih => exact Nat.le_trans ih (Nat.le_add_right _ _)
theorem keys_len (n : Nat) (L : List (Ent V)) : ∀ m, ((List.range m).flatMap fun b => ksE (chn n b L)).length = lenE n L m
  | 0 => rfl
  | m + 1 => by
    rw [List.range_succ, List.flatMap_append, List.length_append, keys_len n L m]
    simp [lenE, ksE]
theorem range_snoc' {k m : Nat} (h : k < m) : List.range k ++ [k] <+: List.range m := by
  rw [← List.range_succ, show List.range (k + 1) = (List.range m).take (k + 1) by rw [List.take_range, Nat.min_eq_left (by omega)]]
  exact List.take_prefix _ _
theorem range_pre {pre : List Nat} {m : Nat} (h : pre <+: List.range m) : pre = List.range pre.length ∧ pre.length ≤ m := by
  have hl := h.length_le
  rw [List.length_range] at hl
  refine ⟨?_, hl⟩
  have := List.prefix_iff_eq_take.1 h
  rw [this, List.take_range]
  simp [Nat.min_eq_left hl]
/-- The keys of the first m chains. -/
def keysN (n : Nat) (L : List (Ent V)) (m : Nat) : List Nat := (List.range m).flatMap fun b => ksE (chn n b L)
theorem keysN_succ (n : Nat) (L : List (Ent V)) (m : Nat) : keysN n L (m + 1) = keysN n L m ++ ksE (chn n m L) := by
  unfold keysN
  rw [List.range_succ, List.flatMap_append]
  simp
theorem keysN_len (n : Nat) (L : List (Ent V)) (m : Nat) : (keysN n L m).length = lenE n L m := keys_len n L m
theorem keysE_len {n : Nat} (h : 0 < n) (L : List (Ent V)) : (keysE n L).length = L.length := by
  unfold keysE
  rw [keys_len, lenE_all h]
theorem putE_nodup {room : Nat} {L : List (Ent V)} (h : (ksE L).Nodup) (k : Nat) (v : V) : (ksE (putE room L k v).1).Nodup := by
  unfold putE
  split
  · rw [ks_set]; exact h
  · split
    · exact h
    · rename_i h1 _
      exact List.nodup_cons.2 ⟨h1, h⟩
theorem putE_len {room : Nat} {L : List (Ent V)} (h : L.length ≤ room) (k : Nat) (v : V) : (putE room L k v).1.length ≤ room := by
  unfold putE
  split
  · rw [set_len]; exact h
  · split
    · exact h
    · simp; omega
theorem delsE_nodup : ∀ (l : List Nat) {L : List (Ent V)}, (ksE L).Nodup → (ksE (delsE L l).1).Nodup
  | [], _, h => h
  | k :: r, _, h => delsE_nodup r (del_nodup h k)
end

theorem delsE_step {V : Type} {L L0 : List (Ent V)} {zs : List Nat} {i k c : Nat} (hk : zs[i]? = some k) (h : delsE L0 zs = ((delsE L (zs.drop i)).1, c + (delsE L (zs.drop i)).2)) :
    delsE L0 zs = ((delsE (delE L k) (zs.drop (i + 1))).1, (c + if k ∈ ksE L then 1 else 0) + (delsE (delE L k) (zs.drop (i + 1))).2) := by
  obtain ⟨hlt, he⟩ := List.getElem?_eq_some_iff.1 hk
  rw [h, List.drop_eq_getElem_cons hlt, he]
  show ((delsE (delE L k) (zs.drop (i + 1))).1, c + ((if k ∈ ksE L then 1 else 0) + (delsE (delE L k) (zs.drop (i + 1))).2)) = _
  rw [Nat.add_assoc]
theorem delsE_end {V : Type} {L L0 : List (Ent V)} {zs : List Nat} {c : Nat} (h : delsE L0 zs = ((delsE L (zs.drop zs.length)).1, c + (delsE L (zs.drop zs.length)).2)) : delsE L0 zs = (L, c) := by
  rw [h, List.drop_length]
  rfl
theorem delsE_le {V : Type} : ∀ (zs : List Nat) (L : List (Ent V)), (delsE L zs).2 ≤ zs.length
  | [], _ => Nat.le_refl _
  | k :: r, L => by
    have := delsE_le r (delE L k)
    show (if k ∈ ksE L then 1 else 0) + (delsE (delE L k) r).2 ≤ r.length + 1
    split <;> omega
/-- Cells laid over others, from o on. -/
def spl (c : Array Value) : Nat → List Value → Array Value
  | _, [] => c
  | o, v :: r => spl (c.setIfInBounds o v) (o + 1) r
theorem spl_size : ∀ (vs : List Value) (c : Array Value) (o : Nat), (spl c o vs).size = c.size
  | [], _, _ => rfl
  | v :: r, c, o => by rw [spl, spl_size r, Array.size_setIfInBounds]
theorem spl_list : ∀ (vs : List Value) (c : Array Value) (o : Nat), o + vs.length ≤ c.size → (spl c o vs).toList = c.toList.take o ++ vs ++ c.toList.drop (o + vs.length)
  | [], c, o, _ => by simp [spl]
  | v :: r, c, o, h => by
    have h2 : o + 1 + r.length ≤ (c.setIfInBounds o v).size := by rw [Array.size_setIfInBounds]; simp at h; omega
    have ho : o < c.toList.length := by simp at h ⊢; omega
    rw [spl, spl_list r _ _ h2, Array.toList_setIfInBounds, List.take_set, List.drop_set, if_pos (by omega), List.take_succ_eq_append_getElem ho, List.set_append_right _ _ (by rw [List.length_take]; exact Nat.min_le_left _ _), List.length_take,
      show o - min o c.toList.length = 0 by omega, List.length_cons, show o + 1 + r.length = o + (r.length + 1) by omega]
    simp
/-- A row moved on by two cells, two cells laid ahead of it. -/
theorem shift_list (l c q : List Value) (hq : q.length = 2) (hl : c.length + 2 ≤ l.length) (N : Nat) (hN : N = 2 + c.length) :
    (((l.take 2 ++ c ++ l.drop (2 + c.length)).take 0 ++ q ++ (l.take 2 ++ c ++ l.drop (2 + c.length)).drop (0 + q.length)).take N) = q ++ c := by
  have h1 : (l.take 2 ++ c ++ l.drop (2 + c.length)).drop (0 + q.length) = c ++ l.drop (2 + c.length) := by
    rw [hq, List.append_assoc]
    exact List.drop_left' (by rw [List.length_take]; omega)
  rw [h1, List.take_zero, List.nil_append, ← List.append_assoc]
  exact List.take_left' (by rw [List.length_append, hq, hN])
/-- Two cells ahead of a row, in new cells. -/
theorem fresh_list (l c q : List Value) (hq : q.length = 2) (_ : c.length + 2 ≤ l.length) (N : Nat) (hN : N = 2 + c.length) :
    (((l.take 0 ++ q ++ l.drop (0 + q.length)).take 2 ++ c ++ (l.take 0 ++ q ++ l.drop (0 + q.length)).drop (2 + c.length)).take N) = q ++ c := by
  have h1 : (l.take 0 ++ q ++ l.drop (0 + q.length)).take 2 = q := by
    rw [List.take_zero, List.nil_append]
    exact List.take_left' hq
  rw [h1]
  exact List.take_left' (by rw [List.length_append, hq, hN])
/-- A row without two cells in its middle. -/
theorem cut_list (A Y Z R z : List Value) (_ : Y.length = 2) (_ : z.length = 2) (N : Nat) (hN : N = A.length + Z.length) :
    ((((A ++ Y ++ Z ++ R).take A.length ++ Z ++ (A ++ Y ++ Z ++ R).drop (A.length + Z.length)).take (A.length + Z.length) ++ z ++ ((A ++ Y ++ Z ++ R).take A.length ++ Z ++ (A ++ Y ++ Z ++ R).drop (A.length + Z.length)).drop (A.length + Z.length + z.length)).take N) = A ++ Z := by
  have h1 : (A ++ Y ++ Z ++ R).take A.length = A := by
    rw [List.append_assoc, List.append_assoc]
    exact List.take_left' rfl
  have h2 : (A ++ Z ++ (A ++ Y ++ Z ++ R).drop (A.length + Z.length)).take (A.length + Z.length) = A ++ Z := List.take_left' (by rw [List.length_append])
  rw [h1, h2, List.append_assoc (A ++ Z)]
  exact List.take_left' (by rw [List.length_append, hN])
end Go.Proofs.Ytaccfjlpojglpaa
