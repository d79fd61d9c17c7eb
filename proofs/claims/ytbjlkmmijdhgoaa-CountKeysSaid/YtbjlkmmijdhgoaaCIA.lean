/-
  Counts by keys of int: what a key and a count lie as in the map; the map as a list of keys with their counts.
-/
import Derived.Test.YtbjlkmmijdhgoaaCoA
import Derived.Test.YtbjlkmmijdhgoaaBaseT
import Derived.Maps.RangeWalk
import Derived.DeepKeys4
namespace Go.Proofs.Ytbjlkmmijdhgoaa.cI
open Go.RowKit Go.Maps

abbrev K := Int
abbrev kv (k : K) : Value := .int .i64 k
def wfK (k : K) : Prop := (Lit.int .i64 k).wf = true
abbrev pv (k : K) : Value := .agg #[kv k, .bool false]
abbrev rv (p : Option Addr) (k : K) : Value := .agg #[.pointer p, kv k]
def kl (k : K) : Lit := .string (keyBytes [.int .i64 k, .bool false])
abbrev k0 : K := 0

theorem types_size : ∃ n, Try.prog.types.size = n + 1 := ⟨Try.prog.types.size - 1, by have : 0 < Try.prog.types.size := of_decide_eq_true (by kernel_rfl); omega⟩
theorem keyTy : Try.prog.keyType 83 = true := by kernel_rfl
theorem cellsTy : Try.prog.cellsOf 83 = 2 := by kernel_rfl
theorem cellsK : Try.prog.cellsOf 3 = 1 := by kernel_rfl
theorem cellsB : Try.prog.cellsOf 4 = 1 := by kernel_rfl
theorem law : Keyed Try.prog 83 := Keyed.of_law (deep_law_laid laidOut (m := 3) (by omega) (of_decide_eq_true (by kernel_rfl)) (by kernel_rfl) (by kernel_rfl))
theorem key_of {k : K} (h : wfK k) : keyOf Try.prog 83 (pv k) = some (kl k) := by
  obtain ⟨n, hn⟩ := types_size
  unfold wfK at h
  have hf : (pv k).formed Try.prog 83 = true := by simp [Value.formed, Try.underlying83, cellsTy]
  unfold keyOf
  rw [hn]
  simp [Try.underlying83, keyTy, hf, Program.keyLits, cellsTy, cellsK, cellsB, Value.cells, Try.underlying3, Try.underlying4, h, kl]
theorem kl_inj {k k' : K} (h : wfK k) (h' : wfK k') (e : kl k = kl k') : k = k' := by
  have := law.inj (key_of h) (e ▸ key_of h')
  simpa using this
theorem key_inv {v : Value} {k : K} (hk : wfK k) (h : keyOf Try.prog 83 v = some (kl k)) : v = pv k := law.inj h (key_of hk)
theorem zeroR (w : World) : (zeroValue 79).run Try.prog w = .ok (rv none k0) w := by kernel_rfl

/-- How an element of the map reads: as itself. -/
def rd (v : Value) : Option (DataW Value × List MemPlace) :=
  match v with
  | .agg cs => match cs.toList with
    | [.pointer _, .int .i64 _] => some (.held v, [])
    | _ => none
  | _ => none
theorem rd_mk (p : Option Addr) (k : K) : rd (rv p k) = some (.held (rv p k), []) := rfl
theorem rd_inv {v : Value} {y : DataW Value × List MemPlace} (h : rd v = some y) : ∃ c : Option Addr × K, v = rv c.1 c.2 := by
  unfold rd at h
  split at h
  · rename_i cs
    split at h
    · rename_i p k e
      exact ⟨(p, k), by rw [← Array.toArray_toList (xs := cs), e]⟩
    · cases h
  · cases h

/-- A key with its count: where it lies, its number, whether it sticks. -/
structure Ent where
  k : K
  b : Nat
  n : Nat
  s : Bool

/-- The map's reading D holds just the keys of L, each with its count's place. -/
structure Vw (D : DataW Value) (L : List Ent) : Prop where
  tidy : Tidy D
  mem : ∀ e ∈ L, wfK e.k ∧ ∀ z, D.atKey (kl e.k) z = .held (rv (some ⟨e.b, 0, none⟩) e.k)
  all : ∀ l, has D l = true → ∃ e ∈ L, l = kl e.k
  nd : (L.map (·.k)).Nodup
  sz : size D = L.length

theorem is_key (k : K) : WideAt.IsKeyLit (kl k) := trivial
theorem Vw.empty : Vw (.map []) [] := ⟨tidy_empty, by simp, fun l h => by simp [has] at h, by simp, rfl⟩
theorem Vw.has {D : DataW Value} {L : List Ent} (h : Vw D L) {e : Ent} (he : e ∈ L) : Maps.has D (kl e.k) = true := has_true_of_atKey (h.mem e he).2
theorem Vw.hasNot {D : DataW Value} {L : List Ent} (h : Vw D L) {k : K} (hk : wfK k) (hno : ∀ e ∈ L, e.k ≠ k) : Maps.has D (kl k) = false := by
  cases hh : Maps.has D (kl k) with
  | false => rfl
  | true =>
    obtain ⟨e, he, e1⟩ := h.all _ hh
    exact absurd (kl_inj hk (h.mem e he).1 e1).symm (hno e he)
theorem Vw.perm {D : DataW Value} {L L' : List Ent} (h : Vw D L) (hp : L.Perm L') : Vw D L' :=
  ⟨h.tidy, fun e he => h.mem e (hp.mem_iff.2 he), fun l hl => by obtain ⟨e, he, e1⟩ := h.all l hl; exact ⟨e, hp.mem_iff.1 he, e1⟩, ((hp.map _).nodup_iff).1 h.nd, by rw [h.sz, hp.length_eq]⟩
theorem Vw.put {D : DataW Value} {L : List Ent} (h : Vw D L) (e : Ent) (hk : wfK e.k) (hno : ∀ x ∈ L, x.k ≠ e.k) : Vw (D.put (kl e.k) (.held (rv (some ⟨e.b, 0, none⟩) e.k))) (e :: L) := by
  have hn := h.hasNot hk hno
  refine ⟨h.tidy.put (is_key _) _, fun x hx => ?_, fun l hl => ?_, ?_, ?_⟩
  · rcases List.mem_cons.1 hx with rfl | hx
    · exact ⟨hk, fun z => atKey_put_same h.tidy.isMap (is_key _) _ z⟩
    · refine ⟨(h.mem x hx).1, fun z => ?_⟩
      rw [atKey_put_other (fun e1 => hno x hx (kl_inj (h.mem x hx).1 hk e1))]
      exact (h.mem x hx).2 z
  · by_cases e1 : l = kl e.k
    · exact ⟨e, by simp, e1⟩
    · rw [has_put_other e1] at hl
      obtain ⟨x, hx, e2⟩ := h.all l hl
      exact ⟨x, by simp [hx], e2⟩
  · rw [List.map_cons, List.nodup_cons]
    exact ⟨fun hm => by obtain ⟨x, hx, e1⟩ := List.mem_map.1 hm; exact hno x hx e1, h.nd⟩
  · rw [size_put h.tidy, hn, h.sz]; simp
theorem Vw.del {D : DataW Value} {A B : List Ent} {e : Ent} (h : Vw D (A ++ e :: B)) : Vw (D.del (kl e.k)) (A ++ B) := by
  have hsub : ∀ x, x ∈ A ++ B → x ∈ A ++ e :: B := fun x hx => by simp at hx ⊢; rcases hx with hx | hx <;> simp [hx]
  have hnd := h.nd
  rw [List.map_append, List.map_cons, List.nodup_append, List.nodup_cons] at hnd
  obtain ⟨n1, ⟨n2, n3⟩, n4⟩ := hnd
  have hne : ∀ x ∈ A ++ B, x.k ≠ e.k := fun x hx e1 => by
    rcases List.mem_append.1 hx with hx | hx
    · exact n4 x.k (List.mem_map.2 ⟨x, hx, rfl⟩) e.k (by simp) e1
    · exact n2 (List.mem_map.2 ⟨x, hx, e1⟩)
  have hh := h.has (e := e) (by simp)
  refine ⟨h.tidy.del _, fun x hx => ?_, fun l hl => ?_, ?_, ?_⟩
  · refine ⟨(h.mem x (hsub x hx)).1, fun z => ?_⟩
    rw [atKey_del_other (fun e1 => hne x hx (kl_inj (h.mem x (hsub x hx)).1 (h.mem e (by simp)).1 e1))]
    exact (h.mem x (hsub x hx)).2 z
  · by_cases e1 : l = kl e.k
    · rw [e1, has_del_same] at hl; cases hl
    · rw [has_del_other e1] at hl
      obtain ⟨x, hx, e2⟩ := h.all l hl
      refine ⟨x, ?_, e2⟩
      rcases List.mem_append.1 hx with hx | hx
      · simp [hx]
      · rcases List.mem_cons.1 hx with rfl | hx
        · exact absurd e2 e1
        · simp [hx]
  · rw [List.map_append, List.nodup_append]
    exact ⟨n1, n3, fun a ha b hb => n4 a ha b (by simp at hb ⊢; exact .inr hb)⟩
  · have := size_del (k := kl e.k) h.tidy
    rw [hh, h.sz] at this
    simp at this ⊢
    omega
theorem Vw.upd {D : DataW Value} {A B : List Ent} {e : Ent} (h : Vw D (A ++ e :: B)) (n : Nat) (s : Bool) : Vw D (A ++ ⟨e.k, e.b, n, s⟩ :: B) := by
  have hm : ∀ x, x ∈ A ++ ⟨e.k, e.b, n, s⟩ :: B → ∃ y ∈ A ++ e :: B, y.k = x.k ∧ y.b = x.b := fun x hx => by
    rcases List.mem_append.1 hx with hx | hx
    · exact ⟨x, by simp [hx], rfl, rfl⟩
    · rcases List.mem_cons.1 hx with rfl | hx
      · exact ⟨e, by simp, rfl, rfl⟩
      · exact ⟨x, by simp [hx], rfl, rfl⟩
  refine ⟨h.tidy, fun x hx => ?_, fun l hl => ?_, by simpa using h.nd, by rw [h.sz]; simp⟩
  · obtain ⟨y, hy, e1, e2⟩ := hm x hx
    rw [← e1, ← e2]
    exact h.mem y hy
  · obtain ⟨x, hx, e1⟩ := h.all l hl
    rcases List.mem_append.1 hx with hx | hx
    · exact ⟨x, by simp [hx], e1⟩
    · rcases List.mem_cons.1 hx with rfl | hx
      · exact ⟨⟨x.k, x.b, n, s⟩, by simp, e1⟩
      · exact ⟨x, by simp [hx], e1⟩

/-- Counts by keys: the struct in block R, the map in block M. -/
structure RF (w : World) (R M top : Nat) (L : List Ent) : Prop where
  c0 : w.cell? ⟨R, 0, none⟩ = some (.int .i64 (top : Int))
  c1 : w.cell? ⟨R, 1, none⟩ = some (.map (some M))
  own : ∃ D, w.ownsMap Try.prog 83 rd M L.length D ∧ Vw D L
  cnt : ∀ e ∈ L, Cnt w e.b e.n top e.s ∧ 1 ≤ e.n ∧ e.b ≠ R ∧ e.b ≠ M
  nd : (L.map (·.b)).Nodup
  ht : 1 ≤ top ∧ top ≤ 65535
  hl : L.length ≤ 64

theorem own_tight {w : World} {M n : Nat} {D : DataW Value} (h : w.ownsMap Try.prog 83 rd M n D) : w.ownsMap Try.prog 83 rd M (size D) D := by
  obtain ⟨es, clock, hb, F, _, hD⟩ := h
  exact ⟨es, clock, hb, F, by rw [hD]; simp [size, length_sorted], hD⟩
theorem own_ch {w w' : World} {S : List Nat} {M n : Nat} {D : DataW Value} (h : w.ownsMap Try.prog 83 rd M n D) (hc : Ch S w w') (hM : M ∉ S) : w'.ownsMap Try.prog 83 rd M n D := by
  have hlt := h.lt
  obtain ⟨es, clock, hb, r⟩ := h
  exact ⟨es, clock, (hc.block M hlt hM).trans hb, r⟩
theorem ch_turned {w w' : World} {M : Nat} (h : w.mapTurned w' M) : Ch [M] w w' := by
  have g := h.grown
  exact ⟨g.os, g.tape, g.output, g.size, fun k hk hn => g.block k hk (fun e => hn (by cases e; simp))⟩

theorem RF.ch {w w' : World} {S : List Nat} {R M top : Nat} {L : List Ent} (h : RF w R M top L) (hc : Ch S w w') (hR : R ∉ S) (hM : M ∉ S) (hL : ∀ e ∈ L, e.b ∉ S) : RF w' R M top L := by
  obtain ⟨D, ho, hv⟩ := h.own
  exact ⟨(hc.cell (p := ⟨R, 0, none⟩) (cell_lt h.c0) hR).trans h.c0, (hc.cell (p := ⟨R, 1, none⟩) (cell_lt h.c1) hR).trans h.c1, ⟨D, own_ch ho hc hM, hv⟩,
    fun e he => ⟨(h.cnt e he).1.ch hc (hL e he), (h.cnt e he).2⟩, h.nd, h.ht, h.hl⟩
theorem RF.quiet {w w' : World} {R M top : Nat} {L : List Ent} (h : RF w R M top L) (hc : Ch [] w w') : RF w' R M top L := h.ch hc (by simp) (by simp) (by simp)
theorem RF.perm {w : World} {R M top : Nat} {L L' : List Ent} (h : RF w R M top L) (hp : L.Perm L') : RF w R M top L' := by
  obtain ⟨D, ho, hv⟩ := h.own
  exact ⟨h.c0, h.c1, ⟨D, hp.length_eq ▸ ho, hv.perm hp⟩, fun e he => h.cnt e (hp.mem_iff.2 he), ((hp.map _).nodup_iff).1 h.nd, h.ht, by rw [← hp.length_eq]; exact h.hl⟩

/-- Where a key stands. -/
theorem in_or_not (L : List Ent) (k : K) : (∃ A B e, L = A ++ e :: B ∧ e.k = k) ∨ ∀ e ∈ L, e.k ≠ k := by
  induction L with
  | nil => exact .inr (by simp)
  | cons x t ih =>
    by_cases e1 : x.k = k
    · exact .inl ⟨[], t, x, rfl, e1⟩
    · rcases ih with ⟨A, B, e, e2, e3⟩ | h
      · exact .inl ⟨x :: A, B, e, by simp [e2], e3⟩
      · exact .inr (by simp only [List.mem_cons, forall_eq_or_imp]; exact ⟨e1, h⟩)
end Go.Proofs.Ytbjlkmmijdhgoaa.cI
