/-
  An order of keys of int: what a key and its touch lie as in the map; the map as a list of touches; an order in memory.
-/
import Derived.Test.YtediabcgeghogaaOrP
import Derived.Test.YtediabcgeghogaaBaseT
import Derived.Maps.RangeWalk
import Derived.DeepKeys4
namespace Go.Proofs.Ytediabcgeghogaa.oI
open Go.RowKit Go.Maps

abbrev K := Int
abbrev kv (k : K) : Value := .int .i64 k
def wfK (k : K) : Prop := (Lit.int .i64 k).wf = true
abbrev pv (k : K) : Value := .agg #[kv k, .bool false]
abbrev rv (k : K) (x : Int) : Value := .agg #[kv k, .int .u64 x]
def kl (k : K) : Lit := .string (keyBytes [.int .i64 k, .bool false])
abbrev k0 : K := 0

theorem types_size : ∃ n, Try.prog.types.size = n + 1 := ⟨Try.prog.types.size - 1, by have : 0 < Try.prog.types.size := of_decide_eq_true (by kernel_rfl); omega⟩
theorem keyTy : Try.prog.keyType 59 = true := by kernel_rfl
theorem cellsTy : Try.prog.cellsOf 59 = 2 := by kernel_rfl
theorem cellsK : Try.prog.cellsOf 3 = 1 := by kernel_rfl
theorem cellsB : Try.prog.cellsOf 4 = 1 := by kernel_rfl
theorem law : Keyed Try.prog 59 := Keyed.of_law (deep_law_laid laidOut (m := 3) (by omega) (of_decide_eq_true (by kernel_rfl)) (by kernel_rfl) (by kernel_rfl))
theorem key_of {k : K} (h : wfK k) : keyOf Try.prog 59 (pv k) = some (kl k) := by
  obtain ⟨n, hn⟩ := types_size
  unfold wfK at h
  have hf : (pv k).formed Try.prog 59 = true := by simp [Value.formed, Try.underlying59, cellsTy]
  unfold keyOf
  rw [hn]
  simp [Try.underlying59, keyTy, hf, Program.keyLits, cellsTy, cellsK, cellsB, Value.cells, Try.underlying3, Try.underlying4, h, kl]
theorem kl_inj {k k' : K} (h : wfK k) (h' : wfK k') (e : kl k = kl k') : k = k' := by
  have := law.inj (key_of h) (e ▸ key_of h')
  simpa using this
theorem zeroR (w : World) : (zeroValue 62).run Try.prog w = .ok (rv k0 0) w := by kernel_rfl

/-- How an element of the map reads: as itself. -/
def rd (v : Value) : Option (DataW Value × List MemPlace) :=
  match v with
  | .agg cs => match cs.toList with
    | [.int .i64 _, .int .u64 _] => some (.held v, [])
    | _ => none
  | _ => none
theorem rd_mk (k : K) (x : Int) : rd (rv k x) = some (.held (rv k x), []) := rfl
theorem rd_inv {v : Value} {y : DataW Value × List MemPlace} (h : rd v = some y) : ∃ c : K × Int, v = rv c.1 c.2 := by
  unfold rd at h
  split at h
  · rename_i cs
    split at h
    · rename_i k x e
      exact ⟨(k, x), by rw [← Array.toArray_toList (xs := cs), e]⟩
    · cases h
  · cases h

/-- A key with its touch. -/
abbrev Ent := Tch K

/-- The map's reading D holds just the keys of L, each with its touch. -/
structure Vw (D : DataW Value) (L : List Ent) : Prop where
  tidy : Tidy D
  mem : ∀ e ∈ L, wfK e.k ∧ ∀ z, D.atKey (kl e.k) z = .held (rv e.k (e.t : Int))
  all : ∀ l, has D l = true → ∃ e ∈ L, l = kl e.k
  nd : (L.map (·.k)).Nodup
  sz : size D = L.length

theorem is_key (k : K) : WideAt.IsKeyLit (kl k) := trivial
theorem Vw.empty : Vw (.map []) [] := ⟨tidy_empty, by simp, fun l h => by simp [has] at h, by simp, rfl⟩
theorem Vw.has {D : DataW Value} {L : List Ent} (h : Vw D L) {e : Ent} (he : e ∈ L) : Maps.has D (kl e.k) = true := has_true_of_atKey (h.mem e he).2
theorem Vw.hasNot {D : DataW Value} {L : List Ent} (h : Vw D L) {k : K} (hk : wfK k) (hno : ∀ e ∈ L, e.k ≠ k) : Maps.has D (kl k) = false := by
  cases hh : Maps.has D (kl k) with
  | false => rfl
  | true =>
    obtain ⟨e, he, e1⟩ := h.all _ hh
    exact absurd (kl_inj hk (h.mem e he).1 e1).symm (hno e he)
theorem Vw.del {D : DataW Value} {L : List Ent} (h : Vw D L) {k : K} (hk : wfK k) : Vw (D.del (kl k)) (wo L k) := by
  refine ⟨h.tidy.del _, fun x hx => ?_, fun l hl => ?_, wo_nodup h.nd k, ?_⟩
  · obtain ⟨hx, hne⟩ := mem_wo.1 hx
    refine ⟨(h.mem x hx).1, fun z => ?_⟩
    rw [atKey_del_other (fun e1 => hne (kl_inj (h.mem x hx).1 hk e1))]
    exact (h.mem x hx).2 z
  · by_cases e1 : l = kl k
    · rw [e1, has_del_same] at hl; cases hl
    · rw [has_del_other e1] at hl
      obtain ⟨x, hx, e2⟩ := h.all l hl
      exact ⟨x, mem_wo.2 ⟨hx, fun e3 => e1 (by rw [e2, e3])⟩, e2⟩
  · have := size_del (k := kl k) h.tidy
    rw [h.sz] at this
    by_cases hin : ∃ e ∈ L, e.k = k
    · obtain ⟨e, he, rfl⟩ := hin
      rw [h.has he] at this
      have := wo_in h.nd he
      simp at *
      omega
    · have hno : ∀ e ∈ L, e.k ≠ k := fun e he e1 => hin ⟨e, he, e1⟩
      rw [h.hasNot hk hno] at this
      rw [wo_not hno]
      simpa using this
theorem Vw.put {D : DataW Value} {L : List Ent} (h : Vw D L) (e : Ent) (hk : wfK e.k) : Vw (D.put (kl e.k) (.held (rv e.k (e.t : Int)))) (wo L e.k ++ [e]) := by
  refine ⟨h.tidy.put (is_key _) _, fun x hx => ?_, fun l hl => ?_, wo_snoc_nodup h.nd e, ?_⟩
  · rcases List.mem_append.1 hx with hx | hx
    · obtain ⟨hx, hne⟩ := mem_wo.1 hx
      refine ⟨(h.mem x hx).1, fun z => ?_⟩
      rw [atKey_put_other (fun e1 => hne (kl_inj (h.mem x hx).1 hk e1))]
      exact (h.mem x hx).2 z
    · obtain rfl : x = e := by simpa using hx
      exact ⟨hk, fun z => atKey_put_same h.tidy.isMap (is_key _) _ z⟩
  · by_cases e1 : l = kl e.k
    · exact ⟨e, by simp, e1⟩
    · rw [has_put_other e1] at hl
      obtain ⟨x, hx, e2⟩ := h.all l hl
      exact ⟨x, List.mem_append.2 (.inl (mem_wo.2 ⟨hx, fun e3 => e1 (by rw [e2, e3])⟩)), e2⟩
  · rw [size_put h.tidy, h.sz]
    by_cases hin : ∃ x ∈ L, x.k = e.k
    · obtain ⟨x, hx, e1⟩ := hin
      have := wo_in h.nd hx
      rw [e1] at this
      have hh := h.has hx
      rw [e1] at hh
      rw [hh]
      simp
      omega
    · have hno : ∀ x ∈ L, x.k ≠ e.k := fun x hx e1 => hin ⟨x, hx, e1⟩
      rw [h.hasNot hk hno, wo_not hno]
      simp

/-- An order: the struct in block R, the map in block M; L: its touches, rising, of n so far. -/
structure OR (w : World) (R M room n : Nat) (L : List Ent) : Prop where
  c0 : w.cell? ⟨R, 0, none⟩ = some (.int .i64 (room : Int))
  c1 : w.cell? ⟨R, 1, none⟩ = some (.int .u64 (n : Int))
  c2 : w.cell? ⟨R, 2, none⟩ = some (.map (some M))
  f1 : w.frozen? ⟨R, 1, none⟩ = false
  own : ∃ D, w.ownsMap Try.prog 59 rd M L.length D ∧ Vw D L
  ris : Ris n L
  hr : 1 ≤ room ∧ room ≤ 64
  hl : L.length ≤ room

theorem own_tight {w : World} {M n : Nat} {D : DataW Value} (h : w.ownsMap Try.prog 59 rd M n D) : w.ownsMap Try.prog 59 rd M (size D) D := by
  obtain ⟨es, clock, hb, F, _, hD⟩ := h
  exact ⟨es, clock, hb, F, by rw [hD]; simp [size, length_sorted], hD⟩
theorem own_chm {w w' : World} {S : List Nat} {M n : Nat} {D : DataW Value} (h : w.ownsMap Try.prog 59 rd M n D) (hc : Ch S w w') (hM : M ∉ S) : w'.ownsMap Try.prog 59 rd M n D := by
  have hlt := h.lt
  obtain ⟨es, clock, hb, r⟩ := h
  exact ⟨es, clock, (hc.block M hlt hM).trans hb, r⟩
theorem OR.ne {w : World} {R M room n : Nat} {L : List Ent} (h : OR w R M room n L) : R ≠ M := by
  intro e1
  subst e1
  obtain ⟨D, ⟨es, clock, hb, _⟩, _⟩ := h.own
  have := h.c0
  simp [World.cell?, hb] at this
theorem OR.lt {w : World} {R M room n : Nat} {L : List Ent} (h : OR w R M room n L) : R < w.heap.size ∧ M < w.heap.size := by
  obtain ⟨D, ho, _⟩ := h.own
  exact ⟨cell_lt h.c0, ho.lt⟩
theorem OR.ch {w w' : World} {S : List Nat} {R M room n : Nat} {L : List Ent} (h : OR w R M room n L) (hc : Ch S w w') (hR : R ∉ S) (hM : M ∉ S) : OR w' R M room n L := by
  obtain ⟨D, ho, hv⟩ := h.own
  exact ⟨(hc.cell (p := ⟨R, 0, none⟩) (cell_lt h.c0) hR).trans h.c0, (hc.cell (p := ⟨R, 1, none⟩) (cell_lt h.c1) hR).trans h.c1, (hc.cell (p := ⟨R, 2, none⟩) (cell_lt h.c2) hR).trans h.c2,
    (hc.frozen (p := ⟨R, 1, none⟩) (cell_lt h.c1) hR).trans h.f1, ⟨D, own_chm ho hc hM, hv⟩, h.ris, h.hr, h.hl⟩
theorem OR.quiet {w w' : World} {R M room n : Nat} {L : List Ent} (h : OR w R M room n L) (hc : Ch [] w w') : OR w' R M room n L := h.ch hc (by simp) (by simp)
end Go.Proofs.Ytediabcgeghogaa.oI
