/-
  Several texts in one: An order of keys of uint64: what a key and its touch lie as in the map; the map as a list of touches; an order in memory. · An order of keys of uint64: a key's place, Has, Len, New; nil ones. · An order of keys of uint64: Drop.
-/
import Derived.Test.YtalhlopjaijhcaaGreatMgA
import Derived.Test.YtalhlopjaijhcaaGreatBaseT
import Derived.Maps.RangeWalk
import Derived.DeepKeys4
import Derived.Tactics
import Derived.Tactics2
import Derived.Defers
import Derived.Recover
import Derived.Laws.Pointers
namespace Go.Proofs.YtalhlopjaijhcaaGreat.oU
open Go.RowKit Go.Maps

abbrev K := Nat
abbrev kv (k : K) : Value := .int .u64 (k : Int)
def wfK (k : K) : Prop := (Lit.int .u64 (k : Int)).wf = true
abbrev pv (k : K) : Value := .agg #[kv k, .bool false]
abbrev rv (k : K) (x : Int) : Value := .agg #[kv k, .int .u64 x]
def kl (k : K) : Lit := .string (keyBytes [.int .u64 (k : Int), .bool false])
abbrev k0 : K := 0

theorem types_size : ∃ n, Tryz.prog.types.size = n + 1 := ⟨Tryz.prog.types.size - 1, by have : 0 < Tryz.prog.types.size := of_decide_eq_true (by kernel_rfl); omega⟩
theorem keyTy : Tryz.prog.keyType 165 = true := by kernel_rfl
theorem cellsTy : Tryz.prog.cellsOf 165 = 2 := by kernel_rfl
theorem cellsK : Tryz.prog.cellsOf 40 = 1 := by kernel_rfl
theorem cellsB : Tryz.prog.cellsOf 4 = 1 := by kernel_rfl
theorem law : Keyed Tryz.prog 165 := Keyed.of_law (deep_law_laid laidOut (m := 3) (by omega) (of_decide_eq_true (by kernel_rfl)) (by kernel_rfl) (by kernel_rfl))
theorem key_of {k : K} (h : wfK k) : keyOf Tryz.prog 165 (pv k) = some (kl k) := by
  obtain ⟨n, hn⟩ := types_size
  unfold wfK at h
  have hf : (pv k).formed Tryz.prog 165 = true := by simp [Value.formed, Tryz.underlying165, cellsTy]
  unfold keyOf
  rw [hn]
  simp [Tryz.underlying165, keyTy, hf, Program.keyLits, cellsTy, cellsK, cellsB, Value.cells, Tryz.underlying40, Tryz.underlying4, h, kl]
theorem kl_inj {k k' : K} (h : wfK k) (h' : wfK k') (e : kl k = kl k') : k = k' := by
  have := law.inj (key_of h) (e ▸ key_of h')
  have h2 : (k : Int) = (k' : Int) := by simpa using this
  exact Int.ofNat.inj h2
theorem zeroR (w : World) : (zeroValue 163).run Tryz.prog w = .ok (rv k0 0) w := by kernel_rfl

/-- How an element of the map reads: as itself. -/
def rd (v : Value) : Option (DataW Value × List MemPlace) :=
  match v with
  | .agg cs => match cs.toList with
    | [.int .u64 k, .int .u64 _] => if 0 ≤ k then some (.held v, []) else none
    | _ => none
  | _ => none
theorem rd_mk (k : K) (x : Int) : rd (rv k x) = some (.held (rv k x), []) := by simp [rd]
theorem rd_inv {v : Value} {y : DataW Value × List MemPlace} (h : rd v = some y) : ∃ c : K × Int, v = rv c.1 c.2 := by
  unfold rd at h
  split at h
  · rename_i cs
    split at h
    · rename_i k x e
      split at h
      · rename_i h0
        refine ⟨(k.toNat, x), ?_⟩
        rw [← Array.toArray_toList (xs := cs), e]
        show _ = Value.agg #[.int .u64 ((k.toNat : Nat) : Int), .int .u64 x]
        rw [Int.toNat_of_nonneg h0]
      · cases h
    · cases h
  · cases h

/-- A key with its touch. -/
abbrev Ent := Tch K

/-- The map's reading D holds just the keys of L, each with its touch. -/
structure Vw (D : DataW Value) (L : List Ent) : Prop where
  tidy : Tidy D
  mem : ∀ e ∈ L, wfK e.k ∧ ∀ z, D.atKey (kl e.k) z = .held (rv e.k (e.t : Int))
  all : ∀ l, has D l = true → ∃ e ∈ L, l = kl e.k
  nd : (L.map (·.k)).Nodup
  sz : size D = L.length

theorem is_key (k : K) : WideAt.IsKeyLit (kl k) := trivial
theorem Vw.empty : Vw (.map []) [] := ⟨tidy_empty, by simp, fun l h => by simp [has] at h, by simp, rfl⟩
theorem Vw.has {D : DataW Value} {L : List Ent} (h : Vw D L) {e : Ent} (he : e ∈ L) : Maps.has D (kl e.k) = true := has_true_of_atKey (h.mem e he).2
theorem Vw.hasNot {D : DataW Value} {L : List Ent} (h : Vw D L) {k : K} (hk : wfK k) (hno : ∀ e ∈ L, e.k ≠ k) : Maps.has D (kl k) = false := by
  cases hh : Maps.has D (kl k) with
  | false => rfl
  | true =>
    obtain ⟨e, he, e1⟩ := h.all _ hh
    exact absurd (kl_inj hk (h.mem e he).1 e1).symm (hno e he)
theorem Vw.del {D : DataW Value} {L : List Ent} (h : Vw D L) {k : K} (hk : wfK k) : Vw (D.del (kl k)) (wo L k) := by
  refine ⟨h.tidy.del _, fun x hx => ?_, fun l hl => ?_, wo_nodup h.nd k, ?_⟩
  · obtain ⟨hx, hne⟩ := mem_wo.1 hx
    refine ⟨(h.mem x hx).1, fun z => ?_⟩
    rw [atKey_del_other (fun e1 => hne (kl_inj (h.mem x hx).1 hk e1))]
    exact (h.mem x hx).2 z
  · by_cases e1 : l = kl k
    · rw [e1, has_del_same] at hl; cases hl
    · rw [has_del_other e1] at hl
      obtain ⟨x, hx, e2⟩ := h.all l hl
      exact ⟨x, mem_wo.2 ⟨hx, fun e3 => e1 (by rw [e2, e3])⟩, e2⟩
  · have := size_del (k := kl k) h.tidy
    rw [h.sz] at this
    by_cases hin : ∃ e ∈ L, e.k = k
    · obtain ⟨e, he, rfl⟩ := hin
      rw [h.has he] at this
      have := wo_in h.nd he
      simp at *
      omega
    · have hno : ∀ e ∈ L, e.k ≠ k := fun e he e1 => hin ⟨e, he, e1⟩
      rw [h.hasNot hk hno] at this
      rw [wo_not hno]
      simpa using this
theorem Vw.put {D : DataW Value} {L : List Ent} (h : Vw D L) (e : Ent) (hk : wfK e.k) : Vw (D.put (kl e.k) (.held (rv e.k (e.t : Int)))) (wo L e.k ++ [e]) := by
  refine ⟨h.tidy.put (is_key _) _, fun x hx => ?_, fun l hl => ?_, wo_snoc_nodup h.nd e, ?_⟩
  · rcases List.mem_append.1 hx with hx | hx
    · obtain ⟨hx, hne⟩ := mem_wo.1 hx
      refine ⟨(h.mem x hx).1, fun z => ?_⟩
      rw [atKey_put_other (fun e1 => hne (kl_inj (h.mem x hx).1 hk e1))]
      exact (h.mem x hx).2 z
    · obtain rfl : x = e := by simpa using hx
      exact ⟨hk, fun z => atKey_put_same h.tidy.isMap (is_key _) _ z⟩
  · by_cases e1 : l = kl e.k
    · exact ⟨e, by simp, e1⟩
    · rw [has_put_other e1] at hl
      obtain ⟨x, hx, e2⟩ := h.all l hl
      exact ⟨x, List.mem_append.2 (.inl (mem_wo.2 ⟨hx, fun e3 => e1 (by rw [e2, e3])⟩)), e2⟩
  · rw [size_put h.tidy, h.sz]
    by_cases hin : ∃ x ∈ L, x.k = e.k
    · obtain ⟨x, hx, e1⟩ := hin
      have := wo_in h.nd hx
      rw [e1] at this
      have hh := h.has hx
      rw [e1] at hh
      rw [hh]
      simp
      omega
    · have hno : ∀ x ∈ L, x.k ≠ e.k := fun x hx e1 => hin ⟨x, hx, e1⟩
      rw [h.hasNot hk hno, wo_not hno]
      simp

/-- An order: the struct in block R, the map in block M; L: its touches, rising, of n so far. -/
structure OR (w : World) (R M room n : Nat) (L : List Ent) : Prop where
  blk : w.heap[R]? = some (.cells #[.int .i64 (room : Int), .int .u64 (n : Int), .map (some M)] 138 (0, 0))
  own : ∃ D, w.ownsMap Tryz.prog 165 rd M L.length D ∧ Vw D L
  ris : Ris n L
  hr : 1 ≤ room ∧ room ≤ 64
  hl : L.length ≤ room
section
variable {w : World} {R M room n : Nat} {L : List Ent}
theorem OR.c0 (h : OR w R M room n L) : w.cell? ⟨R, 0, none⟩ = some (.int .i64 (room : Int)) := by rw [(cell_plain h.blk 0).1]; rfl
theorem OR.c1 (h : OR w R M room n L) : w.cell? ⟨R, 1, none⟩ = some (.int .u64 (n : Int)) := by rw [(cell_plain h.blk 1).1]; rfl
theorem OR.c2 (h : OR w R M room n L) : w.cell? ⟨R, 2, none⟩ = some (.map (some M)) := by rw [(cell_plain h.blk 2).1]; rfl
theorem OR.f1 (h : OR w R M room n L) : w.frozen? ⟨R, 1, none⟩ = false := (cell_plain h.blk 1).2
end

theorem own_tight {w : World} {M n : Nat} {D : DataW Value} (h : w.ownsMap Tryz.prog 165 rd M n D) : w.ownsMap Tryz.prog 165 rd M (size D) D := by
  obtain ⟨es, clock, hb, F, _, hD⟩ := h
  exact ⟨es, clock, hb, F, by rw [hD]; simp [size, length_sorted], hD⟩
theorem own_chm {w w' : World} {S : List Nat} {M n : Nat} {D : DataW Value} (h : w.ownsMap Tryz.prog 165 rd M n D) (hc : Ch S w w') (hM : M ∉ S) : w'.ownsMap Tryz.prog 165 rd M n D := by
  have hlt := h.lt
  obtain ⟨es, clock, hb, r⟩ := h
  exact ⟨es, clock, (hc.block M hlt hM).trans hb, r⟩
theorem OR.isMap {w : World} {R M room n : Nat} {L : List Ent} (h : OR w R M room n L) : ∃ es clock, w.heap[M]? = some (.map es clock) := by
  obtain ⟨D, ⟨es, clock, hb, _⟩, _⟩ := h.own
  exact ⟨_, _, hb⟩
theorem OR.ne {w : World} {R M room n : Nat} {L : List Ent} (h : OR w R M room n L) : R ≠ M := by
  intro e1
  subst e1
  obtain ⟨es, clock, hb⟩ := h.isMap
  rw [h.blk] at hb
  cases hb
theorem OR.lt {w : World} {R M room n : Nat} {L : List Ent} (h : OR w R M room n L) : R < w.heap.size ∧ M < w.heap.size := by
  obtain ⟨D, ho, _⟩ := h.own
  exact ⟨(Array.getElem?_eq_some_iff.1 h.blk).1, ho.lt⟩
theorem OR.blocks {w w' : World} {R M room n : Nat} {L : List Ent} (h : OR w R M room n L) (hR : w'.heap[R]? = w.heap[R]?) (hM : w'.heap[M]? = w.heap[M]?) : OR w' R M room n L := by
  obtain ⟨D, ⟨es, clock, hb, r⟩, hv⟩ := h.own
  exact ⟨hR.trans h.blk, ⟨D, ⟨es, clock, hM.trans hb, r⟩, hv⟩, h.ris, h.hr, h.hl⟩
theorem OR.ch {w w' : World} {S : List Nat} {R M room n : Nat} {L : List Ent} (h : OR w R M room n L) (hc : Ch S w w') (hR : R ∉ S) (hM : M ∉ S) : OR w' R M room n L :=
  h.blocks (hc.block R h.lt.1 hR) (hc.block M h.lt.2 hM)
theorem OR.quiet {w w' : World} {R M room n : Nat} {L : List Ent} (h : OR w R M room n L) (hc : Ch [] w w') : OR w' R M room n L := h.ch hc (by simp) (by simp)
end Go.Proofs.YtalhlopjaijhcaaGreat.oU

namespace Go.Proofs.YtalhlopjaijhcaaGreat.oU
open Go.RowKit Go.Maps

attribute [local go_sem] Oper.semAt_some

theorem idle_any (p : Addr) (w : World) :
    CallsD Tryz.prog 135 #[.pointer (some p)] .returning w fun e u' w' => e = .returned (.tuple #[]) ∧ u' = .returning ∧ w' = w := by
  refine callsD_of_wpS Tryz.func135 rfl fun c₀ cs hu => ?_
  apply wpS_seq
  apply wpS_region
  simp [wpOpsS, go_sem, recoverD, hu, Tryz.ntmps135, Exit.thenS]
  refine wpS_cond (t := false) (by simp [Act.eval, Array.replicate]) ?_
  simp only [Bool.false_eq_true, if_false]
  refine wpS_of_wp (wp_skip ?_)
  cases c₀
  simp_all [bodyPostS, results, Tryz.results135]

theorem like_any (k : K) (w : World) : Calls Tryz.prog 118 #[kv k] w fun e w' => e = .returned (.bool true) ∧ w' = w.alloc (.cells #[.bool true] 4) := by
  have hmf : ∀ (fn : Fn) (first cap : Array Value) (w : World), (Instr.makeFunc fn first cap).run Tryz.prog w = .ok (.func fn first cap) w := fun _ _ _ _ => rfl
  go_enter_defers Tryz.func118, Tryz.ntmps118
  go_wp2
  refine leaves_cons (f := 135) (args := #[.pointer (some ⟨w.heap.size, 0, none⟩)]) (by simp) (by simp [go_sem]) ?_
  refine (idle_any ⟨w.heap.size, 0, none⟩ _).mono ?_
  rintro e u' w'' ⟨rfl, rfl, rfl⟩
  simp [Leaves, settle, results, Tryz.results118, go_sem]

theorem place_any (k : K) (w : World) : Calls Tryz.prog 87 #[kv k] w fun e w' => e = .returned (pv k) ∧ w' = (w.alloc (.cells #[kv k, .bool false] 165)).alloc (.cells #[.bool true] 4) := by
  go_enter Tryz.func87, Tryz.ntmps87
  go_wp2_with (first | (with_reducible refine (like_any k _).mono ?_; rintro e w2 ⟨rfl, rfl⟩) | fail)
  refine bodyPost_ret (v := pv k) ?_ rfl ?_
  · simp [results, Tryz.f87, go_sem]
  · exact ⟨rfl, rfl⟩

set_option maxRecDepth 100000 in
set_option maxHeartbeats 1000000 in
/-- Has, by what the map tells. -/
theorem has_run (R M : Nat) (k k' : K) (x : Int) (ok : Bool) (w : World) (hc : w.cell? ⟨R, 2, none⟩ = some (.map (some M)))
    (hrun : ∀ W, Ch [] w W → (Instr.lookup 136 (.map (some M)) (pv k) true).run Tryz.prog W = .ok (.tuple #[rv k' x, .bool ok]) W) :
    Calls Tryz.prog 86 #[.pointer (some ⟨R, 0, none⟩), kv k] w fun e w' => e = .returned (.bool ok) ∧ Ch [] w w' := by
  obtain ⟨A, hA⟩ : ∃ A : Obj, A = .cells #[.int .u64 0, .int .u64 0] 163 := ⟨_, rfl⟩
  obtain ⟨B, hB⟩ : ∃ B : Obj, B = .cells #[kv k, .bool false] 165 := ⟨_, rfl⟩
  obtain ⟨C, hC⟩ : ∃ C : Obj, C = .cells #[.bool true] 4 := ⟨_, rfl⟩
  have h1 := hrun ((w.alloc B).alloc C).drew (((Ch.refl _ _).alloc _).alloc _).drew
  have h2 := hrun (((w.alloc A).alloc B).alloc C).drew ((((Ch.refl _ _).alloc _).alloc _).alloc _).drew
  have h3 := hrun (((w.alloc B).alloc C).alloc A).drew ((((Ch.refl _ _).alloc _).alloc _).alloc _).drew
  have hcR : ∀ W : World, Ch [] w W → W.cell? ⟨R, 2, none⟩ = some (.map (some M)) := fun W h => (h.cell (p := ⟨R, 2, none⟩) (cell_lt hc) (by simp)).trans hc
  have g0 := hcR (w.alloc A) ((Ch.refl _ _).alloc _)
  have g1 := hcR ((w.alloc B).alloc C) (((Ch.refl _ _).alloc _).alloc _)
  have g2 := hcR (((w.alloc A).alloc B).alloc C) ((((Ch.refl _ _).alloc _).alloc _).alloc _)
  have g3 := hcR (((w.alloc B).alloc C).alloc A) ((((Ch.refl _ _).alloc _).alloc _).alloc _)
  rw [hA] at g0
  rw [hA, hB, hC] at h2 h3 g2 g3
  rw [hB, hC] at h1 g1
  clear hA hB hC hrun hcR
  go_enter Tryz.func86, Tryz.ntmps86
  go_wp2_with fail
  go_region_with (go_at_call 87; refine (place_any k _).mono ?_; rintro e w' ⟨rfl, rfl⟩)
  all_goals clear h1 h2 h3 g0 g1 g2 g3
  all_goals go_wp2
  all_goals go_ret
  all_goals
    refine ⟨rfl, ?_⟩
    repeat (first | exact Ch.refl _ _ | apply Ch.drew | apply Ch.alloc)

theorem has_nil (k : K) (w : World) : Calls Tryz.prog 86 #[.pointer none, kv k] w fun e w' => e = .returned (.bool false) ∧ w' = w := by
  go_enter Tryz.func86, Tryz.ntmps86
  go_wp2
  go_ret
  exact ⟨rfl, rfl⟩
theorem has_any {w : World} {R M room n : Nat} {L : List Ent} (h : OR w R M room n L) {k : K} (hk : wfK k) :
    Calls Tryz.prog 86 #[.pointer (some ⟨R, 0, none⟩), kv k] w fun e w' => e = .returned (.bool (decide (k ∈ ks L))) ∧ Ch [] w w' := by
  obtain ⟨D, ho, hv⟩ := h.own
  by_cases hin : ∃ e ∈ L, e.k = k
  · obtain ⟨e, he, rfl⟩ := hin
    have hd : decide (e.k ∈ ks L) = true := decide_eq_true (List.mem_map.2 ⟨e, he, rfl⟩)
    rw [hd]
    refine has_run R M e.k e.k (e.t : Int) true w h.c2 (fun W hc => ?_)
    obtain ⟨v, ps, hrun, hv2⟩ := (own_chm ho hc (by simp)).look_ok law Tryz.underlying136 (zeroR W) (rd_mk k0 0) (key_of hk)
    rw [hv.has he, (hv.mem e he).2] at *
    obtain ⟨c, rfl⟩ := rd_inv hv2
    rw [rd_mk] at hv2
    have e2 : rv c.1 c.2 = rv e.k (e.t : Int) := by have := hv2; simp at this ⊢; exact this.1
    rw [e2] at hrun
    exact hrun
  · have hno : ∀ e ∈ L, e.k ≠ k := fun e he e1 => hin ⟨e, he, e1⟩
    have hd : decide (k ∈ ks L) = false := decide_eq_false (fun hm => by obtain ⟨e, he, e1⟩ := List.mem_map.1 hm; exact hno e he e1)
    rw [hd]
    refine has_run R M k k0 0 false w h.c2 (fun W hc => ?_)
    obtain ⟨v, ps, hrun, hv2⟩ := (own_chm ho hc (by simp)).look_ok law Tryz.underlying136 (zeroR W) (rd_mk k0 0) (key_of hk)
    have hn := hv.hasNot hk hno
    rw [hn] at hrun
    rw [atKey_of_not_has hn] at hv2
    obtain ⟨c, rfl⟩ := rd_inv hv2
    rw [rd_mk] at hv2
    have e2 : rv c.1 c.2 = rv k0 0 := by have := hv2; simp at this ⊢; exact this.1
    rw [e2] at hrun
    exact hrun

theorem len_nil (w : World) : Calls Tryz.prog 75 #[.pointer none] w fun e w' => e = .returned (.int .i64 0) ∧ w' = w := by
  go_enter Tryz.func75, Tryz.ntmps75
  go_wp2
  go_ret
  exact ⟨rfl, rfl⟩
theorem len_any {w : World} {R M room n : Nat} {L : List Ent} (h : OR w R M room n L) : Calls Tryz.prog 75 #[.pointer (some ⟨R, 0, none⟩)] w fun e w' => e = .returned (.int .i64 (L.length : Int)) ∧ w' = w := by
  obtain ⟨D, ho, hv⟩ := h.own
  have c2 := h.c2
  have HSz := Lib.hid hv.sz
  obtain ⟨m, hm⟩ : ∃ m, m = L.length := ⟨_, rfl⟩
  rw [← hm] at ho HSz ⊢
  clear h hv hm
  go_enter Tryz.func75, Tryz.ntmps75
  go_wp2_with (first | (at_len; refine wpList_len_own _ rfl _ 136 rfl 165 163 Tryz.underlying136 _ M m D rfl ho ?_) | fail)
  go_ret
  exact ⟨by rw [HSz.out]; rfl, rfl⟩

theorem new_bad (room : Int) (w : World) (h : room < 1 ∨ 64 < room) : Calls Tryz.prog 37 #[.int .i64 room] w fun r w' => r = .returned (.tuple #[.pointer none, .int .i64 2]) ∧ w' = w := by
  by_cases h0 : room < 1
  · have hd1 : decide (room < 1) = true := by simpa using h0
    clear h
    go_enter Tryz.func37, Tryz.ntmps37
    go_wp2
    go_ret2
    exact ⟨rfl, rfl⟩
  · have hd1 : decide (room < 1) = false := by simpa using h0
    have hd2 : decide (64 < room) = true := by simp; omega
    clear h
    go_enter Tryz.func37, Tryz.ntmps37
    go_wp2
    go_ret2
    exact ⟨rfl, rfl⟩

theorem new_ok (room : Nat) (w : World) (S : Nat) (hS : w.heap.size = S) (h1 : 1 ≤ room) (h2 : room ≤ 64) :
    Calls Tryz.prog 37 #[.int .i64 (room : Int)] w fun r w' => r = .returned (.tuple #[.pointer (some ⟨S + 1, 0, none⟩), .int .i64 0]) ∧ OR w' (S + 1) S room 0 [] ∧ Ch [] w w' ∧ w'.heap.size = S + 2 := by
  have HO := Lib.hid (World.ownsMap_made w Tryz.prog 165 rd)
  obtain ⟨w1, hw1⟩ : ∃ w1, w1 = w.alloc (.map #[] 0) := ⟨_, rfl⟩
  have hz1 : w1.heap.size = S + 1 := by rw [hw1]; simp [hS]
  have hc1 : Ch [] w w1 := by rw [hw1]; exact (Ch.refl [] w).alloc _
  obtain ⟨T, hT⟩ : ∃ T : Int, T = (room : Int) := ⟨_, rfl⟩
  have HC := Lib.hid (hc1.alloc (.cells #[.int .i64 T, .int .u64 0, .map (some S)] 138))
  have HZ := Lib.hid (show (w1.alloc (.cells #[.int .i64 T, .int .u64 0, .map (some S)] 138)).heap.size = S + 2 by simp [hz1])
  have HB := Lib.hid (show (w1.alloc (.cells #[.int .i64 T, .int .u64 0, .map (some S)] 138)).heap[S + 1]? = some (.cells #[.int .i64 T, .int .u64 0, .map (some S)] 138 (0, 0)) by
    rw [← hz1]
    exact World.alloc_heap_new w1 _)
  rw [← hw1, hS] at HO
  have HOB := Lib.hid (own_chm HO.out ((Ch.refl [] w1).alloc (.cells #[.int .i64 T, .int .u64 0, .map (some S)] 138)) (by simp))
  rw [hw1] at HB HC HZ HOB
  have HS := Lib.hid hS
  have hd1 : decide (T < 1) = false := by simp; omega
  have hd2 : decide (64 < T) = false := by simp; omega
  rw [← hT]
  have HT := Lib.hid hT
  have hmm := @run_makeMap Tryz.prog
  clear hS hz1 hc1 hw1 HO hT
  go_enter Tryz.func37, Tryz.ntmps37
  go_wp2
  go_ret2
  rw [HS.out]
  exact ⟨rfl, ⟨by rw [← HT.out]; exact HB.out, ⟨_, HOB.out, Vw.empty⟩, .nil 0, ⟨h1, h2⟩, by simp⟩, HC.out, HZ.out⟩
end Go.Proofs.YtalhlopjaijhcaaGreat.oU

namespace Go.Proofs.YtalhlopjaijhcaaGreat.oU
open Go.RowKit Go.Maps

attribute [local go_sem] Oper.semAt_some

theorem ch_turned {w w' : World} {M : Nat} (h : w.mapTurned w' M) : Ch [M] w w' := by
  have g := h.grown
  exact ⟨g.os, g.tape, g.output, g.size, fun k hk hn => g.block k hk (fun e => hn (by cases e; simp))⟩
theorem ks_mem {L : List Ent} {k : K} : k ∈ ks L ↔ ∃ e ∈ L, e.k = k := List.mem_map

theorem drop_nil (k : K) (w : World) : Calls Tryz.prog 95 #[.pointer none, kv k] w fun e w' => e = .returned (.bool false) ∧ w' = w := by
  go_enter Tryz.func95, Tryz.ntmps95
  go_wp2_with fail
  with_reducible refine (has_nil k _).mono ?_
  rintro e w' ⟨rfl, rfl⟩
  go_wp2_with fail
  go_ret
  exact ⟨rfl, rfl⟩

theorem drop_not {w : World} {R M room n : Nat} {L : List Ent} (h : OR w R M room n L) {k : K} (hk : wfK k) (hno : ¬ k ∈ ks L) :
    Calls Tryz.prog 95 #[.pointer (some ⟨R, 0, none⟩), kv k] w fun e w' => e = .returned (.bool false) ∧ Ch [] w w' := by
  have HH := has_any h hk
  rw [decide_eq_false hno] at HH
  have HH := Lib.hid HH
  clear h hno hk
  go_enter Tryz.func95, Tryz.ntmps95
  go_wp2_with fail
  with_reducible refine HH.out.mono ?_
  rintro e w' ⟨rfl, hc⟩
  have HC := Lib.hid hc
  clear hc HH
  go_wp2_with fail
  go_ret
  exact ⟨rfl, HC.out⟩

set_option maxRecDepth 100000 in
set_option maxHeartbeats 1000000 in
theorem drop_in {w : World} {R M room n : Nat} {L : List Ent} (h : OR w R M room n L) {k : K} (hk : wfK k) (hin : k ∈ ks L) :
    Calls Tryz.prog 95 #[.pointer (some ⟨R, 0, none⟩), kv k] w fun e w' => e = .returned (.bool true) ∧ OR w' R M room n (wo L k) ∧ Ch [M] w w' := by
  have HH := has_any h hk
  rw [decide_eq_true hin] at HH
  have HH := Lib.hid HH
  have H := Lib.hid h
  have HK := Lib.hid hk
  have HIn := Lib.hid hin
  clear h hin hk
  go_enter Tryz.func95, Tryz.ntmps95
  go_wp2_with fail
  with_reducible refine HH.out.mono ?_
  rintro e w3 ⟨rfl, hc3⟩
  have H3 := Lib.hid (H.out.quiet hc3)
  have HC3 := Lib.hid hc3
  obtain ⟨D, ho, hv⟩ := H3.out.own
  have r1 := H3.out.c2
  have hcR : ∀ W : World, Ch [] w3 W → W.cell? ⟨R, 2, none⟩ = some (.map (some M)) := fun W hh => (hh.cell (p := ⟨R, 2, none⟩) (cell_lt r1) (by simp)).trans r1
  obtain ⟨X, hX⟩ : ∃ X : Obj, X = .cells #[kv k, .bool false] 165 := ⟨_, rfl⟩
  obtain ⟨Y, hY⟩ : ∃ Y : Obj, Y = .cells #[.bool true] 4 := ⟨_, rfl⟩
  have g0 := hcR w3 (Ch.refl _ _)
  have g1 := hcR ((w3.alloc X).alloc Y) (((Ch.refl _ _).alloc _).alloc _)
  have hc4 : Ch [] w3 ((w3.alloc X).alloc Y).drew := (((Ch.refl _ _).alloc _).alloc _).drew
  have HC4 := Lib.hid hc4
  obtain ⟨w5, hrun, ho5, ht5⟩ := (own_chm ho hc4 (by simp)).drop law Tryz.underlying136 (key_of HK.out) 0
  have HO5 := Lib.hid ho5
  have HT5 := Lib.hid ht5
  have HO := Lib.hid ho
  have HV := Lib.hid hv
  rw [hX, hY] at hrun g1
  clear hc3 hcR hc4 ho5 ht5 hX hY ho hv r1 HH H
  go_wp2_with fail
  go_region_with (go_at_call 87; refine (place_any k _).mono ?_; rintro r w' ⟨rfl, rfl⟩)
  all_goals clear g0 g1 hrun
  all_goals go_wp2
  all_goals go_ret
  all_goals
    have hc5 : Ch [M] w3 w5 := (HC4.out.mono (by simp)).trans (ch_turned HT5.out)
    have hne := H3.out.ne
    have hv2 := HV.out.del (k := k) HK.out
    have ho3 := own_tight HO5.out
    rw [hv2.sz] at ho3
    refine ⟨rfl, ⟨(hc5.block R H3.out.lt.1 (by simpa using hne)).trans H3.out.blk, ⟨_, ho3, hv2⟩, H3.out.ris.wo k, H3.out.hr, ?_⟩,
      (HC3.out.mono (by simp)).trans hc5⟩
    exact Nat.le_trans (List.length_filter_le _ _) H3.out.hl

theorem drop_any {w : World} {R M room n : Nat} {L : List Ent} (h : OR w R M room n L) {k : K} (hk : wfK k) :
    Calls Tryz.prog 95 #[.pointer (some ⟨R, 0, none⟩), kv k] w fun e w' => e = .returned (.bool (decide (k ∈ ks L))) ∧ ∃ L', ks L' = drp (ks L) k ∧ OR w' R M room n L' ∧ Ch [M] w w' := by
  by_cases hin : k ∈ ks L
  · rw [decide_eq_true hin]
    refine (drop_in h hk hin).mono ?_
    rintro e w' ⟨rfl, h2, hc⟩
    exact ⟨rfl, _, ks_wo L k, h2, hc⟩
  · rw [decide_eq_false hin]
    refine (drop_not h hk hin).mono ?_
    rintro e w' ⟨rfl, hc⟩
    exact ⟨rfl, L, (drp_not hin).symm, h.quiet hc, hc.mono (by simp)⟩
end Go.Proofs.YtalhlopjaijhcaaGreat.oU
