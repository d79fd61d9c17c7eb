/-
  GraceHolds: its three arrays in memory.
-/
import Derived.Test.YtjoaigadlpndcaaDoorGrH
namespace Go.Proofs.YtjoaigadlpndcaaDoor
open Go.RowKit Go.Shelf

/-- Pictures (80 rows of 64), who is told, tickets. -/
structure HM (w : World) (bA bT bK : Nat) (at' : Nat → Nat → Int) (tf kf : Nat → Int) : Prop where
  at' : ∀ n, n < 80 → ∀ r, r < 64 → w.cell? ⟨bA, n * 64 + r, none⟩ = some (.int .i64 (at' n r))
  td : ∀ n, n < 80 → w.cell? ⟨bT, n, none⟩ = some (.int .i64 (tf n))
  kt : ∀ n, n < 80 → w.cell? ⟨bK, n, none⟩ = some (.int .i64 (kf n))
  fa : ∀ j, w.frozen? ⟨bA, j, none⟩ = false
  ft : ∀ j, w.frozen? ⟨bT, j, none⟩ = false
  fk : ∀ j, w.frozen? ⟨bK, j, none⟩ = false
section
variable {w w' : World} {bA bT bK : Nat} {at' : Nat → Nat → Int} {tf kf : Nat → Int}
theorem HM.lt (h : HM w bA bT bK at' tf kf) : bA < w.heap.size ∧ bT < w.heap.size ∧ bK < w.heap.size := ⟨cell_lt (h.at' 0 (by decide) 0 (by decide)), cell_lt (h.td 0 (by decide)), cell_lt (h.kt 0 (by decide))⟩
theorem HM.same (h : HM w bA bT bK at' tf kf) (hA : w'.heap[bA]? = w.heap[bA]?) (hT : w'.heap[bT]? = w.heap[bT]?) (hK : w'.heap[bK]? = w.heap[bK]?) : HM w' bA bT bK at' tf kf :=
  ⟨fun n hn r hr => (World.cell?_of_block (a := ⟨bA, n * 64 + r, none⟩) hA).trans (h.at' n hn r hr), fun n hn => (World.cell?_of_block (a := ⟨bT, n, none⟩) hT).trans (h.td n hn), fun n hn => (World.cell?_of_block (a := ⟨bK, n, none⟩) hK).trans (h.kt n hn),
    fun j => (World.frozen?_of_block (a := ⟨bA, j, none⟩) hA).trans (h.fa j), fun j => (World.frozen?_of_block (a := ⟨bT, j, none⟩) hT).trans (h.ft j), fun j => (World.frozen?_of_block (a := ⟨bK, j, none⟩) hK).trans (h.fk j)⟩
theorem HM.chP {T : Nat → Prop} (h : HM w bA bT bK at' tf kf) (hc : ChP T w w') (hA : ¬ T bA) (hT : ¬ T bT) (hK : ¬ T bK) : HM w' bA bT bK at' tf kf :=
  h.same (hc.block bA h.lt.1 hA) (hc.block bT h.lt.2.1 hT) (hc.block bK h.lt.2.2 hK)
theorem HM.ch (h : HM w bA bT bK at' tf kf) (hc : Ch [] w w') : HM w' bA bT bK at' tf kf := h.chP (T := fun _ => False) (.quiet hc) (fun e => e) (fun e => e) (fun e => e)
theorem HM.putT (h : HM w bA bT bK at' tf kf) (hd : bA ≠ bT ∧ bT ≠ bK) {n : Nat} (hn : n < 80) (v : Int) : HM (w.setCell ⟨bT, n, none⟩ (.int .i64 v)) bA bT bK at' (putF tf n v) kf :=
  ⟨fun m hm r hr => setCell_other (h.at' m hm r hr) (addr_ne_block (Ne.symm hd.1)), fun m hm => by
    by_cases e : m = n
    · subst e; rw [setCell_same (h.td m hm), putF_same]
    · rw [setCell_other (h.td m hm) (addr_ne_off (by omega)), putF_other _ _ e], fun m hm => setCell_other (h.kt m hm) (addr_ne_block hd.2), fun j => by simpa using h.fa j, fun j => by simpa using h.ft j, fun j => by simpa using h.fk j⟩
theorem HM.putK (h : HM w bA bT bK at' tf kf) (hd : bA ≠ bK ∧ bT ≠ bK) {n : Nat} (hn : n < 80) (v : Int) : HM (w.setCell ⟨bK, n, none⟩ (.int .i64 v)) bA bT bK at' tf (putF kf n v) :=
  ⟨fun m hm r hr => setCell_other (h.at' m hm r hr) (addr_ne_block (Ne.symm hd.1)), fun m hm => setCell_other (h.td m hm) (addr_ne_block (Ne.symm hd.2)), fun m hm => by
    by_cases e : m = n
    · subst e; rw [setCell_same (h.kt m hm), putF_same]
    · rw [setCell_other (h.kt m hm) (addr_ne_off (by omega)), putF_other _ _ e], fun j => by simpa using h.fa j, fun j => by simpa using h.ft j, fun j => by simpa using h.fk j⟩
theorem HM.there (h : HM w bA bT bK at' tf kf) {n : Nat} (hn : n < 80) : w.there bA (n * 64) 64 := fun j hj => ⟨by rw [h.at' n hn j hj]; rfl, h.fa _⟩
theorem HM.range (h : HM w bA bT bK at' tf kf) {n : Nat} (hn : n < 80) : w.rangeAt bA (n * 64) (rowL (at' n)) := fun j v hv => by
  have hj : j < 64 := by have := (List.getElem?_eq_some_iff.1 hv).1; rwa [rowL_len] at this
  rw [rowL_at _ hj] at hv
  rw [h.at' n hn j hj]
  exact hv
theorem IB.range {b : Nat} {x : SS} (h : IB w b x) : w.rangeAt b 64 (rowL x.s) := fun j v hv => by
  have hj : j < 64 := by have := (List.getElem?_eq_some_iff.1 hv).1; rwa [rowL_len] at this
  rw [rowL_at _ hj] at hv
  rw [h.s j hj]
  exact hv
theorem chP_cells (w : World) (b : Nat) : ∀ (vs : List Value) (o : Nat), ChP (fun j => j = b) w (w.setCells b o vs) := by
  intro vs
  induction vs generalizing w with
  | nil => intro o; exact ChP.refl _ _
  | cons v vs ih =>
    intro o
    rw [World.setCells]
    exact ((ChP.refl (fun j => j = b) w).setCell (p := ⟨b, o, none⟩) (.inl rfl) v).trans (ih _ (o + 1))
theorem size_cells (b : Nat) : ∀ (vs : List Value) (o : Nat) (w : World), (w.setCells b o vs).heap.size = w.heap.size := by
  intro vs
  induction vs with
  | nil => intro o w; rfl
  | cons v vs ih =>
    intro o w
    rw [World.setCells, ih (o + 1)]
    simp [World.setCell]
theorem HM.putAt (h : HM w bA bT bK at' tf kf) (hd : bA ≠ bT ∧ bA ≠ bK) {k : Nat} (hk : k < 80) (f : Nat → Int) : HM (w.setCells bA (k * 64) (rowL f)) bA bT bK (putA at' k f) tf kf := by
  have hc := chP_cells w bA (rowL f) (k * 64)
  have hth := h.there hk
  have h1 : ∀ n, n < 80 → n ≠ k → (w.setCells bA (k * 64) (rowL f)).rangeAt bA (n * 64) (rowL (at' n)) := fun n hn e =>
    World.rangeAt_setCells_apart (h.range hn) bA (k * 64) (rowL f) (by rw [rowL_len, rowL_len]; omega)
  have h2 : (w.setCells bA (k * 64) (rowL f)).rangeAt bA (k * 64) (rowL f) := World.rangeAt_setCells_same w bA (k * 64) (rowL f) (by rw [rowL_len]; exact hth)
  refine ⟨fun n hn r hr => ?_, fun n hn => (hc.cell (p := ⟨bT, n, none⟩) h.lt.2.1 (Ne.symm hd.1)).trans (h.td n hn), fun n hn => (hc.cell (p := ⟨bK, n, none⟩) h.lt.2.2 (Ne.symm hd.2)).trans (h.kt n hn), fun j => ?_, fun j => (hc.frozen (p := ⟨bT, j, none⟩) h.lt.2.1 (Ne.symm hd.1)).trans (h.ft j), fun j => (hc.frozen (p := ⟨bK, j, none⟩) h.lt.2.2 (Ne.symm hd.2)).trans (h.fk j)⟩
  · by_cases e : n = k
    · subst e
      rw [show putA at' n f n = f from if_pos rfl]
      exact h2 r _ (rowL_at f hr)
    · rw [show putA at' k f n = at' n from if_neg e]
      exact h1 n hn e r _ (rowL_at _ hr)
  · rw [World.frozen?_setCells]
    exact h.fa j
theorem info64 : (Tryd.prog.info? 27).map (·.size) = some 64 := by kernel_rfl
theorem load_row {b o : Nat} {f : Nat → Int} (h : w.rangeAt b o (rowL f)) : (Instr.loadAt 27 (.pointer (some ⟨b, o, none⟩))).run Tryd.prog w = .ok (.agg (rowL f).toArray) w :=
  run_loadAt_mid w b o 27 (rowL f) _ h Tryd.underlying27 rfl (by rw [rowL_len]; exact info64)
theorem store_row {b o : Nat} {f : Nat → Int} (h : w.there b o 64) : (Instr.storeAt 27 (.pointer (some ⟨b, o, none⟩)) (.agg (rowL f).toArray)).run Tryd.prog w = .ok () (w.setCells b o (rowL f)) := by
  have h2 := run_storeAt_mid (P := Tryd.prog) w b o 27 (rowL f).toArray (by simpa [rowL_len] using h) (by simpa [rowL_len] using info64) (all_oneCell_toArray (rowL_one f))
  simpa using h2
end
section
variable {ops : Array Oper} {rest : List Oper} {op : Oper} {a : Act} {w : World} {Q : Exit → Act → World → Prop}
/-- A row of 64 is read, under a guard too. -/
theorem wpList_read {x : Operand} (ho : op.op = .load 27 x) {b o : Nat} {f : Nat → Int} (hr : w.rangeAt b o (rowL f)) (hw : Region.wanted op (yielded ops a.tmps) = true) (hx : a.eval x = .pointer (some ⟨b, o, none⟩))
    (h : wpList Tryd.prog ops Q rest (a.put op.dst (.agg (rowL f).toArray)) w) : wpList Tryd.prog ops Q (op :: rest) a w :=
  Go.BigFrame.wpList_want hw fun _ hK => wp_load_mid 27 x ho b o hx (rowL f) _ hr Tryd.underlying27 rfl (by rw [rowL_len]; exact info64) (hK _ _ h)
/-- It is written. -/
theorem wpList_write {x y : Operand} (ho : op.op = .store 27 x y) {b o : Nat} (ht : w.there b o 64) (f : Nat → Int) (hw : Region.wanted op (yielded ops a.tmps) = true) (hx : a.eval x = .pointer (some ⟨b, o, none⟩)) (hy : a.eval y = .agg (rowL f).toArray)
    (h : wpList Tryd.prog ops Q rest (a.put op.dst undef) (w.setCells b o (rowL f))) : wpList Tryd.prog ops Q (op :: rest) a w :=
  Go.BigFrame.wpList_want hw fun _ hK => wp_store_mid 27 x y ho b o (rowL f).toArray hx hy (by simpa [rowL_len] using ht) (by simpa [rowL_len] using info64) (all_oneCell_toArray (rowL_one f)) (hK _ _ (by simpa using h))
end
/-- New arrays. -/
def z5120 : Array Value := Array.replicate 5120 (.int .i64 0)
def z80 : Array Value := Array.replicate 80 (.int .i64 0)
theorem z5120_zero (w : World) : Sem.run Tryd.prog (zeroValue 30) w = .ok (.agg z5120) w := by kernel_rfl
theorem z80_zero (w : World) : Sem.run Tryd.prog (zeroValue 31) w = .ok (.agg z80) w := by kernel_rfl
theorem cells_new (w : World) (n : Nat) (t : TypeId) {i : Nat} (hi : i < n) : (w.alloc (.cells (Array.replicate n (.int .i64 0)) t)).cell? ⟨w.heap.size, i, none⟩ = some (.int .i64 0) := by
  rw [World.cell?_alloc_at _ _ _ _ rfl]
  simp [hi]
end Go.Proofs.YtjoaigadlpndcaaDoor
