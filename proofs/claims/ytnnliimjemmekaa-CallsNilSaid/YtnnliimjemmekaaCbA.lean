/-
  CallsPlays: the program's lists beside the answer's.
-/
import Derived.Test.YtnnliimjemmekaaCaP
namespace Go.Proofs.Ytnnliimjemmekaa
open Go.RowKit Go.Maps
open rC (Th RL flat tv)

/-- The program's lists (A, in the blocks from base up to top) beside the answer's (the box b). -/
structure PS (w wr : World) (base top A n b : Nat) (last : Int) (M : List Cb) (v : Value) : Prop where
  lc : LC wr base top A n last (fOf M)
  bx : Three wr b (.int .i64 (n : Int)) (.int .i64 last) v
  row : RowC wr v M
  vt : ∀ g, v.ownBlock = some g → top ≤ g ∧ g ≠ b
  bt : top ≤ b
  mi : MI M n last
  bel : Below w.heap.size w wr
  lo : w.heap.size ≤ base
section
variable {w wr w' w5 w6 : World} {base top A n b : Nat} {last last' : Int} {M M' : List Cb} {v v' : Value}
theorem PS.quiet (h : PS w wr base top A n b last M v) (hc : Ch [] wr w') : PS w w' base top A n b last M v :=
  ⟨h.lc.quiet hc, h.bx.ch hc (by simp), h.row.quiet hc, h.vt, h.bt, h.mi, h.bel.trans (hc.below _ (fun k hk => by simp at hk) h.bel.size), h.lo⟩
theorem PS.len (h : PS w wr base top A n b last M v) : M.length ≤ 4096 := by
  have := h.lc.lp.2
  rwa [len_rel h.mi.cpu] at this
theorem PS.cnt (h : PS w wr base top A n b last M v) {c : Nat} (hc : c < n) : cntM M (c : Int) ≤ 64 := by
  have := h.lc.len c hc
  rwa [fOf_len] at this
/-- The row and the box lie apart from what the program's calls turn. -/
theorem RowC.own (h : RowC wr v M) (hv : ∀ g, v.ownBlock = some g → top ≤ g) (hc : ChP (Own base top) wr w') : RowC w' v M := by
  obtain ⟨B, h⟩ := h
  exact ⟨B, own_chP h hc (fun g e k => by have := hv g e; have := k.2; omega)⟩
theorem Three.own {x y z : Value} (h : Three wr b x y z) (hb : top ≤ b) (hc : ChP (Own base top) wr w') : Three w' b x y z :=
  h.same (hc.block b h.lt (fun k => by have := k.2; omega))
/-- What holds behind a call of both, where the answer's lists are stored. -/
theorem PS.next (h : PS w wr base top A n b last M v) (h5 : Ch [] wr w5) (h6 : ChP (Own base top) w5 w6) (hl : LC w6 base top A n last' (fOf M')) (hr : RowC w5 v' M') (hv : ∀ g, v'.ownBlock = some g → top ≤ g ∧ g ≠ b) (hm : MI M' n last') :
    PS w (((w6.setCell ⟨b, 0, none⟩ (.int .i64 (n : Int))).setCell ⟨b, 1, none⟩ (.int .i64 last')).setCell ⟨b, 2, none⟩ v') base top A n b last' M' v' := by
  have hs := set3_ch w6 b (.int .i64 (n : Int)) (.int .i64 last') v'
  have hbt := h.bt
  have hbl := h.bel.trans (h5.below _ (fun k hk => by simp at hk) h.bel.size)
  have hlo := h.lo
  have hhi := hl.inA
  refine ⟨hl.chP (.of hs (S := fun k => k = b) (by simp)) (fun k e q => by have := q.2; omega), ((h.bx.ch h5 (by simp)).own h.bt h6).set _ _ _, (hr.own (fun g e => (hv g e).1) h6).ch hs (fun g e => by simpa using (hv g e).2), hv, h.bt, hm, ?_, h.lo⟩
  have h7 := chP_bel (w0 := w) h6 hbl h.lo
  exact h7.trans (hs.below _ (fun k hk => by simp at hk; have := hhi.1; have := hhi.2; omega) h7.size)
end
/-- The act of a round: its four cells. -/
structure Qa (w : World) (a : Nat) (K C Gn : Int) (vi : Value) : Prop where
  c0 : w.cell? ⟨a, 0, none⟩ = some (.int .i64 K)
  c1 : w.cell? ⟨a, 1, none⟩ = some (.int .i64 C)
  c2 : w.cell? ⟨a, 2, none⟩ = some (.int .i64 Gn)
  c3 : w.cell? ⟨a, 3, none⟩ = some vi
theorem Qa.new (w : World) (K C Gn : Int) (vi : Value) (t : TypeId) : Qa (w.alloc (.cells #[.int .i64 K, .int .i64 C, .int .i64 Gn, vi] t)) w.heap.size K C Gn vi :=
  ⟨by rw [World.cell?_alloc_at _ _ _ _ rfl]; rfl, by rw [World.cell?_alloc_at _ _ _ _ rfl]; rfl, by rw [World.cell?_alloc_at _ _ _ _ rfl]; rfl, by rw [World.cell?_alloc_at _ _ _ _ rfl]; rfl⟩
theorem Qa.ch {S : List Nat} {w w' : World} {a : Nat} {K C Gn : Int} {vi : Value} (h : Qa w a K C Gn vi) (hc : Ch S w w') (hS : a ∉ S) : Qa w' a K C Gn vi :=
  ⟨(hc.cell (p := ⟨a, 0, none⟩) (cell_lt h.c0) hS).trans h.c0, (hc.cell (p := ⟨a, 1, none⟩) (cell_lt h.c1) hS).trans h.c1, (hc.cell (p := ⟨a, 2, none⟩) (cell_lt h.c2) hS).trans h.c2, (hc.cell (p := ⟨a, 3, none⟩) (cell_lt h.c3) hS).trans h.c3⟩
theorem IntsAt.bel {w w' : World} {a : Option Addr} {zs : List Int} (h : IntsAt w a zs) (hb : Below w.heap.size w w') : IntsAt w' a zs := h.ch (.of_below hb)
theorem IntsAt.lt {w : World} {a : Option Addr} {zs : List Int} (h : IntsAt w a zs) (hz : zs ≠ []) : ∀ x, a = some x → x.block < w.heap.size := by
  intro x e
  rcases h with h | ⟨b, off, e2, hc⟩
  · exact absurd h hz
  · rw [e] at e2
    cases e2
    exact cell_lt (hc 0 (List.length_pos_iff.2 hz))
theorem IntsAt.take {w : World} {a : Option Addr} {zs : List Int} (h : IntsAt w a zs) (k : Nat) : IntsAt w a (zs.take k) := by
  rcases h with h | ⟨b, off, e, hc⟩
  · exact .inl (by rw [h]; simp)
  · refine .inr ⟨b, off, e, fun i hi => ?_⟩
    rw [List.length_take] at hi
    rw [hc i (by omega), List.getElem?_take_of_lt (by omega)]
end Go.Proofs.Ytnnliimjemmekaa
