/-
  The laws' domain in memory, with the laws' own picture: what each call does to it.
-/
import Derived.Test.YtjoaigadlpndcaaDoorGrJ
import Derived.Test.YtjoaigadlpndcaaDoorGrQ
import Derived.Test.YtjoaigadlpndcaaDoorGrU
namespace Go.Proofs.YtjoaigadlpndcaaDoor
open Go.RowKit Go.Shelf
open rC (Th)

/-- A law's domain behind k acts. -/
structure EB (w0 w : World) (base a L bI k : Nat) (l : LS) : Prop where
  d : DL w0 w base a L 4 (dmOf l)
  i : IB w bI l.x
  o : a < bI ∧ bI < L ∧ L ≤ w.heap.size
  li : LI l
  xn : 0 ≤ l.x.n ∧ l.x.n ≤ k
  gn : l.gen ≤ k
  sup : ∀ i, 4 ≤ i → l.B i = []
  kk : k ≤ 1000
section
variable {w0 w w' : World} {base a L bI k : Nat} {l : LS}
theorem EB.ch (h : EB w0 w base a L bI k l) : Ch [] w0 w := h.d.ch
theorem EB.gb (h : EB w0 w base a L bI k l) : 0 ≤ (dmOf l).gen ∧ (dmOf l).gen ≤ 1000000 := ⟨h.li.g0, by have := h.gn; have := h.kk; show l.gen ≤ 1000000; omega⟩
theorem EB.gb' (h : EB w0 w base a L bI k l) : -1000000 ≤ (dmOf l).gen ∧ (dmOf l).gen ≤ 1000000 := ⟨by have := h.gb; omega, h.gb.2⟩
theorem EB.same {T : Nat → Prop} (h : EB w0 w base a L bI k l) (hc : ChP T w w') (hT : ∀ j, T j → a < j ∧ j < L ∧ j ≠ bI) : EB w0 w' base a L bI k l :=
  ⟨h.d.same hc (fun j hj => ⟨by have := h.d.lo; have := (hT j hj).1; omega, h.d.own (hT j hj).1 (hT j hj).2.1⟩), h.i.chP hc (fun hj => (hT bI hj).2.2 rfl), ⟨h.o.1, h.o.2.1, Nat.le_trans h.o.2.2 hc.size⟩, h.li, h.xn, h.gn, h.sup, h.kk⟩
theorem EB.quiet (h : EB w0 w base a L bI k l) (hc : Ch [] w w') : EB w0 w' base a L bI k l :=
  ⟨h.d.quiet hc, h.i.ch hc, ⟨h.o.1, h.o.2.1, Nat.le_trans h.o.2.2 hc.size⟩, h.li, h.xn, h.gn, h.sup, h.kk⟩
theorem EB.up (h : EB w0 w base a L bI k l) {k' : Nat} (hk : k ≤ k') (h2 : k' ≤ 1000) : EB w0 w base a L bI k' l := ⟨h.d, h.i, h.o, h.li, ⟨h.xn.1, by have := h.xn.2; omega⟩, by have := h.gn; omega, h.sup, h2⟩
/-- A law's own blocks stand aside. -/
theorem EB.aside (h : EB w0 w base a L bI k l) {j : Nat} (h1 : a < j) (h2 : j < L) (h3 : j ≠ bI) : ¬ GI base a l.sc bI j := fun o => by
  rcases o with o | o
  · exact h.d.own h1 h2 o
  · exact h3 o
theorem EB.aside' (h : EB w0 w base a L bI k l) {j : Nat} (h1 : w.heap.size ≤ j) : ¬ GI base a l.sc bI j := fun o => by
  rcases o with o | o
  · have := h.d.o_lt o; omega
  · have := h.o; omega
/-- What an enter, an exit makes of it. -/
def LS.inn (l : LS) (r : Int) : LS := ⟨enterS l.x (rW r : Int), l.A, l.B, l.gen, l.wnt, l.sc⟩
def LS.out (l : LS) (r : Int) : LS := ⟨exitS l.x (rW r : Int), l.A, l.B, l.gen, l.wnt, l.sc⟩
def LS.add (l : LS) (c : Nat) (z : Int) : LS := ⟨l.x, l.A, addI l.B c z, l.gen, l.wnt, l.sc⟩
def LS.tik (l : LS) : LS := ⟨l.x, l.A, l.B, l.gen, l.gen + 1, l.sc⟩
theorem EB.enter (h : EB w0 w base a L bI k l) (hk : k < 1000) (r : Int) :
    Calls Tryd.prog 8 #[.pointer (some ⟨bI, 0, none⟩), .pointer (some ⟨a, 0, none⟩), .int .i64 r] w fun e w' => (∃ v, e = .returned v) ∧ EB w0 w' base a L bI (k + 1) (l.inn r) ∧ ChP (GI base a l.sc bI) w w' := by
  refine (in_enter h.d ⟨h.o.1, h.o.2.1⟩ h.i ⟨h.xn.1, by have := h.xn.2; show l.x.n ≤ 100000; omega⟩ r).mono ?_
  rintro e w' ⟨hv, hd, hi, hc⟩
  have hn := enter_n l.x (rW r : Int)
  exact ⟨hv, ⟨hd, hi, ⟨h.o.1, h.o.2.1, Nat.le_trans h.o.2.2 hc.size⟩, ⟨h.li.g0, h.li.run, h.li.idle, h.li.wnt⟩, ⟨by have := h.xn.1; show 0 ≤ (enterS l.x (rW r : Int)).n; omega, by have := h.xn.2; show (enterS l.x (rW r : Int)).n ≤ ((k + 1 : Nat) : Int); omega⟩, by have := h.gn; show l.gen ≤ ((k + 1 : Nat) : Int); omega, h.sup, by omega⟩, hc⟩
theorem EB.exit (h : EB w0 w base a L bI k l) (hk : k < 1000) (r : Int) :
    Calls Tryd.prog 9 #[.pointer (some ⟨bI, 0, none⟩), .pointer (some ⟨a, 0, none⟩), .int .i64 r] w fun e w' => (∃ v, e = .returned v) ∧ EB w0 w' base a L bI (k + 1) (l.out r) ∧ ChP (GI base a l.sc bI) w w' := by
  refine (in_exit h.d ⟨h.o.1, h.o.2.1⟩ h.i r).mono ?_
  rintro e w' ⟨hv, hd, hi, hc⟩
  have hn := exit_n l.x (rW r : Int)
  exact ⟨hv, ⟨hd, hi, ⟨h.o.1, h.o.2.1, Nat.le_trans h.o.2.2 hc.size⟩, ⟨h.li.g0, h.li.run, h.li.idle, h.li.wnt⟩, ⟨by have := h.xn.1; show 0 ≤ (exitS l.x (rW r : Int)).n; omega, by have := h.xn.2; show (exitS l.x (rW r : Int)).n ≤ ((k + 1 : Nat) : Int); omega⟩, by have := h.gn; show l.gen ≤ ((k + 1 : Nat) : Int); omega, h.sup, by omega⟩, hc⟩
theorem EB.call (h : EB w0 w base a L bI k l) (hk : k < 1000) {c : Nat} (hc4 : c < 4) (z : Int) (hl : (l.A c).length + (l.B c).length < 64) (t : TypeId) :
    Calls Tryd.prog 10 #[.pointer (some ⟨a, 0, none⟩), .int .i64 (c : Int), .slice (some ⟨w.heap.size, 0, none⟩) 1 1] (w.alloc (.cells #[.int .i64 z] t)) fun e w' =>
      e = .returned (.int .i64 0) ∧ EB w0 w' base a L bI (k + 1) (l.add c z) ∧ ChP (GI base a l.sc bI) w w' := by
  refine (h.d.call1 hc4 z t).mono ?_
  rintro e w' ⟨rfl, hd, hc⟩
  have hlen := fAB_len l.gen l.A l.B c
  have hf := fAB_add (g := l.gen) z hl
  refine ⟨?_, ⟨?_, h.i.chP hc (h.d.own h.o.1 h.o.2.1), ⟨h.o.1, h.o.2.1, Nat.le_trans h.o.2.2 hc.size⟩, ⟨h.li.g0, h.li.run, h.li.idle, h.li.wnt⟩, ⟨h.xn.1, by have := h.xn.2; show l.x.n ≤ ((k + 1 : Nat) : Int); omega⟩, by have := h.gn; show l.gen ≤ ((k + 1 : Nat) : Int); omega, fun i hi => ?_, by omega⟩, hc.mono fun j o => .inl o⟩
  · rw [if_neg (show ¬ 64 < ((dmOf l).f c).length + 1 by show ¬ 64 < (fAB l.gen l.A l.B c).length + 1; omega)]
  · have e1 : updF (dmOf l).f c (((dmOf l).f c ++ [fresh z]).take 64) = fAB l.gen l.A (addI l.B c z) := hf
    rw [e1] at hd
    exact hd
  · show addI l.B c z i = []
    unfold addI
    rw [if_neg (by omega)]
    exact h.sup i hi
theorem EB.ticket (h : EB w0 w base a L bI k l) (hk : k < 1000) {v : Int} (hv : l.gen + 1 = v) :
    Calls Tryd.prog 11 #[.pointer (some ⟨a, 0, none⟩)] w fun e w' => e = .returned (.int .i64 v) ∧ EB w0 w' base a L bI (k + 1) l.tik ∧ ChP (GI base a l.sc bI) w w' := by
  subst hv
  refine (h.d.ticket h.gb' rfl).mono ?_
  rintro e w' ⟨rfl, hd, hc⟩
  exact ⟨rfl, ⟨hd, h.i.chP hc (h.d.own h.o.1 h.o.2.1), ⟨h.o.1, h.o.2.1, Nat.le_trans h.o.2.2 hc.size⟩, ⟨h.li.g0, h.li.run, h.li.idle, Int.le_refl _⟩, ⟨h.xn.1, by have := h.xn.2; show l.x.n ≤ ((k + 1 : Nat) : Int); omega⟩, by have := h.gn; show l.gen ≤ ((k + 1 : Nat) : Int); omega, h.sup, by omega⟩, hc.mono fun j o => .inl o⟩
theorem EB.poll (h : EB w0 w base a L bI k l) (hk : k < 1000) {O : List Int} (hO : outL 4 l = O) :
    Calls Tryd.prog 13 #[.pointer (some ⟨a, 0, none⟩)] w fun e w' => ∃ ad cap, e = .returned (.slice ad O.length cap) ∧ IntsAt w' ad O ∧ (∀ j, ad = some j → w.heap.size ≤ j.block) ∧ ∃ c, w.heap.size ≤ c ∧ EB w0 w' base a L bI (k + 1) (pollLS c 4 l) ∧ ChP (GI base a l.sc bI) w w' := by
  have h0 := poll_dm h.li
  refine (h.d.poll h.o.2.2 h.gb (O := O) ((h0 0 4 h.sup).2.1.trans hO)).mono ?_
  rintro e w' ⟨ad, cap, rfl, hrow, c, hlo, hd, hc⟩
  obtain ⟨h1, _, h3⟩ := h0 c 4 h.sup
  have hx := poll_x c 4 l
  rw [h1] at hd
  refine ⟨ad, cap, rfl, (ints_own hrow).1, fun j e => ?_, c, hlo, ⟨hd, ?_, ⟨h.o.1, h.o.2.1, Nat.le_trans h.o.2.2 hc.size⟩, h3, ?_, ?_, poll_B c 4 h.sup, by omega⟩, hc.mono fun j o => .inl o⟩
  · subst e
    rcases hrow.2 with ⟨e1, _⟩ | ⟨g, cp, cur, e1, hg, _⟩
    · cases e1
    · cases e1; exact hg
  · rw [hx.1]; exact h.i.chP hc (h.d.own h.o.1 h.o.2.1)
  · rw [hx.1]; exact ⟨h.xn.1, by have := h.xn.2; omega⟩
  · have := hx.2.2.2; have := h.gn; omega
theorem EB.out_len (h : EB w0 w base a L bI k l) : (outL 4 l).length ≤ 4096 := by
  obtain ⟨top, b, A, hg⟩ := h.d
  have h1 := endO_len hg
  rwa [(end_dm h.li 4).2.1] at h1
theorem EB.over (h : EB w0 w base a L bI k l) (t : Int) {u : Bool} (hu : decide (t ≤ doneV (dmOf l)) = u) :
    Calls Tryd.prog 15 #[.pointer (some ⟨a, 0, none⟩), .int .i64 t] w fun e w' => e = .returned (.bool u) ∧ w = w' := h.d.over h.gb' t hu
end
end Go.Proofs.YtjoaigadlpndcaaDoor
