/-
  ScanPlays: what opens its calls; the program's scan beside the answer's.
-/
import Derived.Test.YtlmepjpkaionbaaDoorSeT
import Derived.Test.YtlmepjpkaionbaaDoorSnP
import Derived.Deep.Strs
namespace Go.Proofs.YtlmepjpkaionbaaDoor
open Go.RowKit Go.Maps Go.ChangeShapes Go.WideShapes Go.ChangeAt

theorem four_of {cs : List Value} (h : cs.length = 4) : ∃ a b c d, cs = [a, b, c, d] := by
  match cs, h with
  | [a, b, c, d], _ => exact ⟨a, b, c, d, rfl⟩
/-- A call that came in: in four cells from o on. -/
def Act4At (W : World) (b o : Nat) : Prop := ∃ K R O N, W.cell? ⟨b, o, none⟩ = some (.int .i64 K) ∧ W.cell? ⟨b, o + 1, none⟩ = some (.int .i64 R) ∧ W.cell? ⟨b, o + 2, none⟩ = some (.bool O) ∧ W.cell? ⟨b, o + 3, none⟩ = some (.int .i64 N)
def Acts4At (W : World) (a : Option Addr) (len : Nat) : Prop := len = 0 ∨ ∃ b off, a = some ⟨b, off, none⟩ ∧ ∀ i, i < len → Act4At W b (off + i * 4)
theorem Acts4At.ch {W W' : World} {a : Option Addr} {len : Nat} (h : Acts4At W a len) (hc : Ch [] W W') : Acts4At W' a len := by
  rcases h with h | ⟨b, off, e, h⟩
  · exact .inl h
  · refine .inr ⟨b, off, e, fun i hi => ?_⟩
    obtain ⟨K, R, O, N, c0, c1, c2, c3⟩ := h i hi
    exact ⟨K, R, O, N, (hc.cell (p := ⟨b, off + i * 4, none⟩) (cell_lt c0) (by simp)).trans c0, (hc.cell (p := ⟨b, off + i * 4 + 1, none⟩) (cell_lt c1) (by simp)).trans c1, (hc.cell (p := ⟨b, off + i * 4 + 2, none⟩) (cell_lt c2) (by simp)).trans c2, (hc.cell (p := ⟨b, off + i * 4 + 3, none⟩) (cell_lt c3) (by simp)).trans c3⟩

theorem acts4_opened {H : Type} {enc : TypeId × Value → H} {W : World} {a : Option Addr} {len cap : Nat} {d : DataW H} {p : List MemPlace} (h : DataW.Trod enc Tryd.prog W 0 (fun _ => true) true 23 (.slice a len cap) d p) :
    len ≤ 9223372036854775807 ∧ Acts4At W a len := by
  obtain ⟨fuel, hf⟩ := h
  rcases Go.Deep.open_slice Tryd.underlying23 hf with ⟨hcs, _⟩ | ⟨x, l, c, m, n, D, Q, hcs, _, hl, hm, hmm, _, hi⟩
  · simp [Value.cells] at hcs
    obtain ⟨rfl, rfl, rfl⟩ := hcs
    exact ⟨by decide, .inl rfl⟩
  · simp [Value.cells] at hcs
    obtain ⟨rfl, rfl, rfl⟩ := hcs
    simp at hmm
    unfold maxLen at hm
    refine ⟨by omega, ?_⟩
    by_cases h0 : len = 0
    · exact .inl h0
    · have e1 : Tryd.prog.cellsOf 3 = 1 := by kernel_rfl
      have e2 : Tryd.prog.cellsOf 4 = 1 := by kernel_rfl
      have e3 : Tryd.prog.cellsOf 31 = 2 := by kernel_rfl
      have e4 : Tryd.prog.cellsOf 44 = 4 := by kernel_rfl
      have key : ∀ i, i < len → ∃ K R O N, W.cell? (x.add (i * 4)) = some (.int .i64 K) ∧ W.cell? ((x.add (i * 4)).add 1) = some (.int .i64 R) ∧ W.cell? ((x.add (i * 4)).add 2) = some (.bool O) ∧ W.cell? ((x.add (i * 4)).add 3) = some (.int .i64 N) := by
        intro i hlt
        obtain ⟨cs, hc, ht⟩ := hi i (by omega)
        rw [e4] at hc
        obtain ⟨_, hcl, hat⟩ := World.cells?_some hc
        obtain ⟨c0, c1, c2, c3, rfl⟩ := four_of hcl
        obtain ⟨y0, y1, y2, n0, -, -, h0, h1, h2⟩ := Go.Deep.trod_struct3 Tryd.underlying44 ht
        simp only [e1, e3, List.drop_zero, List.drop_succ_cons, List.take_succ_cons, List.take_zero] at h0 h1 h2
        obtain ⟨z0, z1, n1, -, -, g0, g1⟩ := trod_struct2 Tryd.underlying31 h1
        simp only [e1, e2, List.drop_zero, List.drop_succ_cons, List.take_succ_cons, List.take_zero] at g0 g1
        obtain ⟨K, k0, _, _⟩ := DataW.trod_int Tryd.underlying3 h0
        obtain ⟨R, k1, _, _⟩ := DataW.trod_int Tryd.underlying3 g0
        obtain ⟨O, k2, _⟩ := DataW.trod_bool Tryd.underlying4 g1
        obtain ⟨N, k3, _, _⟩ := DataW.trod_int Tryd.underlying3 h2
        cases k0
        cases k1
        cases k2
        cases k3
        have a0 := hat 0 (by decide)
        rw [show (x.add (i * 4)).add 0 = x.add (i * 4) from rfl] at a0
        exact ⟨K, R, O, N, a0, hat 1 (by decide), hat 2 (by decide), hat 3 (by decide)⟩
      obtain ⟨b, off, spot⟩ := x
      obtain ⟨K, R, O, N, hk, _⟩ := key 0 (by omega)
      have hspot : spot = none := by simpa [Addr.add] using World.cell?_spot hk
      subst hspot
      refine .inr ⟨b, off, rfl, fun i hlt => ?_⟩
      obtain ⟨K, R, O, N, h1, h2, h3, h4⟩ := key i hlt
      rw [addr_add] at h1
      rw [addr_add, addr_add] at h2 h3 h4
      exact ⟨K, R, O, N, h1, h2, h3, h4⟩

/-- The act of a round: its four cells. -/
structure Qd (w : World) (A : Nat) (K R : Int) (O : Bool) (N : Int) : Prop where
  c0 : w.cell? ⟨A, 0, none⟩ = some (.int .i64 K)
  c1 : w.cell? ⟨A, 1, none⟩ = some (.int .i64 R)
  c2 : w.cell? ⟨A, 2, none⟩ = some (.bool O)
  c3 : w.cell? ⟨A, 3, none⟩ = some (.int .i64 N)
theorem Qd.new (w : World) (K R : Int) (O : Bool) (N : Int) (t : TypeId) : Qd (w.alloc (.cells #[.int .i64 K, .int .i64 R, .bool O, .int .i64 N] t)) w.heap.size K R O N :=
  ⟨by rw [World.cell?_alloc_at _ _ _ _ rfl]; rfl, by rw [World.cell?_alloc_at _ _ _ _ rfl]; rfl, by rw [World.cell?_alloc_at _ _ _ _ rfl]; rfl, by rw [World.cell?_alloc_at _ _ _ _ rfl]; rfl⟩
theorem Qd.ch {S : List Nat} {w w' : World} {A : Nat} {K R : Int} {O : Bool} {N : Int} (h : Qd w A K R O N) (hc : Ch S w w') (hS : A ∉ S) : Qd w' A K R O N :=
  ⟨(hc.cell (p := ⟨A, 0, none⟩) (cell_lt h.c0) hS).trans h.c0, (hc.cell (p := ⟨A, 1, none⟩) (cell_lt h.c1) hS).trans h.c1, (hc.cell (p := ⟨A, 2, none⟩) (cell_lt h.c2) hS).trans h.c2, (hc.cell (p := ⟨A, 3, none⟩) (cell_lt h.c3) hS).trans h.c3⟩

/-- The program's scan beside the answer's. -/
structure BS (w0 w : World) (b c X : Nat) (m : Value) (ds : List (Nat × Bool)) (t : Int) (p : Nat → Bool) (P g cap : Nat) : Prop where
  xl : XL w0 w b c (runS ds) t p P
  tri : Tri w X (.int .i64 t) (.int .i64 (P : Int)) (.slice (some ⟨g, 0, none⟩) 64 cap)
  rb : RB w (b + 1) g cap p
  rd : RD w (b + 1) m ds
  ne : X ≠ b ∧ X ≠ c ∧ g ≠ X ∧ g ≠ c
  nm : ∀ k, m.ownBlock = some k → k ≠ c ∧ k ≠ X
  lx : w0.heap.size ≤ X
section
variable {w0 w w' : World} {b c X : Nat} {m : Value} {ds : List (Nat × Bool)} {t : Int} {p : Nat → Bool} {P g cap : Nat}
theorem RB.congr {D : Nat} {q : Nat → Bool} (h : RB w D g cap p) (hq : ∀ i, i < 64 → p i = q i) : RB w D g cap q := ⟨by rw [← bls_congr hq]; exact h.row⟩
theorem BS.quiet (h : BS w0 w b c X m ds t p P g cap) (hc : Ch [] w w') : BS w0 w' b c X m ds t p P g cap := ⟨h.xl.quiet hc, h.tri.quiet hc, h.rb.quiet hc, h.rd.quiet hc, h.ne, h.nm, h.lx⟩
theorem BS.size (h : BS w0 w b c X m ds t p P g cap) : b < w.heap.size ∧ c < w.heap.size ∧ X < w.heap.size := ⟨h.xl.l.s.lt, h.xl.n.lt, h.tri.lt⟩
theorem XL.turn {S : List Nat} {x : SS} (h : XL w0 w b c x t p P) (hc : Ch S w w') (hb : b ∉ S) (hcS : c ∉ S) (hS : ∀ k ∈ S, w0.heap.size ≤ k) : XL w0 w' b c x t p P := ⟨h.l.turn hc hb hS, h.n.ch hc hcS, h.bc, h.lo, h.tab, h.lt⟩
/-- Behind a reader's deed. -/
theorem BS.did (h : BS w0 w b c X m ds t p P g cap) {m' : Value} {ds' : List (Nat × Bool)} (hr : RD w' (b + 1) m' ds') (hm : m' = m ∨ ∀ k, m'.ownBlock = some k → w.heap.size ≤ k) (hl : SL w0 w' b (runS ds')) (hc : Ch [b] w w') : BS w0 w' b c X m' ds' t p P g cap := by
  have hs := h.size
  refine ⟨h.xl.sect hl hc, h.tri.ch hc (by simpa using h.ne.1), h.rb.away hc (by have := h.rb.lo.1; simp; omega), hr, h.ne, ?_, h.lx⟩
  rcases hm with rfl | hm
  · exact h.nm
  · intro k hk
    have := hm k hk
    omega
theorem BS.far (h : BS w0 w b c X m ds t p P g cap) {g' : Nat} (hg : g' = g ∨ w.heap.size ≤ g') : g' ≠ X ∧ g' ≠ c := by
  have hs := h.size
  have hne := h.ne
  rcases hg with rfl | hg <;> omega
/-- Both have gone on: the program's scan, and the answer's in its box. -/
theorem BS.next (h : BS w0 w b c X m ds t p P g cap) {w4 : World} {p' q' : Nat → Bool} {P' g' cap' : Nat} (hc : Ch [c, X] w w4) (hx : XL w0 w4 b c (runS ds) t p' P') (ht : Tri w4 X (.int .i64 t) (.int .i64 (P' : Int)) (.slice (some ⟨g', 0, none⟩) 64 cap'))
    (hb : RB w4 (b + 1) g' cap' q') (hq : ∀ i, i < 64 → q' i = p' i) (hg : g' = g ∨ w.heap.size ≤ g') : BS w0 w4 b c X m ds t p' P' g' cap' :=
  ⟨hx, ht, hb.congr hq, h.rd.away hc fun k hk e => by
    have := h.nm k e
    simp at hk
    omega, ⟨h.ne.1, h.ne.2.1, (h.far hg).1, (h.far hg).2⟩, h.nm, h.lx⟩
end
end Go.Proofs.YtlmepjpkaionbaaDoor
