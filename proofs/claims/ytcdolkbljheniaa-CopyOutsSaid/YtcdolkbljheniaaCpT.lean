/-
  What the rows of stage 14 share: openers of bytes (a nil slice has no room) and of calls.
-/
import Derived.Test.YtcdolkbljheniaaUsT
import Derived.Deep.Strs
namespace Go.Proofs.Ytcdolkbljheniaa
open Go.Maps Go.ChangeShapes Go.WideShapes Go.ChangeAt Go.RowKit

/-- Bytes that came in: a nil slice has no room. -/
theorem bytes_opened2 {H : Type} {enc : TypeId × Value → H} {W : World} {a : Option Addr} {len cap : Nat} {d : DataW H} {p : List MemPlace} (h : DataW.Trod enc Try.prog W 0 (fun _ => true) true 23 (.slice a len cap) d p) :
    len ≤ cap ∧ (a = none → cap = 0) ∧ ∃ l : List Int, l.length = len ∧ BytesAt W a l := by
  obtain ⟨h1, -, h3⟩ := bytes_opened h
  refine ⟨h1, ?_, h3⟩
  intro e
  subst e
  obtain ⟨fuel, hf⟩ := h
  rcases open_ints Try.underlying23 Try.underlying5 (by kernel_rfl) hf with ⟨hcs, _⟩ | ⟨x, l, c, zs, hcs, _⟩
  · simp [Value.cells] at hcs
    exact hcs.2
  · simp [Value.cells] at hcs
/-- A struct of one-cell fields that is read out of its cells. -/
theorem fields_of {H : Type} {enc : TypeId × Value → H} {P : Program} {w : World} {base : Nat} {spare : Nat → Bool} {held : Bool} {e : TypeId} {fs : Array Field} {fuel : Nat} {cs : List Value} {x : DataW H × List MemPlace}
    (he : P.underlying e = some (.struct fs)) (hone : Go.Deep.oneCellFields P fs = true) (hC : cs.length = fs.size) (ht : DataW.trod enc P w base spare held fuel e cs = some x) :
    ∃ n, ∀ (j : Nat) (f : Field), fs[j]? = some f → ∃ v y, cs[j]? = some v ∧ DataW.trod enc P w base spare held n f.type [v] = some y := by
  obtain ⟨ys, n, _, _, hlen, hyl, hf⟩ := DataW.trod_struct he ht
  refine ⟨n, fun j f hj => ?_⟩
  have hlt : j < fs.size := (Array.getElem?_eq_some_iff.1 hj).1
  obtain ⟨ho, hk⟩ := Go.Deep.hone_of hone j f hj
  have h1 := hf j f hj
  have hjc : j < cs.length := by omega
  rw [ho, hk, List.drop_eq_getElem_cons hjc, List.take_succ_cons, List.take_zero, List.getElem?_eq_getElem (by omega)] at h1
  exact ⟨_, _, List.getElem?_eq_getElem hjc, h1⟩
theorem seven_of {cs : List Value} (h : cs.length = 7) : ∃ a b c d e f g, cs = [a, b, c, d, e, f, g] := by
  match cs, h with
  | [a, b, c, d, e, f, g], _ => exact ⟨a, b, c, d, e, f, g, rfl⟩
/-- A call that came in: a try or not, may it wait, and a call on the memory: in seven cells from o on. -/
def Act7At (W : World) (b o : Nat) : Prop := ∃ T X, W.cell? ⟨b, o, none⟩ = some (.bool T) ∧ W.cell? ⟨b, o + 1, none⟩ = some (.bool X) ∧ ActAt W b (o + 2)
def Acts7At (W : World) (a : Option Addr) (len : Nat) : Prop := len = 0 ∨ ∃ b off, a = some ⟨b, off, none⟩ ∧ ∀ i, i < len → Act7At W b (off + i * 7)
theorem Acts7At.ch {W W' : World} {a : Option Addr} {len : Nat} (h : Acts7At W a len) (hc : Ch [] W W') : Acts7At W' a len := by
  rcases h with h | ⟨b, off, e, h⟩
  · exact .inl h
  · refine .inr ⟨b, off, e, fun i hi => ?_⟩
    obtain ⟨T, X, c0, c1, h2⟩ := h i hi
    exact ⟨T, X, (hc.cell (p := ⟨b, off + i * 7, none⟩) (cell_lt c0) (by simp)).trans c0, (hc.cell (p := ⟨b, off + i * 7 + 1, none⟩) (cell_lt c1) (by simp)).trans c1, h2.ch hc⟩
theorem acts7_opened {H : Type} {enc : TypeId × Value → H} {W : World} {a : Option Addr} {len cap : Nat} {d : DataW H} {p : List MemPlace} (h : DataW.Trod enc Try.prog W 0 (fun _ => true) true 24 (.slice a len cap) d p) :
    len ≤ 9223372036854775807 ∧ Acts7At W a len := by
  obtain ⟨fuel, hf⟩ := h
  rcases Go.Deep.open_slice Try.underlying24 hf with ⟨hcs, _⟩ | ⟨x, l, c, m, n, D, Q, hcs, _, hl, hm, hmm, _, hi⟩
  · simp [Value.cells] at hcs
    obtain ⟨rfl, rfl, rfl⟩ := hcs
    exact ⟨by decide, .inl rfl⟩
  · simp [Value.cells] at hcs
    obtain ⟨rfl, rfl, rfl⟩ := hcs
    simp at hmm
    unfold maxLen at hm
    refine ⟨by omega, ?_⟩
    by_cases h0 : len = 0
    · exact .inl h0
    · have e1 : Try.prog.cellsOf 3 = 1 := by kernel_rfl
      have e2 : Try.prog.cellsOf 4 = 1 := by kernel_rfl
      have e3 : Try.prog.cellsOf 35 = 5 := by kernel_rfl
      have e4 : Try.prog.cellsOf 44 = 7 := by kernel_rfl
      have key : ∀ i, i < len → ∃ T X K P A M v le ca, W.cell? (x.add (i * 7)) = some (.bool T) ∧ W.cell? ((x.add (i * 7)).add 1) = some (.bool X) ∧ W.cell? ((x.add (i * 7)).add 2) = some (.int .i64 K) ∧ W.cell? ((x.add (i * 7)).add 3) = some (.int .i64 P) ∧ W.cell? ((x.add (i * 7)).add 4) = some (.int .i64 A) ∧ W.cell? ((x.add (i * 7)).add 5) = some (.int .i64 M) ∧ W.cell? ((x.add (i * 7)).add 6) = some (.slice v le ca) ∧ A ≤ 9223372036854775807 ∧ le ≤ ca ∧ ca ≤ 9223372036854775807 ∧ ∃ l : List Int, l.length = le ∧ BytesAt W v l := by
        intro i hlt
        obtain ⟨cs, hc, ht⟩ := hi i (by omega)
        rw [e4] at hc
        obtain ⟨_, hcl, hat⟩ := World.cells?_some hc
        obtain ⟨c0, c1, c2, c3, c4, c5, c6, rfl⟩ := seven_of hcl
        obtain ⟨y0, y1, y2, n0, -, -, h0, h1, h2⟩ := Go.Deep.trod_struct3 Try.underlying44 ht
        simp only [e2, e3, List.drop_zero, List.drop_succ_cons, List.take_succ_cons, List.take_zero] at h0 h1 h2
        obtain ⟨n1, hfl⟩ := fields_of Try.underlying35 (by kernel_rfl) rfl h2
        obtain ⟨u0, z0, d0, g0⟩ := hfl 0 _ rfl
        obtain ⟨u1, z1, d1, g1⟩ := hfl 1 _ rfl
        obtain ⟨u2, z2, d2, g2⟩ := hfl 2 _ rfl
        obtain ⟨u3, z3, d3, g3⟩ := hfl 3 _ rfl
        obtain ⟨u4, z4, d4, g4⟩ := hfl 4 _ rfl
        obtain rfl : c2 = u0 := Option.some.inj d0
        obtain rfl : c3 = u1 := Option.some.inj d1
        obtain rfl : c4 = u2 := Option.some.inj d2
        obtain rfl : c5 = u3 := Option.some.inj d3
        obtain rfl : c6 = u4 := Option.some.inj d4
        obtain ⟨T, k0, _⟩ := DataW.trod_bool Try.underlying4 h0
        obtain ⟨X, k1, _⟩ := DataW.trod_bool Try.underlying4 h1
        obtain ⟨K, k2, _, _⟩ := DataW.trod_int Try.underlying3 g0
        obtain ⟨P, k3, _, _⟩ := DataW.trod_int Try.underlying3 g1
        obtain ⟨A, k4, _, hA⟩ := DataW.trod_int Try.underlying3 g2
        obtain ⟨M, k5, _, _⟩ := DataW.trod_int Try.underlying3 g3
        obtain ⟨a', le, ca, k6, q1, q2, q3⟩ := bytes_of g4
        cases k0
        cases k1
        cases k2
        cases k3
        cases k4
        cases k5
        subst k6
        have a0 := hat 0 (by decide)
        rw [show (x.add (i * 7)).add 0 = x.add (i * 7) from rfl] at a0
        exact ⟨T, X, K, P, A, M, a', le, ca, a0, hat 1 (by decide), hat 2 (by decide), hat 3 (by decide), hat 4 (by decide), hat 5 (by decide), hat 6 (by decide), (i64_of hA).2, q1, q2, q3⟩
      obtain ⟨b, off, spot⟩ := x
      obtain ⟨T, X, K, P, A, M, v, le, ca, hk, _⟩ := key 0 (by omega)
      have hspot : spot = none := by simpa [Addr.add] using World.cell?_spot hk
      subst hspot
      refine .inr ⟨b, off, rfl, fun i hlt => ?_⟩
      obtain ⟨T, X, K, P, A, M, v, le, ca, h1, h2, h3, h4, h5, h6, h7, h8⟩ := key i hlt
      rw [addr_add] at h1
      rw [addr_add, addr_add] at h2 h3 h4 h5 h6 h7
      exact ⟨T, X, h1, h2, K, P, A, M, v, le, ca, h3, h4, h5, h6, h7, h8⟩
end Go.Proofs.Ytcdolkbljheniaa
