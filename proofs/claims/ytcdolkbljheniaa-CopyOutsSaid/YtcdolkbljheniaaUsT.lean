/-
  What the rows of stage 13 share: openers of bytes and of calls.
-/
import Derived.Test.YtcdolkbljheniaaBaseT
import Derived.Test.YtcdolkbljheniaaUsC
namespace Go.Proofs.Ytcdolkbljheniaa
open Go.ChangeShapes Go.WideShapes Go.ChangeAt Go.RowKit

theorem bytes_of {H : Type} {enc : TypeId × Value → H} {W : World} {v : Value} {n : Nat} {x : DataW H × List MemPlace} (hf : DataW.trod enc Try.prog W 0 (fun _ => true) true n 23 [v] = some x) :
    ∃ a len cap, v = .slice a len cap ∧ len ≤ cap ∧ cap ≤ 9223372036854775807 ∧ ∃ l : List Int, l.length = len ∧ BytesAt W a l := by
  rcases open_ints Try.underlying23 Try.underlying5 (by kernel_rfl) hf with ⟨hcs, _⟩ | ⟨x, l, c, zs, hcs, _, hl, hm, hz, _, hcell, _⟩
  · simp at hcs
    subst hcs
    exact ⟨none, 0, 0, rfl, Nat.le_refl _, by decide, [], rfl, .inl rfl⟩
  · simp at hcs
    subst hcs
    have hz : zs.length = c := by simpa using hz
    unfold maxLen at hm
    refine ⟨_, l, c, rfl, hl, hm, zs.take l, by rw [List.length_take]; omega, ?_⟩
    by_cases h0 : l = 0
    · subst h0; exact .inl (by simp)
    · obtain ⟨b, off, spot⟩ := x
      have hc := hcell 0 (by omega)
      have hspot : spot = none := by simpa [Addr.add] using World.cell?_spot hc
      subst hspot
      refine .inr ⟨b, off, rfl, fun i hi => ?_⟩
      rw [List.length_take] at hi
      have hi2 : i < l := by omega
      have hci := hcell i (by omega)
      rw [addr_add] at hci
      rw [hci]
      simp
      rw [List.getElem?_eq_getElem (by omega)]
      rfl
theorem bytes_opened {H : Type} {enc : TypeId × Value → H} {W : World} {a : Option Addr} {len cap : Nat} {d : DataW H} {p : List MemPlace} (h : DataW.Trod enc Try.prog W 0 (fun _ => true) true 23 (.slice a len cap) d p) :
    len ≤ cap ∧ cap ≤ 9223372036854775807 ∧ ∃ l : List Int, l.length = len ∧ BytesAt W a l := by
  obtain ⟨fuel, hf⟩ := h
  obtain ⟨a', len', cap', e, h1, h2, h3⟩ := bytes_of (v := .slice a len cap) hf
  cases e
  exact ⟨h1, h2, h3⟩
/-- A call that came in: its kind, the page, the address, how many, the bytes, in five cells from o on. -/
def ActAt (W : World) (b o : Nat) : Prop := ∃ K P A M v len cap, W.cell? ⟨b, o, none⟩ = some (.int .i64 K) ∧ W.cell? ⟨b, o + 1, none⟩ = some (.int .i64 P) ∧ W.cell? ⟨b, o + 2, none⟩ = some (.int .i64 A) ∧ W.cell? ⟨b, o + 3, none⟩ = some (.int .i64 M) ∧ W.cell? ⟨b, o + 4, none⟩ = some (.slice v len cap) ∧ A ≤ 9223372036854775807 ∧ len ≤ cap ∧ cap ≤ 9223372036854775807 ∧ ∃ l : List Int, l.length = len ∧ BytesAt W v l
def ActsAt (W : World) (a : Option Addr) (len : Nat) : Prop := len = 0 ∨ ∃ b off, a = some ⟨b, off, none⟩ ∧ ∀ i, i < len → ActAt W b (off + i * 5)
theorem ActAt.ch {W W' : World} {b o : Nat} (h : ActAt W b o) (hc : Ch [] W W') : ActAt W' b o := by
  obtain ⟨K, P, A, M, v, len, cap, c0, c1, c2, c3, c4, h1, h2, h3, l, hl, hb⟩ := h
  exact ⟨K, P, A, M, v, len, cap, (hc.cell (p := ⟨b, o, none⟩) (cell_lt c0) (by simp)).trans c0, (hc.cell (p := ⟨b, o + 1, none⟩) (cell_lt c1) (by simp)).trans c1, (hc.cell (p := ⟨b, o + 2, none⟩) (cell_lt c2) (by simp)).trans c2, (hc.cell (p := ⟨b, o + 3, none⟩) (cell_lt c3) (by simp)).trans c3, (hc.cell (p := ⟨b, o + 4, none⟩) (cell_lt c4) (by simp)).trans c4, h1, h2, h3, l, hl, hb.ch hc (by simp)⟩
theorem ActsAt.ch {W W' : World} {a : Option Addr} {len : Nat} (h : ActsAt W a len) (hc : Ch [] W W') : ActsAt W' a len := by
  rcases h with h | ⟨b, off, e, h⟩
  · exact .inl h
  · exact .inr ⟨b, off, e, fun i hi => (h i hi).ch hc⟩
theorem acts_opened {H : Type} {enc : TypeId × Value → H} {W : World} {a : Option Addr} {len cap : Nat} {d : DataW H} {p : List MemPlace} (h : DataW.Trod enc Try.prog W 0 (fun _ => true) true 22 (.slice a len cap) d p) :
    len ≤ 9223372036854775807 ∧ ActsAt W a len := by
  obtain ⟨fuel, hf⟩ := h
  rcases Go.Deep.open_slice Try.underlying22 hf with ⟨hcs, _⟩ | ⟨x, l, c, m, n, D, Q, hcs, _, hl, hm, hmm, _, hi⟩
  · simp [Value.cells] at hcs
    obtain ⟨rfl, rfl, rfl⟩ := hcs
    exact ⟨by decide, .inl rfl⟩
  · simp [Value.cells] at hcs
    obtain ⟨rfl, rfl, rfl⟩ := hcs
    simp at hmm
    unfold maxLen at hm
    refine ⟨by omega, ?_⟩
    by_cases h0 : len = 0
    · exact .inl h0
    · have key : ∀ i, i < len → ∃ K P A M v le ca, W.cell? (x.add (i * 5)) = some (.int .i64 K) ∧ W.cell? ((x.add (i * 5)).add 1) = some (.int .i64 P) ∧ W.cell? ((x.add (i * 5)).add 2) = some (.int .i64 A) ∧ W.cell? ((x.add (i * 5)).add 3) = some (.int .i64 M) ∧ W.cell? ((x.add (i * 5)).add 4) = some (.slice v le ca) ∧ A ≤ 9223372036854775807 ∧ le ≤ ca ∧ ca ≤ 9223372036854775807 ∧ ∃ l : List Int, l.length = le ∧ BytesAt W v l := by
        intro i hlt
        obtain ⟨cs, hc, ht⟩ := hi i (by omega)
        rw [show Try.prog.cellsOf 35 = 5 by kernel_rfl] at hc
        obtain ⟨n', hfa⟩ := fields_at Try.underlying35 (by kernel_rfl) (by kernel_rfl) (by rw [show Try.prog.cellsOf 35 = 5 by kernel_rfl]; exact hc) ht
        obtain ⟨v0, y0, c0, t0⟩ := hfa 0 _ rfl
        obtain ⟨v1, y1, c1, t1⟩ := hfa 1 _ rfl
        obtain ⟨v2, y2, c2, t2⟩ := hfa 2 _ rfl
        obtain ⟨v3, y3, c3, t3⟩ := hfa 3 _ rfl
        obtain ⟨v4, y4, c4, t4⟩ := hfa 4 _ rfl
        obtain ⟨K, e0, _, _⟩ := DataW.trod_int Try.underlying3 t0
        obtain ⟨P, e1, _, _⟩ := DataW.trod_int Try.underlying3 t1
        obtain ⟨A, e2, _, hA⟩ := DataW.trod_int Try.underlying3 t2
        obtain ⟨M, e3, _, _⟩ := DataW.trod_int Try.underlying3 t3
        obtain ⟨a', le, ca, e4, h1, h2, h3⟩ := bytes_of t4
        cases e0
        cases e1
        cases e2
        cases e3
        subst e4
        exact ⟨K, P, A, M, a', le, ca, by rw [show (x.add (i * 5)).add 0 = x.add (i * 5) from rfl] at c0; exact c0, c1, c2, c3, c4, (i64_of hA).2, h1, h2, h3⟩
      obtain ⟨b, off, spot⟩ := x
      obtain ⟨K, P, A, M, v, le, ca, hk, _⟩ := key 0 (by omega)
      have hspot : spot = none := by simpa [Addr.add] using World.cell?_spot hk
      subst hspot
      refine .inr ⟨b, off, rfl, fun i hlt => ?_⟩
      obtain ⟨K, P, A, M, v, le, ca, h1, h2, h3, h4, h5, h6⟩ := key i hlt
      rw [addr_add] at h1
      rw [addr_add, addr_add] at h2 h3 h4 h5
      exact ⟨K, P, A, M, v, le, ca, h1, h2, h3, h4, h5, h6⟩
end Go.Proofs.Ytcdolkbljheniaa
