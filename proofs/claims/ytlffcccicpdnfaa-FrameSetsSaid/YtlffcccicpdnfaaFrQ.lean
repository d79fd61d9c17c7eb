/-
  What the rows of stage 18 share: openers (things, instructions, calls, bytes).
-/
import Derived.Test.YtlffcccicpdnfaaBaseT
import Derived.Test.YtlffcccicpdnfaaFrBytes
import Derived.Test.YtlffcccicpdnfaaFrSets
import Derived.Test.YtlffcccicpdnfaaFrRefs
import Derived.Test.YtlffcccicpdnfaaFrNil
import Derived.Deep.Strs
namespace Go.Proofs.Ytlffcccicpdnfaa
open Go.ChangeShapes Go.WideShapes Go.ChangeAt Go.RowKit

theorem i64_of {a : Int} (h : (Lit.int .i64 a).wf = true) : fit a := by
  unfold fit
  simpa [Lit.wf, IntKind.min, IntKind.max, IntKind.signed, IntKind.bits] using h
theorem u64_of {a : Int} (h : (Lit.int .u64 a).wf = true) : a = ((a.toNat : Nat) : Int) ∧ W64 a.toNat := by
  have h2 : 0 ≤ a ∧ a ≤ 18446744073709551615 := by simpa [Lit.wf, IntKind.min, IntKind.max, IntKind.signed, IntKind.bits] using h
  unfold W64
  omega
theorem u8_of {a : Int} (h : (Lit.int .u8 a).wf = true) : a = ((a.toNat : Nat) : Int) ∧ a.toNat < 256 := by
  have h2 : 0 ≤ a ∧ a ≤ 255 := by simpa [Lit.wf, IntKind.min, IntKind.max, IntKind.signed, IntKind.bits] using h
  omega
/-- A struct of one-cell fields that is read out of its cells. -/
theorem fields_of {H : Type} {enc : TypeId × Value → H} {P : Program} {w : World} {base : Nat} {spare : Nat → Bool} {held : Bool} {e : TypeId} {fs : Array Field} {fuel : Nat} {cs : List Value} {x : DataW H × List MemPlace}
    (he : P.underlying e = some (.struct fs)) (hone : Go.Deep.oneCellFields P fs = true) (hC : cs.length = fs.size) (ht : DataW.trod enc P w base spare held fuel e cs = some x) :
    ∃ n, ∀ (j : Nat) (f : Field), fs[j]? = some f → ∃ v y, cs[j]? = some v ∧ DataW.trod enc P w base spare held n f.type [v] = some y := by
  obtain ⟨ys, n, _, _, hlen, hyl, hf⟩ := DataW.trod_struct he ht
  refine ⟨n, fun j f hj => ?_⟩
  have hlt : j < fs.size := (Array.getElem?_eq_some_iff.1 hj).1
  obtain ⟨ho, hk⟩ := Go.Deep.hone_of hone j f hj
  have h1 := hf j f hj
  have hjc : j < cs.length := by omega
  rw [ho, hk, List.drop_eq_getElem_cons hjc, List.take_succ_cons, List.take_zero, List.getElem?_eq_getElem (by omega)] at h1
  exact ⟨_, _, List.getElem?_eq_getElem hjc, h1⟩
theorem five_of {cs : List Value} (h : cs.length = 5) : ∃ a b c d e, cs = [a, b, c, d, e] := by
  match cs, h with
  | [a, b, c, d, e], _ => exact ⟨a, b, c, d, e, rfl⟩
/-- An instruction that is read. -/
theorem ins_read {H : Type} {enc : TypeId × Value → H} {W : World} {n : Nat} {cs : List Value} {x : DataW H × List MemPlace} (hl : cs.length = 5) (ht : DataW.trod enc Try.prog W 0 (fun _ => true) true n 65 cs = some x) : ∃ o : I5, Fit o ∧ cs = fiv o := by
  obtain ⟨n1, hfl⟩ := fields_of Try.underlying65 (by kernel_rfl) hl ht
  obtain ⟨c0, c1, c2, c3, c4, rfl⟩ := five_of hl
  obtain ⟨u0, z0, d0, g0⟩ := hfl 0 _ rfl
  obtain ⟨u1, z1, d1, g1⟩ := hfl 1 _ rfl
  obtain ⟨u2, z2, d2, g2⟩ := hfl 2 _ rfl
  obtain ⟨u3, z3, d3, g3⟩ := hfl 3 _ rfl
  obtain ⟨u4, z4, d4, g4⟩ := hfl 4 _ rfl
  obtain rfl : c0 = u0 := Option.some.inj d0
  obtain rfl : c1 = u1 := Option.some.inj d1
  obtain rfl : c2 = u2 := Option.some.inj d2
  obtain rfl : c3 = u3 := Option.some.inj d3
  obtain rfl : c4 = u4 := Option.some.inj d4
  obtain ⟨A, k0, _, h0⟩ := DataW.trod_int Try.underlying3 g0
  obtain ⟨B, k1, _, h1⟩ := DataW.trod_int Try.underlying3 g1
  obtain ⟨C, k2, _, h2⟩ := DataW.trod_int Try.underlying3 g2
  obtain ⟨D, k3, _, h3⟩ := DataW.trod_int Try.underlying3 g3
  obtain ⟨E, k4, _, h4⟩ := DataW.trod_int Try.underlying3 g4
  cases k0
  cases k1
  cases k2
  cases k3
  cases k4
  exact ⟨⟨A, B, C, D, E⟩, ⟨i64_of h0, i64_of h1, i64_of h2, i64_of h3, i64_of h4⟩, rfl⟩
/-- Instructions that came in. -/
theorem inss_opened {H : Type} {enc : TypeId × Value → H} {W : World} {a : Option Addr} {len cap : Nat} {d : DataW H} {p : List MemPlace} (h : DataW.Trod enc Try.prog W 0 (fun _ => true) true 58 (.slice a len cap) d p) :
    (len ≤ cap ∧ cap ≤ 9223372036854775807) ∧ ∃ L : List I5, L.length = len ∧ (∀ x ∈ L, Fit x) ∧ InsAt W a L := by
  obtain ⟨fuel, hf⟩ := h
  rcases Go.Deep.open_slice Try.underlying58 hf with ⟨hcs, _⟩ | ⟨x, l, c, m, n, D, Q, hcs, _, hl, hm, hmm, _, hi⟩
  · simp [Value.cells] at hcs
    obtain ⟨rfl, rfl, rfl⟩ := hcs
    exact ⟨⟨Nat.le_refl _, by decide⟩, [], rfl, (by intro x hx; cases hx), .inl rfl⟩
  · simp [Value.cells] at hcs
    obtain ⟨rfl, rfl, rfl⟩ := hcs
    simp at hmm
    unfold maxLen at hm
    refine ⟨⟨hl, hm⟩, ?_⟩
    have e5 : Try.prog.cellsOf 65 = 5 := by kernel_rfl
    have key : ∀ i, i < len → ∃ o : I5, Fit o ∧ ∀ j u, (fiv o)[j]? = some u → W.cell? ((x.add (i * 5)).add j) = some u := by
      intro i hlt
      obtain ⟨cs, hc, ht⟩ := hi i (by omega)
      rw [e5] at hc
      obtain ⟨_, hcl, hat⟩ := World.cells?_some hc
      obtain ⟨o, ho, e⟩ := ins_read hcl ht
      refine ⟨o, ho, fun j u hj => ?_⟩
      have hj5 : j < 5 := by have := (List.getElem?_eq_some_iff.1 hj).1; simpa [fiv] using this
      rw [hat j hj5, e]
      exact hj
    have build : ∀ k, k ≤ len → ∃ L : List I5, L.length = k ∧ (∀ x ∈ L, Fit x) ∧ ∀ i (hi : i < L.length), ∀ j u, (fiv L[i])[j]? = some u → W.cell? ((x.add (i * 5)).add j) = some u := by
      intro k
      induction k with
      | zero => intro _; exact ⟨[], rfl, (by intro x hx; cases hx), (by intro i hi; simp at hi)⟩
      | succ k ih =>
        intro hk
        obtain ⟨L, h1, h2, h3⟩ := ih (by omega)
        obtain ⟨o, ho, hc⟩ := key k (by omega)
        refine ⟨L ++ [o], by simp [h1], fun y hy => ?_, fun i hi j u hj => ?_⟩
        · simp only [List.mem_append, List.mem_cons, List.not_mem_nil, or_false] at hy
          rcases hy with hy | rfl
          · exact h2 y hy
          · exact ho
        · by_cases hik : i < L.length
          · rw [List.getElem_append_left hik] at hj
            exact h3 i hik j u hj
          · have hi3 : i = k := by simp at hi; omega
            subst hi3
            rw [List.getElem_append_right (by omega)] at hj
            simp only [h1, Nat.sub_self, List.getElem_cons_zero] at hj
            exact hc j u hj
    obtain ⟨L, h1, h2, h3⟩ := build len (Nat.le_refl _)
    refine ⟨L, h1, h2, ?_⟩
    by_cases h0 : len = 0
    · exact .inl (List.eq_nil_of_length_eq_zero (by omega))
    · obtain ⟨b, off, spot⟩ := x
      have hk := h3 0 (by omega) 0 _ rfl
      have hspot : spot = none := by simpa [Addr.add] using World.cell?_spot hk
      subst hspot
      refine .inr ⟨b, off, rfl, fun i hi => ?_⟩
      have hh := h3 i hi
      have g0 := hh 0 _ rfl; have g1 := hh 1 _ rfl; have g2 := hh 2 _ rfl; have g3 := hh 3 _ rfl; have g4 := hh 4 _ rfl
      rw [addr_add, addr_add] at g0 g1 g2 g3 g4
      exact ⟨g0, g1, g2, g3, g4⟩
set_option maxRecDepth 20000 in
/-- An instruction that comes in by value. -/
theorem ins_opened {H : Type} {enc : TypeId × Value → H} {W : World} {base : Nat} {v : Value} {d : DataW H} {p : List MemPlace} (hv : Value.okWide Try.prog W .any base 65 v) (h : DataW.Trod enc Try.prog W 0 (fun _ => true) true 65 v d p) :
    ∃ o : {x : I5 // Fit x}, v = iv o.1 := by
  obtain ⟨cs, rfl, hsz⟩ := okWide_struct Try.underlying65 hv
  obtain ⟨fuel, hf⟩ := h
  have hl : cs.toList.length = 5 := by
    have : Try.prog.cellsOf 65 = 5 := by kernel_rfl
    rw [this] at hsz
    simpa using hsz
  have hf2 : DataW.trod enc Try.prog W 0 (fun _ => true) true fuel 65 cs.toList = some (d, p) := by simpa [Value.cells] using hf
  obtain ⟨o, ho, e⟩ := ins_read hl hf2
  refine ⟨⟨o, ho⟩, ?_⟩
  have : cs = (fiv o).toArray := by rw [← e]
  rw [this]
  rfl
/-- A thing that is read. -/
theorem val_read {H : Type} {enc : TypeId × Value → H} {W : World} {n : Nat} {cs : List Value} {x : DataW H × List MemPlace} (hl : cs.length = 5) (ht : DataW.trod enc Try.prog W 0 (fun _ => true) true n 29 cs = some x) : ∃ o : V5, W64 o.n ∧ cs = vl o := by
  obtain ⟨n1, hfl⟩ := fields_of Try.underlying29 (by kernel_rfl) hl ht
  obtain ⟨c0, c1, c2, c3, c4, rfl⟩ := five_of hl
  obtain ⟨u0, z0, d0, g0⟩ := hfl 0 _ rfl
  obtain ⟨u1, z1, d1, g1⟩ := hfl 1 _ rfl
  obtain ⟨u2, z2, d2, g2⟩ := hfl 2 _ rfl
  obtain ⟨u3, z3, d3, g3⟩ := hfl 3 _ rfl
  obtain ⟨u4, z4, d4, g4⟩ := hfl 4 _ rfl
  obtain rfl : c0 = u0 := Option.some.inj d0
  obtain rfl : c1 = u1 := Option.some.inj d1
  obtain rfl : c2 = u2 := Option.some.inj d2
  obtain rfl : c3 = u3 := Option.some.inj d3
  obtain rfl : c4 = u4 := Option.some.inj d4
  obtain ⟨A, k0, _⟩ := DataW.trod_bool Try.underlying4 g0
  obtain ⟨B, k1, _, h1⟩ := DataW.trod_int Try.underlying3 g1
  obtain ⟨C, k2, _, h2⟩ := DataW.trod_int Try.underlying3 g2
  obtain ⟨D, k3, _, h3⟩ := DataW.trod_int Try.underlying3 g3
  obtain ⟨E, k4, _, h4⟩ := DataW.trod_int Try.underlying27 g4
  cases k0
  cases k1
  cases k2
  cases k3
  cases k4
  obtain ⟨e1, e2⟩ := u64_of h4
  exact ⟨⟨A, B, C, D, E.toNat⟩, e2, by unfold vl; rw [← e1]⟩
set_option maxRecDepth 20000 in
theorem val_opened {H : Type} {enc : TypeId × Value → H} {W : World} {base : Nat} {v : Value} {d : DataW H} {p : List MemPlace} (hv : Value.okWide Try.prog W .any base 29 v) (h : DataW.Trod enc Try.prog W 0 (fun _ => true) true 29 v d p) :
    ∃ o : V5, v = vv o := by
  obtain ⟨cs, rfl, hsz⟩ := okWide_struct Try.underlying29 hv
  obtain ⟨fuel, hf⟩ := h
  have hl : cs.toList.length = 5 := by
    have : Try.prog.cellsOf 29 = 5 := by kernel_rfl
    rw [this] at hsz
    simpa using hsz
  have hf2 : DataW.trod enc Try.prog W 0 (fun _ => true) true fuel 29 cs.toList = some (d, p) := by simpa [Value.cells] using hf
  obtain ⟨o, _, e⟩ := val_read hl hf2
  refine ⟨o, ?_⟩
  have : cs = (vl o).toArray := by rw [← e]
  rw [this]
  rfl
/-- Things that came in. -/
theorem vals_opened {H : Type} {enc : TypeId × Value → H} {W : World} {a : Option Addr} {len cap : Nat} {d : DataW H} {p : List MemPlace} (h : DataW.Trod enc Try.prog W 0 (fun _ => true) true 47 (.slice a len cap) d p) :
    (len ≤ cap ∧ cap ≤ 9223372036854775807) ∧ ∃ L : List V5, L.length = len ∧ (∀ x ∈ L, W64 x.n) ∧ ValsAt W a L := by
  obtain ⟨fuel, hf⟩ := h
  rcases Go.Deep.open_slice Try.underlying47 hf with ⟨hcs, _⟩ | ⟨x, l, c, m, n, D, Q, hcs, _, hl, hm, hmm, _, hi⟩
  · simp [Value.cells] at hcs
    obtain ⟨rfl, rfl, rfl⟩ := hcs
    exact ⟨⟨Nat.le_refl _, by decide⟩, [], rfl, (by intro x hx; cases hx), .inl rfl⟩
  · simp [Value.cells] at hcs
    obtain ⟨rfl, rfl, rfl⟩ := hcs
    simp at hmm
    unfold maxLen at hm
    refine ⟨⟨hl, hm⟩, ?_⟩
    have e5 : Try.prog.cellsOf 29 = 5 := by kernel_rfl
    have key : ∀ i, i < len → ∃ o : V5, W64 o.n ∧ ∀ j u, (vl o)[j]? = some u → W.cell? ((x.add (i * 5)).add j) = some u := by
      intro i hlt
      obtain ⟨cs, hc, ht⟩ := hi i (by omega)
      rw [e5] at hc
      obtain ⟨_, hcl, hat⟩ := World.cells?_some hc
      obtain ⟨o, ho, e⟩ := val_read hcl ht
      refine ⟨o, ho, fun j u hj => ?_⟩
      have hj5 : j < 5 := by have := (List.getElem?_eq_some_iff.1 hj).1; simpa [vl] using this
      rw [hat j hj5, e]
      exact hj
    have build : ∀ k, k ≤ len → ∃ L : List V5, L.length = k ∧ (∀ x ∈ L, W64 x.n) ∧ ∀ i (hi : i < L.length), ∀ j u, (vl L[i])[j]? = some u → W.cell? ((x.add (i * 5)).add j) = some u := by
      intro k
      induction k with
      | zero => intro _; exact ⟨[], rfl, (by intro x hx; cases hx), (by intro i hi; simp at hi)⟩
      | succ k ih =>
        intro hk
        obtain ⟨L, h1, h2, h3⟩ := ih (by omega)
        obtain ⟨o, ho, hc⟩ := key k (by omega)
        refine ⟨L ++ [o], by simp [h1], fun y hy => ?_, fun i hi j u hj => ?_⟩
        · simp only [List.mem_append, List.mem_cons, List.not_mem_nil, or_false] at hy
          rcases hy with hy | rfl
          · exact h2 y hy
          · exact ho
        · by_cases hik : i < L.length
          · rw [List.getElem_append_left hik] at hj
            exact h3 i hik j u hj
          · have hi3 : i = k := by simp at hi; omega
            subst hi3
            rw [List.getElem_append_right (by omega)] at hj
            simp only [h1, Nat.sub_self, List.getElem_cons_zero] at hj
            exact hc j u hj
    obtain ⟨L, h1, h2, h3⟩ := build len (Nat.le_refl _)
    refine ⟨L, h1, h2, ?_⟩
    by_cases h0 : len = 0
    · exact .inl (List.eq_nil_of_length_eq_zero (by omega))
    · obtain ⟨b, off, spot⟩ := x
      have hk := h3 0 (by omega) 0 _ rfl
      have hspot : spot = none := by simpa [Addr.add] using World.cell?_spot hk
      subst hspot
      refine .inr ⟨b, off, rfl, fun i hi => ?_⟩
      have hh := h3 i hi
      have g0 := hh 0 _ rfl; have g1 := hh 1 _ rfl; have g2 := hh 2 _ rfl; have g3 := hh 3 _ rfl; have g4 := hh 4 _ rfl
      rw [addr_add, addr_add] at g0 g1 g2 g3 g4
      exact ⟨g0, g1, g2, g3, g4⟩
theorem seven_of {cs : List Value} (h : cs.length = 7) : ∃ a b c d e f g, cs = [a, b, c, d, e, f, g] := by
  match cs, h with
  | [a, b, c, d, e, f, g], _ => exact ⟨a, b, c, d, e, f, g, rfl⟩
/-- Calls that came in. -/
theorem acts_opened {H : Type} {enc : TypeId × Value → H} {W : World} {a : Option Addr} {len cap : Nat} {d : DataW H} {p : List MemPlace} (h : DataW.Trod enc Try.prog W 0 (fun _ => true) true 22 (.slice a len cap) d p) : ActsAt W a len := by
  obtain ⟨fuel, hf⟩ := h
  rcases Go.Deep.open_slice Try.underlying22 hf with ⟨hcs, _⟩ | ⟨x, l, c, m, n, D, Q, hcs, _, hl, hm, hmm, _, hi⟩
  · simp [Value.cells] at hcs
    obtain ⟨rfl, rfl, rfl⟩ := hcs
    exact .inl rfl
  · simp [Value.cells] at hcs
    obtain ⟨rfl, rfl, rfl⟩ := hcs
    simp at hmm
    by_cases h0 : len = 0
    · exact .inl h0
    · have e1 : Try.prog.cellsOf 3 = 1 := by kernel_rfl
      have e2 : Try.prog.cellsOf 4 = 1 := by kernel_rfl
      have e3 : Try.prog.cellsOf 29 = 5 := by kernel_rfl
      have e4 : Try.prog.cellsOf 34 = 7 := by kernel_rfl
      have key : ∀ i, i < len → ∃ S t y, ∀ j u, ([Value.bool S, .int .i64 t] ++ vl y)[j]? = some u → W.cell? ((x.add (i * 7)).add j) = some u := by
        intro i hlt
        obtain ⟨cs, hc, ht⟩ := hi i (by omega)
        rw [e4] at hc
        obtain ⟨_, hcl, hat⟩ := World.cells?_some hc
        obtain ⟨c0, c1, c2, c3, c4, c5, c6, rfl⟩ := seven_of hcl
        obtain ⟨y0, y1, y2, n0, -, -, h0, h1, h2⟩ := Go.Deep.trod_struct3 Try.underlying34 ht
        simp only [e1, e2, e3, List.drop_zero, List.drop_succ_cons, List.take_succ_cons, List.take_zero] at h0 h1 h2
        obtain ⟨T, k0, _⟩ := DataW.trod_bool Try.underlying4 h0
        obtain ⟨K, k1, _, _⟩ := DataW.trod_int Try.underlying3 h1
        obtain ⟨y, _, e⟩ := val_read rfl h2
        cases k0
        cases k1
        refine ⟨T, K, y, fun j u hj => ?_⟩
        have hj7 : j < 7 := by have := (List.getElem?_eq_some_iff.1 hj).1; simpa [vl] using this
        rw [hat j hj7]
        rw [← e] at hj
        exact hj
      obtain ⟨b, off, spot⟩ := x
      obtain ⟨S, t, y, hk⟩ := key 0 (by omega)
      have hspot : spot = none := by simpa [Addr.add] using World.cell?_spot (hk 0 _ rfl)
      subst hspot
      refine .inr ⟨b, off, rfl, fun i hlt => ?_⟩
      obtain ⟨S, t, y, hh⟩ := key i hlt
      have g0 := hh 0 _ rfl; have g1 := hh 1 _ rfl; have g2 := hh 2 _ rfl; have g3 := hh 3 _ rfl; have g4 := hh 4 _ rfl; have g5 := hh 5 _ rfl; have g6 := hh 6 _ rfl
      rw [addr_add, addr_add] at g0 g1 g2 g3 g4 g5 g6
      exact ⟨S, t, y, g0, g1, g2, g3, g4, g5, g6⟩
/-- Bytes that came in. -/
theorem bytes_opened {H : Type} {enc : TypeId × Value → H} {W : World} {a : Option Addr} {len cap : Nat} {d : DataW H} {p : List MemPlace} (h : DataW.Trod enc Try.prog W 0 (fun _ => true) true 48 (.slice a len cap) d p) :
    len ≤ cap ∧ ∃ l : List Nat, l.length = len ∧ (∀ x ∈ l, x < 256) ∧ BA W a l := by
  obtain ⟨fuel, hf⟩ := h
  rcases open_ints Try.underlying48 Try.underlying5 (by kernel_rfl) hf with ⟨hcs, _⟩ | ⟨x, l, c, zs, hcs, _, hl, hm, hz, _, hcell, hwf⟩
  · simp [Value.cells] at hcs
    obtain ⟨rfl, rfl, rfl⟩ := hcs
    exact ⟨Nat.le_refl _, [], rfl, (by intro x hx; cases hx), .inl rfl⟩
  · simp [Value.cells] at hcs
    obtain ⟨rfl, rfl, rfl⟩ := hcs
    have hz : zs.length = cap := by simpa using hz
    have hw : ∀ i, zs.getD i 0 = (((zs.getD i 0).toNat : Nat) : Int) ∧ (zs.getD i 0).toNat < 256 := fun i => by
      by_cases hi : i < zs.length
      · have : zs.getD i 0 ∈ zs := by simp [List.getD, List.getElem?_eq_getElem hi]
        exact u8_of (hwf _ this)
      · simp [List.getD, List.getElem?_eq_none (Nat.le_of_not_lt hi)]
    refine ⟨hl, (List.range len).map (fun i => (zs.getD i 0).toNat), by simp, fun y hy => ?_, ?_⟩
    · obtain ⟨i, _, rfl⟩ := List.mem_map.1 hy
      exact (hw i).2
    · by_cases h0 : len = 0
      · subst h0; exact .inl rfl
      · obtain ⟨b, off, spot⟩ := x
        have hc := hcell 0 (by omega)
        have hspot : spot = none := by simpa [Addr.add] using World.cell?_spot hc
        subst hspot
        refine .inr ⟨b, off, rfl, fun i hi => ?_⟩
        have hil : i < len := by simpa using hi
        have hci := hcell i (by omega)
        rw [addr_add] at hci
        rw [List.getElem_map, List.getElem_range, ← (hw i).1]
        exact hci

/-! ### The laws, of arguments as the rows have them -/
theorem sets_row {a : Option Addr} {n c : Nat} {w : World} (h : ActsAt w a n) :
    Calls Try.prog 3 #[.slice a n c] w fun e w' => e = .returned (.bool true) ∧ Below w.heap.size w w' :=
  (sets_law h).mono fun _ _ k => ⟨k.1, k.2.below _ (by simp) (Nat.le_refl _)⟩
theorem bytes_row {a v : Option Addr} {n0 c0 n1 c1 : Nat} {x y z : Int} {w : World} (h0 : (n0 ≤ c0 ∧ c0 ≤ 9223372036854775807) ∧ ∃ L : List V5, L.length = n0 ∧ (∀ x ∈ L, W64 x.n) ∧ ValsAt w a L) (hx : (Lit.int .i64 x).wf = true) (h1 : n1 ≤ c1 ∧ ∃ l : List Nat, l.length = n1 ∧ (∀ x ∈ l, x < 256) ∧ BA w v l) (hy : (Lit.int .i64 y).wf = true) :
    Calls Try.prog 4 #[.slice a n0 c0, .int .i64 x, .slice v n1 c1, .int .i64 y, .int .i64 z] w fun e w' => e = .returned (.bool true) ∧ Below w.heap.size w w' := by
  obtain ⟨-, L, k1, k2, k3⟩ := h0
  obtain ⟨j0, l, j1, j2, j3⟩ := h1
  exact (bytes_law k1 k3 k2 (i64_of hx) (i64_of hy) j1 j0 j2 j3).mono fun _ _ k => ⟨k.1, k.2.below _ (by simp) (Nat.le_refl _)⟩
theorem refs_row {a v : Option Addr} {n0 c0 n1 c1 : Nat} {w : World} (h0 : (n0 ≤ c0 ∧ c0 ≤ 9223372036854775807) ∧ ∃ L : List V5, L.length = n0 ∧ (∀ x ∈ L, W64 x.n) ∧ ValsAt w a L) (h1 : (n1 ≤ c1 ∧ c1 ≤ 9223372036854775807) ∧ ∃ L : List I5, L.length = n1 ∧ (∀ x ∈ L, Fit x) ∧ InsAt w v L) :
    Calls Try.prog 5 #[.slice a n0 c0, .slice v n1 c1] w fun e w' => e = .returned (.bool true) ∧ Below w.heap.size w w' := by
  obtain ⟨k0, L, k1, k2, k3⟩ := h0
  obtain ⟨-, I, j1, j2, j3⟩ := h1
  exact (refs_law k1 k0.1 k3 k2 j1 j3 j2).mono fun _ _ k => ⟨k.1, k.2.below _ (by simp) (Nat.le_refl _)⟩
theorem nil_row (x : Int) (v : V5) (i : I5) (a : Option Addr) (n c : Nat) (w : World) :
    Calls Try.prog 6 #[.int .i64 x, vv v, iv i, .slice a n c] w fun e w' => e = .returned (.bool true) ∧ Below w.heap.size w w' :=
  (nil_law x v i a n c w).mono fun _ _ k => ⟨k.1, k.2.below _ (by simp) (Nat.le_refl _)⟩
end Go.Proofs.Ytlffcccicpdnfaa
