/-
  What the cards of stage 19 share: openers of instructions and of things in a slice, of a thing by value; the tables as the rows list them; a world for the witnesses. (Written by gen/vm19x.py.)
-/
import Derived.Test.YtpbdmlipdfdblaaDoorCards
import Derived.Test.YtpbdmlipdfdblaaDoorTie
import Derived.Test.YtpbdmlipdfdblaaDoorBaseT
import Derived.Test.YtpbdmlipdfdblaaDoorMgL
import Derived.WalkKit
import Derived.ProofKit
import Derived.OpenShut
import Derived.Deep.DeepHandedRow
import Derived.Deep.Strs
import Derived.LaidSub
import Derived.MakeChecks
import Derived.Lib.LaidTab
namespace Go.Proofs.YtpbdmlipdfdblaaDoor
open Go.ChangeShapes Go.WideShapes Go.ChangeAt Go.RowKit

theorem i64_of {a : Int} (h : (Lit.int .i64 a).wf = true) : fit a := by
  unfold fit
  simpa [Lit.wf, IntKind.min, IntKind.max, IntKind.signed, IntKind.bits] using h
theorem u64_of {a : Int} (h : (Lit.int .u64 a).wf = true) : a = ((a.toNat : Nat) : Int) ∧ W64 a.toNat := by
  have h2 : 0 ≤ a ∧ a ≤ 18446744073709551615 := by simpa [Lit.wf, IntKind.min, IntKind.max, IntKind.signed, IntKind.bits] using h
  unfold W64
  omega
theorem u8_of {a : Int} (h : (Lit.int .u8 a).wf = true) : a = ((a.toNat : Nat) : Int) ∧ a.toNat < 256 := by
  have h2 : 0 ≤ a ∧ a ≤ 255 := by simpa [Lit.wf, IntKind.min, IntKind.max, IntKind.signed, IntKind.bits] using h
  omega
/-- A struct of one-cell fields that is read out of its cells. -/
theorem fields_of {H : Type} {enc : TypeId × Value → H} {P : Program} {w : World} {base : Nat} {spare : Nat → Bool} {held : Bool} {e : TypeId} {fs : Array Field} {fuel : Nat} {cs : List Value} {x : DataW H × List MemPlace}
    (he : P.underlying e = some (.struct fs)) (hone : Go.Deep.oneCellFields P fs = true) (hC : cs.length = fs.size) (ht : DataW.trod enc P w base spare held fuel e cs = some x) :
    ∃ n, ∀ (j : Nat) (f : Field), fs[j]? = some f → ∃ v y, cs[j]? = some v ∧ DataW.trod enc P w base spare held n f.type [v] = some y := by
  obtain ⟨ys, n, _, _, hlen, hyl, hf⟩ := DataW.trod_struct he ht
  refine ⟨n, fun j f hj => ?_⟩
  have hlt : j < fs.size := (Array.getElem?_eq_some_iff.1 hj).1
  obtain ⟨ho, hk⟩ := Go.Deep.hone_of hone j f hj
  have h1 := hf j f hj
  have hjc : j < cs.length := by omega
  rw [ho, hk, List.drop_eq_getElem_cons hjc, List.take_succ_cons, List.take_zero, List.getElem?_eq_getElem (by omega)] at h1
  exact ⟨_, _, List.getElem?_eq_getElem hjc, h1⟩
theorem five_of {cs : List Value} (h : cs.length = 5) : ∃ a b c d e, cs = [a, b, c, d, e] := by
  match cs, h with
  | [a, b, c, d, e], _ => exact ⟨a, b, c, d, e, rfl⟩
/-- An instruction that is read. -/
theorem ins_read {H : Type} {enc : TypeId × Value → H} {W : World} {n : Nat} {cs : List Value} {x : DataW H × List MemPlace} (hl : cs.length = 5) (ht : DataW.trod enc Tryd.prog W 0 (fun _ => true) true n 80 cs = some x) : ∃ o : I5, Fit o ∧ cs = fiv o := by
  obtain ⟨n1, hfl⟩ := fields_of Tryd.underlying80 (by kernel_rfl) hl ht
  obtain ⟨c0, c1, c2, c3, c4, rfl⟩ := five_of hl
  obtain ⟨u0, z0, d0, g0⟩ := hfl 0 _ rfl
  obtain ⟨u1, z1, d1, g1⟩ := hfl 1 _ rfl
  obtain ⟨u2, z2, d2, g2⟩ := hfl 2 _ rfl
  obtain ⟨u3, z3, d3, g3⟩ := hfl 3 _ rfl
  obtain ⟨u4, z4, d4, g4⟩ := hfl 4 _ rfl
  obtain rfl : c0 = u0 := Option.some.inj d0
  obtain rfl : c1 = u1 := Option.some.inj d1
  obtain rfl : c2 = u2 := Option.some.inj d2
  obtain rfl : c3 = u3 := Option.some.inj d3
  obtain rfl : c4 = u4 := Option.some.inj d4
  obtain ⟨A, k0, _, h0⟩ := DataW.trod_int Tryd.underlying3 g0
  obtain ⟨B, k1, _, h1⟩ := DataW.trod_int Tryd.underlying3 g1
  obtain ⟨C, k2, _, h2⟩ := DataW.trod_int Tryd.underlying3 g2
  obtain ⟨D, k3, _, h3⟩ := DataW.trod_int Tryd.underlying3 g3
  obtain ⟨E, k4, _, h4⟩ := DataW.trod_int Tryd.underlying3 g4
  cases k0
  cases k1
  cases k2
  cases k3
  cases k4
  exact ⟨⟨A, B, C, D, E⟩, ⟨i64_of h0, i64_of h1, i64_of h2, i64_of h3, i64_of h4⟩, rfl⟩
/-- Instructions that came in. -/
theorem inss_opened {H : Type} {enc : TypeId × Value → H} {W : World} {a : Option Addr} {len cap : Nat} {d : DataW H} {p : List MemPlace} (h : DataW.Trod enc Tryd.prog W 0 (fun _ => true) true 22 (.slice a len cap) d p) :
    (len ≤ cap ∧ cap ≤ 9223372036854775807) ∧ ∃ L : List I5, L.length = len ∧ (∀ x ∈ L, Fit x) ∧ InsAt W a L := by
  obtain ⟨fuel, hf⟩ := h
  rcases Go.Deep.open_slice Tryd.underlying22 hf with ⟨hcs, _⟩ | ⟨x, l, c, m, n, D, Q, hcs, _, hl, hm, hmm, _, hi⟩
  · simp [Value.cells] at hcs
    obtain ⟨rfl, rfl, rfl⟩ := hcs
    exact ⟨⟨Nat.le_refl _, by decide⟩, [], rfl, (by intro x hx; cases hx), .inl rfl⟩
  · simp [Value.cells] at hcs
    obtain ⟨rfl, rfl, rfl⟩ := hcs
    simp at hmm
    unfold maxLen at hm
    refine ⟨⟨hl, hm⟩, ?_⟩
    have e5 : Tryd.prog.cellsOf 80 = 5 := by kernel_rfl
    have key : ∀ i, i < len → ∃ o : I5, Fit o ∧ ∀ j u, (fiv o)[j]? = some u → W.cell? ((x.add (i * 5)).add j) = some u := by
      intro i hlt
      obtain ⟨cs, hc, ht⟩ := hi i (by omega)
      rw [e5] at hc
      obtain ⟨_, hcl, hat⟩ := World.cells?_some hc
      obtain ⟨o, ho, e⟩ := ins_read hcl ht
      refine ⟨o, ho, fun j u hj => ?_⟩
      have hj5 : j < 5 := by have := (List.getElem?_eq_some_iff.1 hj).1; simpa [fiv] using this
      rw [hat j hj5, e]
      exact hj
    have build : ∀ k, k ≤ len → ∃ L : List I5, L.length = k ∧ (∀ x ∈ L, Fit x) ∧ ∀ i (hi : i < L.length), ∀ j u, (fiv L[i])[j]? = some u → W.cell? ((x.add (i * 5)).add j) = some u := by
      intro k
      induction k with
      | zero => intro _; exact ⟨[], rfl, (by intro x hx; cases hx), (by intro i hi; simp at hi)⟩
      | succ k ih =>
        intro hk
        obtain ⟨L, h1, h2, h3⟩ := ih (by omega)
        obtain ⟨o, ho, hc⟩ := key k (by omega)
        refine ⟨L ++ [o], by simp [h1], fun y hy => ?_, fun i hi j u hj => ?_⟩
        · simp only [List.mem_append, List.mem_cons, List.not_mem_nil, or_false] at hy
          rcases hy with hy | rfl
          · exact h2 y hy
          · exact ho
        · by_cases hik : i < L.length
          · rw [List.getElem_append_left hik] at hj
            exact h3 i hik j u hj
          · have hi3 : i = k := by simp at hi; omega
            subst hi3
            rw [List.getElem_append_right (by omega)] at hj
            simp only [h1, Nat.sub_self, List.getElem_cons_zero] at hj
            exact hc j u hj
    obtain ⟨L, h1, h2, h3⟩ := build len (Nat.le_refl _)
    refine ⟨L, h1, h2, ?_⟩
    by_cases h0 : len = 0
    · exact .inl (List.eq_nil_of_length_eq_zero (by omega))
    · obtain ⟨b, off, spot⟩ := x
      have hk := h3 0 (by omega) 0 _ rfl
      have hspot : spot = none := by simpa [Addr.add] using World.cell?_spot hk
      subst hspot
      refine .inr ⟨b, off, rfl, fun i hi => ?_⟩
      have hh := h3 i hi
      have g0 := hh 0 _ rfl; have g1 := hh 1 _ rfl; have g2 := hh 2 _ rfl; have g3 := hh 3 _ rfl; have g4 := hh 4 _ rfl
      rw [addr_add, addr_add] at g0 g1 g2 g3 g4
      exact ⟨g0, g1, g2, g3, g4⟩
/-- A thing that is read. -/
theorem val_read {H : Type} {enc : TypeId × Value → H} {W : World} {n : Nat} {cs : List Value} {x : DataW H × List MemPlace} (hl : cs.length = 5) (ht : DataW.trod enc Tryd.prog W 0 (fun _ => true) true n 52 cs = some x) : ∃ o : V5, W64 o.n ∧ cs = vl o := by
  obtain ⟨n1, hfl⟩ := fields_of Tryd.underlying52 (by kernel_rfl) hl ht
  obtain ⟨c0, c1, c2, c3, c4, rfl⟩ := five_of hl
  obtain ⟨u0, z0, d0, g0⟩ := hfl 0 _ rfl
  obtain ⟨u1, z1, d1, g1⟩ := hfl 1 _ rfl
  obtain ⟨u2, z2, d2, g2⟩ := hfl 2 _ rfl
  obtain ⟨u3, z3, d3, g3⟩ := hfl 3 _ rfl
  obtain ⟨u4, z4, d4, g4⟩ := hfl 4 _ rfl
  obtain rfl : c0 = u0 := Option.some.inj d0
  obtain rfl : c1 = u1 := Option.some.inj d1
  obtain rfl : c2 = u2 := Option.some.inj d2
  obtain rfl : c3 = u3 := Option.some.inj d3
  obtain rfl : c4 = u4 := Option.some.inj d4
  obtain ⟨A, k0, _⟩ := DataW.trod_bool Tryd.underlying4 g0
  obtain ⟨B, k1, _, h1⟩ := DataW.trod_int Tryd.underlying3 g1
  obtain ⟨C, k2, _, h2⟩ := DataW.trod_int Tryd.underlying3 g2
  obtain ⟨D, k3, _, h3⟩ := DataW.trod_int Tryd.underlying3 g3
  obtain ⟨E, k4, _, h4⟩ := DataW.trod_int Tryd.underlying28 g4
  cases k0
  cases k1
  cases k2
  cases k3
  cases k4
  obtain ⟨e1, e2⟩ := u64_of h4
  exact ⟨⟨A, B, C, D, E.toNat⟩, e2, by unfold vl; rw [← e1]⟩
set_option maxRecDepth 20000 in
theorem val_opened {H : Type} {enc : TypeId × Value → H} {W : World} {base : Nat} {v : Value} {d : DataW H} {p : List MemPlace} (hv : Value.okWide Tryd.prog W .any base 52 v) (h : DataW.Trod enc Tryd.prog W 0 (fun _ => true) true 52 v d p) :
    ∃ o : {x : V5 // W64 x.n}, v = vv o.1 := by
  obtain ⟨cs, rfl, hsz⟩ := okWide_struct Tryd.underlying52 hv
  obtain ⟨fuel, hf⟩ := h
  have hl : cs.toList.length = 5 := by
    have : Tryd.prog.cellsOf 52 = 5 := by kernel_rfl
    rw [this] at hsz
    simpa using hsz
  have hf2 : DataW.trod enc Tryd.prog W 0 (fun _ => true) true fuel 52 cs.toList = some (d, p) := by simpa [Value.cells] using hf
  obtain ⟨o, ho, e⟩ := val_read hl hf2
  refine ⟨⟨o, ho⟩, ?_⟩
  have : cs = (vl o).toArray := by rw [← e]
  rw [this]
  rfl
/-- Things that came in. -/
theorem vals_opened {H : Type} {enc : TypeId × Value → H} {W : World} {a : Option Addr} {len cap : Nat} {d : DataW H} {p : List MemPlace} (h : DataW.Trod enc Tryd.prog W 0 (fun _ => true) true 23 (.slice a len cap) d p) :
    (len ≤ cap ∧ cap ≤ 9223372036854775807) ∧ ∃ L : List V5, L.length = len ∧ (∀ x ∈ L, W64 x.n) ∧ ValsAt W a L := by
  obtain ⟨fuel, hf⟩ := h
  rcases Go.Deep.open_slice Tryd.underlying23 hf with ⟨hcs, _⟩ | ⟨x, l, c, m, n, D, Q, hcs, _, hl, hm, hmm, _, hi⟩
  · simp [Value.cells] at hcs
    obtain ⟨rfl, rfl, rfl⟩ := hcs
    exact ⟨⟨Nat.le_refl _, by decide⟩, [], rfl, (by intro x hx; cases hx), .inl rfl⟩
  · simp [Value.cells] at hcs
    obtain ⟨rfl, rfl, rfl⟩ := hcs
    simp at hmm
    unfold maxLen at hm
    refine ⟨⟨hl, hm⟩, ?_⟩
    have e5 : Tryd.prog.cellsOf 52 = 5 := by kernel_rfl
    have key : ∀ i, i < len → ∃ o : V5, W64 o.n ∧ ∀ j u, (vl o)[j]? = some u → W.cell? ((x.add (i * 5)).add j) = some u := by
      intro i hlt
      obtain ⟨cs, hc, ht⟩ := hi i (by omega)
      rw [e5] at hc
      obtain ⟨_, hcl, hat⟩ := World.cells?_some hc
      obtain ⟨o, ho, e⟩ := val_read hcl ht
      refine ⟨o, ho, fun j u hj => ?_⟩
      have hj5 : j < 5 := by have := (List.getElem?_eq_some_iff.1 hj).1; simpa [vl] using this
      rw [hat j hj5, e]
      exact hj
    have build : ∀ k, k ≤ len → ∃ L : List V5, L.length = k ∧ (∀ x ∈ L, W64 x.n) ∧ ∀ i (hi : i < L.length), ∀ j u, (vl L[i])[j]? = some u → W.cell? ((x.add (i * 5)).add j) = some u := by
      intro k
      induction k with
      | zero => intro _; exact ⟨[], rfl, (by intro x hx; cases hx), (by intro i hi; simp at hi)⟩
      | succ k ih =>
        intro hk
        obtain ⟨L, h1, h2, h3⟩ := ih (by omega)
        obtain ⟨o, ho, hc⟩ := key k (by omega)
        refine ⟨L ++ [o], by simp [h1], fun y hy => ?_, fun i hi j u hj => ?_⟩
        · simp only [List.mem_append, List.mem_cons, List.not_mem_nil, or_false] at hy
          rcases hy with hy | rfl
          · exact h2 y hy
          · exact ho
        · by_cases hik : i < L.length
          · rw [List.getElem_append_left hik] at hj
            exact h3 i hik j u hj
          · have hi3 : i = k := by simp at hi; omega
            subst hi3
            rw [List.getElem_append_right (by omega)] at hj
            simp only [h1, Nat.sub_self, List.getElem_cons_zero] at hj
            exact hc j u hj
    obtain ⟨L, h1, h2, h3⟩ := build len (Nat.le_refl _)
    refine ⟨L, h1, h2, ?_⟩
    by_cases h0 : len = 0
    · exact .inl (List.eq_nil_of_length_eq_zero (by omega))
    · obtain ⟨b, off, spot⟩ := x
      have hk := h3 0 (by omega) 0 _ rfl
      have hspot : spot = none := by simpa [Addr.add] using World.cell?_spot hk
      subst hspot
      refine .inr ⟨b, off, rfl, fun i hi => ?_⟩
      have hh := h3 i hi
      have g0 := hh 0 _ rfl; have g1 := hh 1 _ rfl; have g2 := hh 2 _ rfl; have g3 := hh 3 _ rfl; have g4 := hh 4 _ rfl
      rw [addr_add, addr_add] at g0 g1 g2 g3 g4
      exact ⟨g0, g1, g2, g3, g4⟩
/-! ### The tables -/
/-- An array of pairs (a string, a number) that reads as listed: each cell. -/
theorem pairs_of {H : Type} {enc : TypeId × Value → H} {w : World} {base : Nat} {sp : Nat → Bool} {held : Bool} {fuel : Nat} {cs : List Value} {ss : List (List UInt8 × Int)} {p : List MemPlace}
    (h : DataW.trod enc Tryd.prog w base sp held fuel 132 cs = some (.agg (ss.map fun s => .agg [.lit (.string s.1), .lit (.int .i64 s.2)]), p)) (j : Nat) (s : List UInt8 × Int) (hj : ss[j]? = some s) : cs[j * 2]? = some (.string ⟨s.1.toArray⟩) ∧ cs[j * 2 + 1]? = some (.int .i64 s.2) := by
  have ht := Tryd.underlying132
  have hce : Tryd.prog.cellsOf 131 = 2 := by kernel_rfl
  have hct : Tryd.prog.cellsOf 132 = 34 := by kernel_rfl
  cases fuel with
  | zero => simp [DataW.trod] at h
  | succ fuel =>
    simp only [DataW.trod, ht, hce, hct] at h
    split at h
    · rename_i hl
      obtain ⟨xs, hm, hx⟩ := Option.map_eq_some_iff.1 h
      have hxs : xs.map (·.1) = ss.map fun s => (DataW.agg [.lit (.string s.1), .lit (.int .i64 s.2)] : DataW H) := by
        have := congrArg Prod.fst hx
        simpa using this
      have hxl : xs.length = 17 := by simpa using Lib.mapM_length hm
      have hjl : j < 17 := by
        have h1 := (List.getElem?_eq_some_iff.1 hj).1
        have h2 := congrArg List.length hxs
        simp at h2
        omega
      obtain ⟨b, hb, hf⟩ := Lib.mapM_at hm j j (by simp [hjl])
      obtain ⟨ys, n', -, hbe, hlen, hyl, hfl⟩ := DataW.trod_struct Tryd.underlying131 hf
      have h2 : (xs.map (·.1))[j]? = some b.1 := by simp [hb]
      rw [hxs, List.getElem?_map, hj] at h2
      have h3 : b.1 = .agg [.lit (.string s.1), .lit (.int .i64 s.2)] := by simpa using h2.symm
      rw [hbe] at h3
      have h4 : ys.map (·.1) = [.lit (.string s.1), .lit (.int .i64 s.2)] := by simpa using h3
      have f0 := hfl 0 _ rfl
      have f1 := hfl 1 _ rfl
      match ys, h4, f0, f1 with
      | [y0, y1], h4, f0, f1 =>
        simp only [List.map_cons, List.map_nil, List.cons.injEq, and_true] at h4
        simp only [List.getElem?_cons_zero, List.getElem?_cons_succ] at f0 f1
        obtain ⟨z, e0, q0, _⟩ := DataW.trod_string Tryd.underlying9 f0
        obtain ⟨K, e1, q1, _⟩ := DataW.trod_int Tryd.underlying3 f1
        have c9 : Tryd.prog.cellsOf 9 = 1 := by kernel_rfl
        have c3 : Tryd.prog.cellsOf 3 = 1 := by kernel_rfl
        change List.take (Tryd.prog.cellsOf 9) (List.drop 0 (List.take 2 (List.drop (j * 2) cs))) = [.string z] at e0
        change List.take (Tryd.prog.cellsOf 3) (List.drop 1 (List.take 2 (List.drop (j * 2) cs))) = [.int .i64 K] at e1
        rw [c9] at e0
        rw [c3] at e1
        have g0 := congrArg (·[0]?) e0
        have g1 := congrArg (·[0]?) e1
        have hz : z.data.toList = s.1 := by
          have := h4.1
          rw [q0] at this
          simpa using this
        have hK : K = s.2 := by
          have := h4.2
          rw [q1] at this
          simpa using this
        subst hK
        rw [← hz]
        constructor
        · simpa [List.getElem?_take, List.getElem?_drop] using g0
        · simpa [List.getElem?_take, List.getElem?_drop] using g1
    · cases h

theorem gTab : Tryd.prog.globalNamed "math/bits.deBruijn64tab" = some 1 := by kernel_rfl
theorem gTabT : (Tryd.prog.globals[1]?).map (·.type) = some 147 := by kernel_rfl
theorem gHlp : Tryd.prog.globalNamed "detent/check.helpers" = some 0 := by kernel_rfl
theorem gHlpT : (Tryd.prog.globals[0]?).map (·.type) = some 132 := by kernel_rfl
def laidAll : List (String × DataW Unit) := [("math/bits.deBruijn64tab", Rows.laid_math_bits_deBruijn64tab), ("detent/check.helpers", Rows.laid_detent_check_helpers)]
def tab64 : List Int := [0, 1, 56, 2, 57, 49, 28, 3, 61, 58, 42, 50, 38, 29, 17, 4, 62, 47, 59, 36, 45, 43, 51, 22, 53, 39, 33, 30, 24, 18, 12, 5, 63, 55, 48, 27, 60, 41, 37, 16, 46, 35, 44, 21, 52, 32, 23, 11, 54, 26, 40, 15, 34, 20, 31, 10, 25, 14, 19, 9, 13, 8, 7, 6]
theorem tab64_at : ∀ j, j < 64 → tab64.getD j 0 = ((Lib.deBruijn64tab.getD j 0 : Nat) : Int) := by decide +kernel
/-- The helpers as they are laid: none under 0. -/
def hlpT : List (List UInt8 × Int) := ([], 0) :: hN.zip hA
theorem hlpT_at : ∀ j, j < 16 → hlpT[j + 1]? = some (hN.getD j [], hA.getD j 0) := by decide +kernel
theorem tb_of_laid {W : World} (h : laidMetH Tryd.prog laidAll W) : Tb W := by
  rw [Go.MakeChecks.laidMetH_plain _ _ _ rfl] at h
  have h1 : laidMet Tryd.prog [("math/bits.deBruijn64tab", Lib.tabData .u8 tab64)] W := h.filter (fun x => x.1 == "math/bits.deBruijn64tab")
  have h2 : laidMet Tryd.prog [("detent/check.helpers", Rows.laid_detent_check_helpers)] W := h.filter (fun x => x.1 == "detent/check.helpers")
  have hT := Lib.tabIs_of_head (rest := []) gTab gTabT Tryd.underlying147 Tryd.underlying5 (by kernel_rfl) (by kernel_rfl) h1
  obtain ⟨ps, ⟨g', t', cs, fuel, p, q, hg', ht', hvar, hd, _, _⟩, _⟩ := h2
  obtain rfl := Option.some.inj (gHlp.symm.trans hg')
  obtain rfl := Option.some.inj (gHlpT.symm.trans ht')
  have hd2 : DataW.trod _ Tryd.prog W _ _ _ fuel 132 cs.toList = some (.agg (hlpT.map fun s => .agg [.lit (.string s.1), .lit (.int .i64 s.2)]), p) := hd
  refine ⟨fun j hj => ?_, fun j hj => ?_, fun j hj => ?_⟩
  · have := (pairs_of hd2 (j + 1) _ (hlpT_at j hj)).1
    rw [World.var?_cell gHlp hvar, ← this]
    simp
  · have := (pairs_of hd2 (j + 1) _ (hlpT_at j hj)).2
    rw [World.var?_cell gHlp hvar, ← this]
    simp
  · have hc := hT.cell gTab j (by simpa [tab64] using hj)
    rw [tab64_at j hj] at hc
    exact hc
/-- A variable's block that holds other cells. -/
noncomputable def setVar (h : Array Obj) (g : Nat) (cs : Array Value) : Array Obj := h.modify g fun
  | .cells _ t frozen => .cells cs t frozen
  | o => o
/-- A WORLD FOR THE WITNESS: the settled one, the tables holding what their initialisers lay. -/
noncomputable def laidWorld (os : Os) : World :=
  { World.holding Tryd.prog os ⟨#[], #[], []⟩ with heap := setVar (setVar (World.holding Tryd.prog os ⟨#[], #[], []⟩).heap 1 (tab64.map (Value.int .u8)).toArray) 0 (hlpT.flatMap fun s => [Value.string ⟨s.1.toArray⟩, Value.int .i64 s.2]).toArray }
end Go.Proofs.YtpbdmlipdfdblaaDoor
