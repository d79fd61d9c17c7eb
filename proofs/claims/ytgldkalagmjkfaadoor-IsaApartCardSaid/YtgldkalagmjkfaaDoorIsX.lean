/-
  What the cards of stage 15 share: openers of bytes, of instructions by value and in a slice; the tables as the rows list them; a world for the witnesses.
-/
import Derived.Test.YtgldkalagmjkfaaDoorCards
import Derived.Test.YtgldkalagmjkfaaDoorTie
import Derived.Test.YtgldkalagmjkfaaDoorBaseT
import Derived.Test.YtgldkalagmjkfaaDoorIsS
import Derived.WalkKit
import Derived.ProofKit
import Derived.OpenShut
import Derived.Deep.DeepHandedRow
import Derived.LaidSub
import Derived.MakeChecks
import Derived.Lib.LaidTab
namespace Go.Proofs.YtgldkalagmjkfaaDoor
open Go.ChangeShapes Go.WideShapes Go.ChangeAt Go.RowKit

theorem i64_of {a : Int} (h : (Lit.int .i64 a).wf = true) : fit a := by
  unfold fit
  simpa [Lit.wf, IntKind.min, IntKind.max, IntKind.signed, IntKind.bits] using h
theorem u8_of {a : Int} (h : (Lit.int .u8 a).wf = true) : 0 ≤ a ∧ a < 256 := by
  simp [Lit.wf, IntKind.min, IntKind.max, IntKind.signed, IntKind.bits] at h
  omega

/-- Bytes that came in. -/
theorem bytes_opened {H : Type} {enc : TypeId × Value → H} {W : World} {a : Option Addr} {len cap : Nat} {d : DataW H} {p : List MemPlace} (h : DataW.Trod enc Tryd.prog W 0 (fun _ => true) true 40 (.slice a len cap) d p) :
    (len ≤ cap ∧ cap ≤ 9223372036854775807 ∧ (a = none → cap = 0)) ∧ ∃ l : List Int, l.length = len ∧ byte l ∧ BytesAt W a l := by
  obtain ⟨fuel, hf⟩ := h
  rcases open_ints Tryd.underlying40 Tryd.underlying5 (by kernel_rfl) hf with ⟨hcs, _⟩ | ⟨x, l, c, zs, hcs, _, hl, hm, hz, _, hcell, hwf⟩
  · simp [Value.cells] at hcs
    obtain ⟨rfl, rfl, rfl⟩ := hcs
    exact ⟨⟨Nat.le_refl _, by decide, fun _ => rfl⟩, [], rfl, (by intro x hx; cases hx), .inl rfl⟩
  · simp [Value.cells] at hcs
    obtain ⟨rfl, rfl, rfl⟩ := hcs
    have hz : zs.length = cap := by simpa using hz
    unfold maxLen at hm
    refine ⟨⟨hl, hm, fun e => by cases e⟩, zs.take len, by rw [List.length_take]; omega, fun n hn => u8_of (hwf n (List.mem_of_mem_take hn)), ?_⟩
    by_cases h0 : len = 0
    · subst h0; exact .inl (by simp)
    · obtain ⟨b, off, spot⟩ := x
      have hc := hcell 0 (by omega)
      have hspot : spot = none := by simpa [Addr.add] using World.cell?_spot hc
      subst hspot
      refine .inr ⟨b, off, rfl, fun i hi => ?_⟩
      rw [List.length_take] at hi
      have hi2 : i < len := by omega
      have hci := hcell i (by omega)
      rw [addr_add] at hci
      rw [hci]
      simp
      rw [List.getElem?_eq_getElem (by omega)]
      rfl
/-- A struct of one-cell fields that is read out of its cells. -/
theorem fields_of {H : Type} {enc : TypeId × Value → H} {P : Program} {w : World} {base : Nat} {spare : Nat → Bool} {held : Bool} {e : TypeId} {fs : Array Field} {fuel : Nat} {cs : List Value} {x : DataW H × List MemPlace}
    (he : P.underlying e = some (.struct fs)) (hone : Go.Deep.oneCellFields P fs = true) (hC : cs.length = fs.size) (ht : DataW.trod enc P w base spare held fuel e cs = some x) :
    ∃ n, ∀ (j : Nat) (f : Field), fs[j]? = some f → ∃ v y, cs[j]? = some v ∧ DataW.trod enc P w base spare held n f.type [v] = some y := by
  obtain ⟨ys, n, _, _, hlen, hyl, hf⟩ := DataW.trod_struct he ht
  refine ⟨n, fun j f hj => ?_⟩
  have hlt : j < fs.size := (Array.getElem?_eq_some_iff.1 hj).1
  obtain ⟨ho, hk⟩ := Go.Deep.hone_of hone j f hj
  have h1 := hf j f hj
  have hjc : j < cs.length := by omega
  rw [ho, hk, List.drop_eq_getElem_cons hjc, List.take_succ_cons, List.take_zero, List.getElem?_eq_getElem (by omega)] at h1
  exact ⟨_, _, List.getElem?_eq_getElem hjc, h1⟩
theorem five_of {cs : List Value} (h : cs.length = 5) : ∃ a b c d e, cs = [a, b, c, d, e] := by
  match cs, h with
  | [a, b, c, d, e], _ => exact ⟨a, b, c, d, e, rfl⟩
/-- An instruction that is read. -/
theorem ins_read {H : Type} {enc : TypeId × Value → H} {W : World} {n : Nat} {cs : List Value} {x : DataW H × List MemPlace} (hl : cs.length = 5) (ht : DataW.trod enc Tryd.prog W 0 (fun _ => true) true n 29 cs = some x) : ∃ o : I5, Fit o ∧ cs = fiv o := by
  obtain ⟨n1, hfl⟩ := fields_of Tryd.underlying29 (by kernel_rfl) hl ht
  obtain ⟨c0, c1, c2, c3, c4, rfl⟩ := five_of hl
  obtain ⟨u0, z0, d0, g0⟩ := hfl 0 _ rfl
  obtain ⟨u1, z1, d1, g1⟩ := hfl 1 _ rfl
  obtain ⟨u2, z2, d2, g2⟩ := hfl 2 _ rfl
  obtain ⟨u3, z3, d3, g3⟩ := hfl 3 _ rfl
  obtain ⟨u4, z4, d4, g4⟩ := hfl 4 _ rfl
  obtain rfl : c0 = u0 := Option.some.inj d0
  obtain rfl : c1 = u1 := Option.some.inj d1
  obtain rfl : c2 = u2 := Option.some.inj d2
  obtain rfl : c3 = u3 := Option.some.inj d3
  obtain rfl : c4 = u4 := Option.some.inj d4
  obtain ⟨A, k0, _, h0⟩ := DataW.trod_int Tryd.underlying3 g0
  obtain ⟨B, k1, _, h1⟩ := DataW.trod_int Tryd.underlying3 g1
  obtain ⟨C, k2, _, h2⟩ := DataW.trod_int Tryd.underlying3 g2
  obtain ⟨D, k3, _, h3⟩ := DataW.trod_int Tryd.underlying3 g3
  obtain ⟨E, k4, _, h4⟩ := DataW.trod_int Tryd.underlying3 g4
  cases k0
  cases k1
  cases k2
  cases k3
  cases k4
  exact ⟨⟨A, B, C, D, E⟩, ⟨i64_of h0, i64_of h1, i64_of h2, i64_of h3, i64_of h4⟩, rfl⟩
/-- An instruction that comes in by value. -/
theorem ins_opened {H : Type} {enc : TypeId × Value → H} {W : World} {base : Nat} {v : Value} {d : DataW H} {p : List MemPlace} (hv : Value.okWide Tryd.prog W .any base 29 v) (h : DataW.Trod enc Tryd.prog W 0 (fun _ => true) true 29 v d p) :
    ∃ o : {x : I5 // Fit x}, v = iv o.1 := by
  obtain ⟨cs, rfl, hsz⟩ := okWide_struct Tryd.underlying29 hv
  obtain ⟨fuel, hf⟩ := h
  have hl : cs.toList.length = 5 := by
    have : Tryd.prog.cellsOf 29 = 5 := by kernel_rfl
    rw [this] at hsz
    simpa using hsz
  have hf2 : DataW.trod enc Tryd.prog W 0 (fun _ => true) true fuel 29 cs.toList = some (d, p) := by simpa [Value.cells] using hf
  obtain ⟨o, ho, e⟩ := ins_read hl hf2
  refine ⟨⟨o, ho⟩, ?_⟩
  have : cs = (fiv o).toArray := by rw [← e]
  rw [this]
  rfl
/-- Instructions that came in. -/
theorem inss_opened {H : Type} {enc : TypeId × Value → H} {W : World} {a : Option Addr} {len cap : Nat} {d : DataW H} {p : List MemPlace} (h : DataW.Trod enc Tryd.prog W 0 (fun _ => true) true 38 (.slice a len cap) d p) :
    (len ≤ cap ∧ cap ≤ 9223372036854775807) ∧ ∃ L : List I5, L.length = len ∧ (∀ x ∈ L, Fit x) ∧ InsAt W a L := by
  obtain ⟨fuel, hf⟩ := h
  rcases Go.Deep.open_slice Tryd.underlying38 hf with ⟨hcs, _⟩ | ⟨x, l, c, m, n, D, Q, hcs, _, hl, hm, hmm, _, hi⟩
  · simp [Value.cells] at hcs
    obtain ⟨rfl, rfl, rfl⟩ := hcs
    exact ⟨⟨Nat.le_refl _, by decide⟩, [], rfl, (by intro x hx; cases hx), .inl rfl⟩
  · simp [Value.cells] at hcs
    obtain ⟨rfl, rfl, rfl⟩ := hcs
    simp at hmm
    unfold maxLen at hm
    refine ⟨⟨hl, hm⟩, ?_⟩
    have e5 : Tryd.prog.cellsOf 29 = 5 := by kernel_rfl
    have key : ∀ i, i < len → ∃ o : I5, Fit o ∧ ∀ j u, (fiv o)[j]? = some u → W.cell? ((x.add (i * 5)).add j) = some u := by
      intro i hlt
      obtain ⟨cs, hc, ht⟩ := hi i (by omega)
      rw [e5] at hc
      obtain ⟨_, hcl, hat⟩ := World.cells?_some hc
      obtain ⟨o, ho, e⟩ := ins_read hcl ht
      refine ⟨o, ho, fun j u hj => ?_⟩
      have hj5 : j < 5 := by have := (List.getElem?_eq_some_iff.1 hj).1; simpa [fiv] using this
      rw [hat j hj5, e]
      exact hj
    have build : ∀ k, k ≤ len → ∃ L : List I5, L.length = k ∧ (∀ x ∈ L, Fit x) ∧ ∀ i (hi : i < L.length), ∀ j u, (fiv L[i])[j]? = some u → W.cell? ((x.add (i * 5)).add j) = some u := by
      intro k
      induction k with
      | zero => intro _; exact ⟨[], rfl, (by intro x hx; cases hx), (by intro i hi; simp at hi)⟩
      | succ k ih =>
        intro hk
        obtain ⟨L, h1, h2, h3⟩ := ih (by omega)
        obtain ⟨o, ho, hc⟩ := key k (by omega)
        refine ⟨L ++ [o], by simp [h1], fun y hy => ?_, fun i hi j u hj => ?_⟩
        · simp only [List.mem_append, List.mem_cons, List.not_mem_nil, or_false] at hy
          rcases hy with hy | rfl
          · exact h2 y hy
          · exact ho
        · by_cases hik : i < L.length
          · rw [List.getElem_append_left hik] at hj
            exact h3 i hik j u hj
          · have hi3 : i = k := by simp at hi; omega
            subst hi3
            rw [List.getElem_append_right (by omega)] at hj
            simp only [h1, Nat.sub_self, List.getElem_cons_zero] at hj
            exact hc j u hj
    obtain ⟨L, h1, h2, h3⟩ := build len (Nat.le_refl _)
    refine ⟨L, h1, h2, ?_⟩
    by_cases h0 : len = 0
    · exact .inl (List.eq_nil_of_length_eq_zero (by omega))
    · obtain ⟨b, off, spot⟩ := x
      have hk := h3 0 (by omega) 0 _ rfl
      have hspot : spot = none := by simpa [Addr.add] using World.cell?_spot hk
      subst hspot
      refine .inr ⟨b, off, rfl, fun i hi => ?_⟩
      have hh := h3 i hi
      have g0 := hh 0 _ rfl; have g1 := hh 1 _ rfl; have g2 := hh 2 _ rfl; have g3 := hh 3 _ rfl; have g4 := hh 4 _ rfl
      rw [addr_add, addr_add] at g0 g1 g2 g3 g4
      exact ⟨g0, g1, g2, g3, g4⟩

/-! ### The tables -/
/-- An array of strings that reads as listed: each cell. -/
theorem strs_of {H : Type} {enc : TypeId × Value → H} {P : Program} {w : World} {base : Nat} {sp : Nat → Bool} {held : Bool} {fuel : Nat} {t e : TypeId} {n : Nat} {cs : List Value} {ss : List (List UInt8)} {p : List MemPlace}
    (ht : P.underlying t = some (.array n e)) (he : P.underlying e = some .string) (hce : P.cellsOf e = 1) (hct : P.cellsOf t = n)
    (h : DataW.trod enc P w base sp held fuel t cs = some (.agg (ss.map fun s => .lit (.string s)), p)) (j : Nat) (s : List UInt8) (hj : ss[j]? = some s) : cs[j]? = some (.string ⟨s.toArray⟩) := by
  cases fuel with
  | zero => simp [DataW.trod] at h
  | succ fuel =>
    simp only [DataW.trod, ht, hce, hct, Nat.mul_one] at h
    split at h
    · rename_i hl
      obtain ⟨xs, hm, hx⟩ := Option.map_eq_some_iff.1 h
      have hxs : xs.map (·.1) = ss.map fun s => (DataW.lit (.string s) : DataW H) := by
        have := congrArg Prod.fst hx
        simpa using this
      have hxl : xs.length = n := by simpa using Lib.mapM_length hm
      have hjl : j < n := by
        have h1 := (List.getElem?_eq_some_iff.1 hj).1
        have h2 := congrArg List.length hxs
        simp at h2
        omega
      obtain ⟨b, hb, hf⟩ := Lib.mapM_at hm j j (by simp [hjl])
      obtain ⟨z, hc, rfl, _⟩ := DataW.trod_string he hf
      have h1 : cs[j]? = some (.string z) := by
        have := congrArg (·[0]?) hc
        simpa [List.getElem?_take, List.getElem?_drop] using this
      have h2 : (xs.map (·.1))[j]? = some (DataW.lit (.string z.data.toList)) := by simp [hb]
      rw [hxs, List.getElem?_map, hj] at h2
      simp only [Option.map_some, Option.some.injEq, DataW.lit.injEq, Lit.string.injEq] at h2
      rw [h1, h2]
    · cases h
theorem gPow : Tryd.prog.globalNamed "internal/strconv.uint64pow10" = some 1 := by kernel_rfl
theorem gPowT : (Tryd.prog.globals[1]?).map (·.type) = some 80 := by kernel_rfl
theorem gNam : Tryd.prog.globalNamed "detent/isa.names" = some 0 := by kernel_rfl
theorem gNamT : (Tryd.prog.globals[0]?).map (·.type) = some 54 := by kernel_rfl
def laidAll : List (String × DataW Unit) := [("math/bits.deBruijn32tab", Rows.laid_math_bits_deBruijn32tab), ("math/bits.deBruijn64tab", Rows.laid_math_bits_deBruijn64tab), ("internal/strconv.uint64pow10", Rows.laid_internal_strconv_uint64pow10), ("detent/isa.names", Rows.laid_detent_isa_names)]
theorem tb_of_laid {W : World} (h : laidMetH Tryd.prog laidAll W) : Tb W := by
  rw [Go.MakeChecks.laidMetH_plain _ _ _ rfl] at h
  have h1 : laidMet Tryd.prog [("internal/strconv.uint64pow10", Lib.tabData .u64 Lib.pow10Tab)] W := h.filter (fun x => x.1 == "internal/strconv.uint64pow10")
  have h2 : laidMet Tryd.prog [("detent/isa.names", Rows.laid_detent_isa_names)] W := h.filter (fun x => x.1 == "detent/isa.names")
  refine ⟨fun j hj => ?_, Lib.tabIs_of_head (rest := []) gPow gPowT Tryd.underlying80 Tryd.underlying74 (by kernel_rfl) (by kernel_rfl) h1⟩
  obtain ⟨ps, ⟨g', t', cs, fuel, p, q, hg', ht', hvar, hd, _, _⟩, _⟩ := h2
  obtain rfl := Option.some.inj (gNam.symm.trans hg')
  obtain rfl := Option.some.inj (gNamT.symm.trans ht')
  have hd2 : DataW.trod _ Tryd.prog W _ _ _ fuel 54 cs.toList = some (.agg (plT.map fun s => .lit (.string s)), p) := hd
  have hs := strs_of Tryd.underlying54 Tryd.underlying9 (by kernel_rfl) (by kernel_rfl) hd2 j (plT.getD j []) (by
    rw [List.getD_eq_getElem?_getD, List.getElem?_eq_getElem (by show j < 74; exact hj)]; rfl)
  rw [World.var?_cell gNam hvar j, ← hs]
  simp

def tab32 : List Int := [0, 1, 28, 2, 29, 14, 24, 3, 30, 22, 20, 15, 25, 17, 4, 8, 31, 27, 13, 23, 21, 19, 16, 7, 26, 12, 18, 6, 11, 5, 10, 9]
def tab64 : List Int := [0, 1, 56, 2, 57, 49, 28, 3, 61, 58, 42, 50, 38, 29, 17, 4, 62, 47, 59, 36, 45, 43, 51, 22, 53, 39, 33, 30, 24, 18, 12, 5, 63, 55, 48, 27, 60, 41, 37, 16, 46, 35, 44, 21, 52, 32, 23, 11, 54, 26, 40, 15, 34, 20, 31, 10, 25, 14, 19, 9, 13, 8, 7, 6]
/-- A variable's block that holds other cells. -/
noncomputable def setVar (h : Array Obj) (g : Nat) (cs : Array Value) : Array Obj := h.modify g fun
  | .cells _ t frozen => .cells cs t frozen
  | o => o
/-- A WORLD FOR THE WITNESS: the settled one, the tables holding what their initialisers lay. -/
noncomputable def laidWorld (os : Os) : World :=
  { World.holding Tryd.prog os ⟨#[], #[], []⟩ with heap := setVar (setVar (setVar (setVar (World.holding Tryd.prog os ⟨#[], #[], []⟩).heap 2 (tab32.map (Value.int .u8)).toArray) 3 (tab64.map (Value.int .u8)).toArray) 1 (Lib.pow10Tab.map (Value.int .u64)).toArray) 0 (plT.map fun s => Value.string ⟨s.toArray⟩).toArray }
end Go.Proofs.YtgldkalagmjkfaaDoor
