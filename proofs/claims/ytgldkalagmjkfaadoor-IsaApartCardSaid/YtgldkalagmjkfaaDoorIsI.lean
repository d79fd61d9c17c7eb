/-
  The document's Text.
-/
import Derived.Test.YtgldkalagmjkfaaDoorIsH
import Derived.WalkMore
namespace Go.Proofs.YtgldkalagmjkfaaDoor
open Go.RowKit Go.Lib

theorem jn0_snoc (l : List (List UInt8)) (a : List UInt8) : jn0 (l ++ [a]) = jn0 l ++ (if l = [] then [32] else [44, 32]) ++ a := by
  have hj : ∀ l : List (List UInt8), jn (l ++ [a]) = jn l ++ ([44, 32] ++ a) := by
    intro l
    induction l with
    | nil => simp [jn]
    | cons b l ih => simp [jn, ih]
  cases l with
  | nil => simp [jn0, jn]
  | cons b l => simp [jn0, hj]
/-- The text up to so many parts. -/
def pre (x : I5) (j : Nat) : List UInt8 := nm x.op ++ jn0 (((shp x.op).take j).map (part x))
theorem pre_zero (x : I5) : pre x 0 = nm x.op := by simp [pre, jn0]
theorem pre_all (x : I5) : pre x (shp x.op).length = txt x := by simp [pre, txt]
theorem pre_succ (x : I5) {j : Nat} (hj : j < (shp x.op).length) : pre x (j + 1) = pre x j ++ (if j = 0 then [32] else [44, 32]) ++ part x ((shp x.op)[j]) := by
  unfold pre
  rw [List.take_succ_eq_append_getElem hj, List.map_append, List.map_cons, List.map_nil, jn0_snoc]
  have : ((((shp x.op).take j).map (part x) = []) ↔ j = 0) := by
    rw [List.map_eq_nil_iff, List.take_eq_nil_iff]
    constructor
    · rintro (h | h)
      · exact h
      · rw [h] at hj; simp at hj
    · exact .inl
  simp only [this, List.append_assoc]
theorem sizes_in : ∀ k : Fin 74, (nm (k.val : Int)).length ≤ 4 ∧ (shp (k.val : Int)).length ≤ 3 ∧ ∀ c ∈ shp (k.val : Int), c = 100 ∨ c = 115 ∨ c = 111 ∨ c = 105 := by decide +kernel
theorem sizes_of {op : Int} (h : cls op ≠ 0) : (nm op).length ≤ 4 ∧ (shp op).length ≤ 3 ∧ ∀ c ∈ shp op, c = 100 ∨ c = 115 ∨ c = 111 ∨ c = 105 := by
  obtain ⟨h0, h1⟩ := in74 h
  exact all74 (p := fun op => (nm op).length ≤ 4 ∧ (shp op).length ≤ 3 ∧ ∀ c ∈ shp op, c = 100 ∨ c = 115 ∨ c = 111 ∨ c = 105) sizes_in op h0 h1
theorem itoa_len {n : Int} (h0 : -2147483648 ≤ n) (h1 : n ≤ 2147483647) : (itoa n).length ≤ 21 := itoa_length_le n (by omega) (by omega)
theorem part_len {x : I5} (h : inB x) (c : UInt8) : (part x c).length ≤ 22 := by
  obtain ⟨h1, h2, h3, h4, h5, h6, h7, h8⟩ := h
  have e1 := itoa_len (n := x.d) (by omega) (by omega)
  have e2 := itoa_len (n := x.s) (by omega) (by omega)
  have e3 := itoa_len (n := x.o) (by omega) (by omega)
  have e4 := itoa_len (n := x.i) (by omega) (by omega)
  unfold part
  split
  · simp; omega
  · split
    · simp; omega
    · split <;> omega
theorem pre_len {x : I5} (h : chk x = 0) : ∀ j, j ≤ (shp x.op).length → (pre x j).length ≤ 4 + 24 * j := by
  obtain ⟨hc, hb, _⟩ := chk_zero h
  intro j
  induction j with
  | zero => intro _; rw [pre_zero]; have := (sizes_of hc).1; omega
  | succ j ih =>
    intro hj
    rw [pre_succ x (by omega)]
    have e1 := ih (by omega)
    have e2 := part_len hb ((shp x.op)[j]'(by omega))
    simp only [List.length_append]
    split <;> simp <;> omega
theorem add_str (a b : List UInt8) (ha : a.length ≤ 1000) (hb : b.length ≤ 1000) : (Op.stringOp .add ⟨a.toArray⟩ ⟨b.toArray⟩).run Tryd.prog = fun W => .ok (.string ⟨(a ++ b).toArray⟩) W := by
  funext W
  exact run_string_add_lists (P := Tryd.prog) (w := W) a b (by omega) (by omega)

set_option maxHeartbeats 2000000 in
theorem rtext_any {x : I5} (hx : chk x = 0) (w : World) : Calls Tryd.prog 13 #[iv x] w fun e w' => e = .returned (.string ⟨(txt x).toArray⟩) ∧ Ch [] w w' := by
  obtain ⟨hc, hb, hf⟩ := chk_zero hx
  have HK := Lib.hid (fun w => kind_any x.op w)
  unfold kindR at HK
  have HPL := Lib.hid (fun j hj => pre_len hx j hj)
  have HPS := Lib.hid (fun j (hj : j < (shp x.op).length) => pre_succ x hj)
  have HSZ := Lib.hid (sizes_of hc)
  have HA := Lib.hid (pre_all x)
  have hz := pre_zero x
  have hb' := hb
  obtain ⟨b1, b2, b3, b4, b5, b6, b7, b8⟩ := hb'
  have HD1 := Lib.hid (fun w => digits_any (n := x.d) (by omega) (by omega) w)
  have HD2 := Lib.hid (fun w => digits_any (n := x.s) (by omega) (by omega) w)
  have HD3 := Lib.hid (fun w => digits_any (n := x.o) (by omega) (by omega) w)
  have HD4 := Lib.hid (fun w => digits_any (n := x.i) (by omega) (by omega) w)
  have HL1 := Lib.hid (itoa_len (n := x.d) (by omega) (by omega))
  have HL2 := Lib.hid (itoa_len (n := x.s) (by omega) (by omega))
  have HL3 := Lib.hid (itoa_len (n := x.o) (by omega) (by omega))
  have HL4 := Lib.hid (itoa_len (n := x.i) (by omega) (by omega))
  have HP1 := Lib.hid (show part x 100 = 114 :: itoa x.d from rfl)
  have HP2 := Lib.hid (show part x 115 = 114 :: itoa x.s from rfl)
  have HP3 := Lib.hid (show part x 111 = itoa x.o from rfl)
  have HP4 := Lib.hid (show part x 105 = itoa x.i from rfl)
  rw [← hz] at HK
  generalize part x = pt at *
  generalize pre x = pr at *
  generalize txt x = tx at *
  obtain ⟨op, d, s, o, i⟩ := x
  simp only at *
  have HC := Lib.hid ((Ch.refl [] w).alloc (.cells #[.int .i64 op, .int .i64 d, .int .i64 s, .int .i64 o, .int .i64 i] 29))
  have HF := Lib.hid (Five.new w ⟨op, d, s, o, i⟩ 29)
  generalize shp op = l at *
  generalize cls op = c at *
  generalize itoa d = t1 at *
  generalize itoa s = t2 at *
  generalize itoa o = t3 at *
  generalize itoa i = t4 at *
  clear hx hc hb hf hz b1 b2 b3 b4 b5 b6 b7 b8
  unfold iv
  go_enter Tryd.func13, Tryd.ntmps13
  go_wp2_with fail
  with_reducible refine (HK.out _).mono ?_
  rintro e w1 ⟨rfl, hc1⟩
  have HC1 := Lib.hid (HC.out.trans hc1)
  have HF1 := Lib.hid (HF.out.ch hc1 (by simp))
  clear hc1
  go_wp2_with fail
  go_loopw [6, 7] (fun tx i wr => ∃ j : Nat, j ≤ l.length ∧ tx = .string ⟨(pr j).toArray⟩ ∧ i = .int .i64 (j : Int) ∧ Ch [] w1 wr) (fun _ i _ => l.length - (intOf i).toNat)
  case atStart => exact ⟨0, Nat.zero_le _, rfl, rfl, Ch.refl _ _⟩
  case round =>
    obtain ⟨j, hj, rfl, rfl, hch⟩ := hrel
    obtain ⟨a0, a1, a2, a3, a4⟩ := HF1.out.ch hch (by simp)
    simp only at a0 a1 a2 a3 a4
    have HCr := Lib.hid hch
    clear hch
    by_cases hlt : j < l.length
    · have hbyte : ∀ h, (⟨l.toArray⟩ : ByteArray)[j]'h = l[j] := fun _ => rfl
      have hps := HPS.out j hlt
      have hpl := HPL.out j hj
      have hl3 := HSZ.out.2.1
      have hlet := HSZ.out.2.2 l[j] (List.getElem_mem hlt)
      obtain ⟨sep, hsep⟩ : ∃ sep : List UInt8, (if j = 0 then [32] else [44, 32]) = sep := ⟨_, rfl⟩
      rw [hsep] at hps
      have hsl : sep.length ≤ 2 := by rw [← hsep]; split <;> simp
      have hA1 := add_str (pr j) sep (by omega) (by omega)
      have hA2 := add_str (pr j ++ sep) [114] (by simp; omega) (by simp)
      obtain ⟨p1, hp1⟩ : ∃ p, pr j ++ sep = p := ⟨_, rfl⟩
      rw [hp1] at hA1 hA2 hps
      obtain ⟨p2, hp2⟩ : ∃ p, p1 ++ [114] = p := ⟨_, rfl⟩
      rw [hp2] at hA2
      have hpl1 : p1.length ≤ 100 := by rw [← hp1]; simp; omega
      have hpl2 : p2.length ≤ 101 := by rw [← hp2]; simp; omega
      have HP12 := Lib.hid hp2
      have hww : IntKind.i64.wrap ((j : Int) + 1) = (j : Int) + 1 := by rw [IntKind.wrap_i64]; omega
      have HB := Lib.hid (And.intro hpl1 hpl2)
      have HPs := Lib.hid hps
      have hne : ∀ n : Nat, n < 256 → l[j] ≠ UInt8.ofNat n → ((l[j].toNat : Int) == (n : Int)) = false := fun n hn h => by
        rw [beq_eq_false_iff_ne]
        intro e
        exact h (UInt8.toNat.inj (by rw [UInt8.toNat_ofNat_of_lt' (by show _ < 256; omega)]; omega))
      have hyes : ∀ n : Nat, n < 256 → l[j] = UInt8.ofNat n → ((l[j].toNat : Int) == (n : Int)) = true := fun n hn h => by
        rw [h, UInt8.toNat_ofNat_of_lt' (by show _ < 256; omega)]; simp
      have HN := Lib.hid hne
      have HY := Lib.hid hyes
      clear hps hpl hl3 hsl hne hyes hp1 hp2 hpl1 hpl2
      by_cases h0 : j = 0
      · subst h0
        have hsep' : sep = [32] := by rw [← hsep]; rfl
        subst hsep'
        clear hsep
        rcases hlet with hl | hl | hl | hl
        · have q100 : ((l[0].toNat : Int) == 100) = true := HY.out 100 (by decide) hl
          have hA3 := add_str p2 t1 (by have := HB.out; omega) (by have := HL1.out; omega)
          obtain ⟨p3, hp3⟩ : ∃ p, p2 ++ t1 = p := ⟨_, rfl⟩
          rw [hp3] at hA3
          have HE := Lib.hid (show pr (0 + 1) = p3 by rw [HPs.out, hl, HP1.out, ← hp3, ← HP12.out]; simp)
          clear hp3
          have HLt := Lib.hid hl
          clear hl
          go_wp2_with (first
            | (with_reducible refine (HD1.out _).mono ?_; rintro e w2 ⟨rfl, hc2⟩; have HC2 := Lib.hid (HCr.out.trans hc2); clear hc2)
            | (with_reducible refine (HD2.out _).mono ?_; rintro e w2 ⟨rfl, hc2⟩; have HC2 := Lib.hid (HCr.out.trans hc2); clear hc2)
            | (with_reducible refine (HD3.out _).mono ?_; rintro e w2 ⟨rfl, hc2⟩; have HC2 := Lib.hid (HCr.out.trans hc2); clear hc2)
            | (with_reducible refine (HD4.out _).mono ?_; rintro e w2 ⟨rfl, hc2⟩; have HC2 := Lib.hid (HCr.out.trans hc2); clear hc2)
            | fail)
          go_roundw
          case rel => exact ⟨0 + 1, by omega, by rw [HE.out], by go_num, HC2.out⟩
          case measure => simp [intOf]; omega
        · have q100 : ((l[0].toNat : Int) == 100) = false := HN.out 100 (by decide) (by rw [hl]; decide)
          have q115 : ((l[0].toNat : Int) == 115) = true := HY.out 115 (by decide) hl
          have hA3 := add_str p2 t2 (by have := HB.out; omega) (by have := HL2.out; omega)
          obtain ⟨p3, hp3⟩ : ∃ p, p2 ++ t2 = p := ⟨_, rfl⟩
          rw [hp3] at hA3
          have HE := Lib.hid (show pr (0 + 1) = p3 by rw [HPs.out, hl, HP2.out, ← hp3, ← HP12.out]; simp)
          clear hp3
          have HLt := Lib.hid hl
          clear hl
          go_wp2_with (first
            | (with_reducible refine (HD1.out _).mono ?_; rintro e w2 ⟨rfl, hc2⟩; have HC2 := Lib.hid (HCr.out.trans hc2); clear hc2)
            | (with_reducible refine (HD2.out _).mono ?_; rintro e w2 ⟨rfl, hc2⟩; have HC2 := Lib.hid (HCr.out.trans hc2); clear hc2)
            | (with_reducible refine (HD3.out _).mono ?_; rintro e w2 ⟨rfl, hc2⟩; have HC2 := Lib.hid (HCr.out.trans hc2); clear hc2)
            | (with_reducible refine (HD4.out _).mono ?_; rintro e w2 ⟨rfl, hc2⟩; have HC2 := Lib.hid (HCr.out.trans hc2); clear hc2)
            | fail)
          go_roundw
          case rel => exact ⟨0 + 1, by omega, by rw [HE.out], by go_num, HC2.out⟩
          case measure => simp [intOf]; omega
        · have q100 : ((l[0].toNat : Int) == 100) = false := HN.out 100 (by decide) (by rw [hl]; decide)
          have q115 : ((l[0].toNat : Int) == 115) = false := HN.out 115 (by decide) (by rw [hl]; decide)
          have q111 : ((l[0].toNat : Int) == 111) = true := HY.out 111 (by decide) hl
          have hA3 := add_str p1 t3 (by have := HB.out; omega) (by have := HL3.out; omega)
          obtain ⟨p3, hp3⟩ : ∃ p, p1 ++ t3 = p := ⟨_, rfl⟩
          rw [hp3] at hA3
          have HE := Lib.hid (show pr (0 + 1) = p3 by rw [HPs.out, hl, HP3.out, ← hp3])
          clear hp3
          have HLt := Lib.hid hl
          clear hl
          go_wp2_with (first
            | (with_reducible refine (HD1.out _).mono ?_; rintro e w2 ⟨rfl, hc2⟩; have HC2 := Lib.hid (HCr.out.trans hc2); clear hc2)
            | (with_reducible refine (HD2.out _).mono ?_; rintro e w2 ⟨rfl, hc2⟩; have HC2 := Lib.hid (HCr.out.trans hc2); clear hc2)
            | (with_reducible refine (HD3.out _).mono ?_; rintro e w2 ⟨rfl, hc2⟩; have HC2 := Lib.hid (HCr.out.trans hc2); clear hc2)
            | (with_reducible refine (HD4.out _).mono ?_; rintro e w2 ⟨rfl, hc2⟩; have HC2 := Lib.hid (HCr.out.trans hc2); clear hc2)
            | fail)
          go_roundw
          case rel => exact ⟨0 + 1, by omega, by rw [HE.out], by go_num, HC2.out⟩
          case measure => simp [intOf]; omega
        · have q100 : ((l[0].toNat : Int) == 100) = false := HN.out 100 (by decide) (by rw [hl]; decide)
          have q115 : ((l[0].toNat : Int) == 115) = false := HN.out 115 (by decide) (by rw [hl]; decide)
          have q111 : ((l[0].toNat : Int) == 111) = false := HN.out 111 (by decide) (by rw [hl]; decide)
          have hA3 := add_str p1 t4 (by have := HB.out; omega) (by have := HL4.out; omega)
          obtain ⟨p3, hp3⟩ : ∃ p, p1 ++ t4 = p := ⟨_, rfl⟩
          rw [hp3] at hA3
          have HE := Lib.hid (show pr (0 + 1) = p3 by rw [HPs.out, hl, HP4.out, ← hp3])
          clear hp3
          have HLt := Lib.hid hl
          clear hl
          go_wp2_with (first
            | (with_reducible refine (HD1.out _).mono ?_; rintro e w2 ⟨rfl, hc2⟩; have HC2 := Lib.hid (HCr.out.trans hc2); clear hc2)
            | (with_reducible refine (HD2.out _).mono ?_; rintro e w2 ⟨rfl, hc2⟩; have HC2 := Lib.hid (HCr.out.trans hc2); clear hc2)
            | (with_reducible refine (HD3.out _).mono ?_; rintro e w2 ⟨rfl, hc2⟩; have HC2 := Lib.hid (HCr.out.trans hc2); clear hc2)
            | (with_reducible refine (HD4.out _).mono ?_; rintro e w2 ⟨rfl, hc2⟩; have HC2 := Lib.hid (HCr.out.trans hc2); clear hc2)
            | fail)
          go_roundw
          case rel => exact ⟨0 + 1, by omega, by rw [HE.out], by go_num, HC2.out⟩
          case measure => simp [intOf]; omega
      · rw [if_neg h0] at hsep
        subst hsep
        have hj0 : ((j : Int) == 0) = false := by rw [beq_eq_false_iff_ne]; omega
        clear h0
        rcases hlet with hl | hl | hl | hl
        · have q100 : ((l[j].toNat : Int) == 100) = true := HY.out 100 (by decide) hl
          have hA3 := add_str p2 t1 (by have := HB.out; omega) (by have := HL1.out; omega)
          obtain ⟨p3, hp3⟩ : ∃ p, p2 ++ t1 = p := ⟨_, rfl⟩
          rw [hp3] at hA3
          have HE := Lib.hid (show pr (j + 1) = p3 by rw [HPs.out, hl, HP1.out, ← hp3, ← HP12.out]; simp)
          clear hp3
          have HLt := Lib.hid hl
          clear hl
          go_wp2_with (first
            | (with_reducible refine (HD1.out _).mono ?_; rintro e w2 ⟨rfl, hc2⟩; have HC2 := Lib.hid (HCr.out.trans hc2); clear hc2)
            | (with_reducible refine (HD2.out _).mono ?_; rintro e w2 ⟨rfl, hc2⟩; have HC2 := Lib.hid (HCr.out.trans hc2); clear hc2)
            | (with_reducible refine (HD3.out _).mono ?_; rintro e w2 ⟨rfl, hc2⟩; have HC2 := Lib.hid (HCr.out.trans hc2); clear hc2)
            | (with_reducible refine (HD4.out _).mono ?_; rintro e w2 ⟨rfl, hc2⟩; have HC2 := Lib.hid (HCr.out.trans hc2); clear hc2)
            | fail)
          go_roundw
          case rel => exact ⟨j + 1, by omega, by rw [HE.out], by go_num, HC2.out⟩
          case measure => simp [intOf]; omega
        · have q100 : ((l[j].toNat : Int) == 100) = false := HN.out 100 (by decide) (by rw [hl]; decide)
          have q115 : ((l[j].toNat : Int) == 115) = true := HY.out 115 (by decide) hl
          have hA3 := add_str p2 t2 (by have := HB.out; omega) (by have := HL2.out; omega)
          obtain ⟨p3, hp3⟩ : ∃ p, p2 ++ t2 = p := ⟨_, rfl⟩
          rw [hp3] at hA3
          have HE := Lib.hid (show pr (j + 1) = p3 by rw [HPs.out, hl, HP2.out, ← hp3, ← HP12.out]; simp)
          clear hp3
          have HLt := Lib.hid hl
          clear hl
          go_wp2_with (first
            | (with_reducible refine (HD1.out _).mono ?_; rintro e w2 ⟨rfl, hc2⟩; have HC2 := Lib.hid (HCr.out.trans hc2); clear hc2)
            | (with_reducible refine (HD2.out _).mono ?_; rintro e w2 ⟨rfl, hc2⟩; have HC2 := Lib.hid (HCr.out.trans hc2); clear hc2)
            | (with_reducible refine (HD3.out _).mono ?_; rintro e w2 ⟨rfl, hc2⟩; have HC2 := Lib.hid (HCr.out.trans hc2); clear hc2)
            | (with_reducible refine (HD4.out _).mono ?_; rintro e w2 ⟨rfl, hc2⟩; have HC2 := Lib.hid (HCr.out.trans hc2); clear hc2)
            | fail)
          go_roundw
          case rel => exact ⟨j + 1, by omega, by rw [HE.out], by go_num, HC2.out⟩
          case measure => simp [intOf]; omega
        · have q100 : ((l[j].toNat : Int) == 100) = false := HN.out 100 (by decide) (by rw [hl]; decide)
          have q115 : ((l[j].toNat : Int) == 115) = false := HN.out 115 (by decide) (by rw [hl]; decide)
          have q111 : ((l[j].toNat : Int) == 111) = true := HY.out 111 (by decide) hl
          have hA3 := add_str p1 t3 (by have := HB.out; omega) (by have := HL3.out; omega)
          obtain ⟨p3, hp3⟩ : ∃ p, p1 ++ t3 = p := ⟨_, rfl⟩
          rw [hp3] at hA3
          have HE := Lib.hid (show pr (j + 1) = p3 by rw [HPs.out, hl, HP3.out, ← hp3])
          clear hp3
          have HLt := Lib.hid hl
          clear hl
          go_wp2_with (first
            | (with_reducible refine (HD1.out _).mono ?_; rintro e w2 ⟨rfl, hc2⟩; have HC2 := Lib.hid (HCr.out.trans hc2); clear hc2)
            | (with_reducible refine (HD2.out _).mono ?_; rintro e w2 ⟨rfl, hc2⟩; have HC2 := Lib.hid (HCr.out.trans hc2); clear hc2)
            | (with_reducible refine (HD3.out _).mono ?_; rintro e w2 ⟨rfl, hc2⟩; have HC2 := Lib.hid (HCr.out.trans hc2); clear hc2)
            | (with_reducible refine (HD4.out _).mono ?_; rintro e w2 ⟨rfl, hc2⟩; have HC2 := Lib.hid (HCr.out.trans hc2); clear hc2)
            | fail)
          go_roundw
          case rel => exact ⟨j + 1, by omega, by rw [HE.out], by go_num, HC2.out⟩
          case measure => simp [intOf]; omega
        · have q100 : ((l[j].toNat : Int) == 100) = false := HN.out 100 (by decide) (by rw [hl]; decide)
          have q115 : ((l[j].toNat : Int) == 115) = false := HN.out 115 (by decide) (by rw [hl]; decide)
          have q111 : ((l[j].toNat : Int) == 111) = false := HN.out 111 (by decide) (by rw [hl]; decide)
          have hA3 := add_str p1 t4 (by have := HB.out; omega) (by have := HL4.out; omega)
          obtain ⟨p3, hp3⟩ : ∃ p, p1 ++ t4 = p := ⟨_, rfl⟩
          rw [hp3] at hA3
          have HE := Lib.hid (show pr (j + 1) = p3 by rw [HPs.out, hl, HP4.out, ← hp3])
          clear hp3
          have HLt := Lib.hid hl
          clear hl
          go_wp2_with (first
            | (with_reducible refine (HD1.out _).mono ?_; rintro e w2 ⟨rfl, hc2⟩; have HC2 := Lib.hid (HCr.out.trans hc2); clear hc2)
            | (with_reducible refine (HD2.out _).mono ?_; rintro e w2 ⟨rfl, hc2⟩; have HC2 := Lib.hid (HCr.out.trans hc2); clear hc2)
            | (with_reducible refine (HD3.out _).mono ?_; rintro e w2 ⟨rfl, hc2⟩; have HC2 := Lib.hid (HCr.out.trans hc2); clear hc2)
            | (with_reducible refine (HD4.out _).mono ?_; rintro e w2 ⟨rfl, hc2⟩; have HC2 := Lib.hid (HCr.out.trans hc2); clear hc2)
            | fail)
          go_roundw
          case rel => exact ⟨j + 1, by omega, by rw [HE.out], by go_num, HC2.out⟩
          case measure => simp [intOf]; omega
    · obtain rfl : j = l.length := by omega
      clear hlt hj
      go_wp2_with fail
      go_ret
      exact ⟨by rw [← HA.out]; rfl, HC1.out.trans HCr.out⟩
end Go.Proofs.YtgldkalagmjkfaaDoor
