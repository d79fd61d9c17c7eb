/-
  A deadline's spot: the program's answer and the document's.
-/
import Derived.Test.YtnbfficaadlphaaLvA
namespace Go.Proofs.Ytnbfficaadlphaa
open Go.RowKit

attribute [local go_sem] Oper.semAt_some

def spV (s : Sp) : Value := .agg #[.int .i64 (s.lv : Int), .int .i64 s.sl, .int .u64 s.at', .int .u64 s.due]

/-- Four cells of a block. -/
structure Four (w : World) (b : Nat) (x y z u : Value) : Prop where
  c0 : w.cell? ⟨b, 0, none⟩ = some x
  c1 : w.cell? ⟨b, 1, none⟩ = some y
  c2 : w.cell? ⟨b, 2, none⟩ = some z
  c3 : w.cell? ⟨b, 3, none⟩ = some u
theorem Four.new (w : World) (x y z u : Value) (t : TypeId) : Four (w.alloc (.cells #[x, y, z, u] t)) w.heap.size x y z u :=
  ⟨by rw [World.cell?_alloc_at _ _ _ _ rfl]; rfl, by rw [World.cell?_alloc_at _ _ _ _ rfl]; rfl, by rw [World.cell?_alloc_at _ _ _ _ rfl]; rfl, by rw [World.cell?_alloc_at _ _ _ _ rfl]; rfl⟩
theorem Four.lt {w : World} {b : Nat} {x y z u : Value} (h : Four w b x y z u) : b < w.heap.size := cell_lt h.c0
theorem Four.ch {S : List Nat} {w w' : World} {b : Nat} {x y z u : Value} (h : Four w b x y z u) (hc : Ch S w w') (hb : b ∉ S) : Four w' b x y z u :=
  ⟨(hc.cell (p := ⟨b, 0, none⟩) h.lt hb).trans h.c0, (hc.cell (p := ⟨b, 1, none⟩) h.lt hb).trans h.c1, (hc.cell (p := ⟨b, 2, none⟩) h.lt hb).trans h.c2, (hc.cell (p := ⟨b, 3, none⟩) h.lt hb).trans h.c3⟩
theorem hor_wd : Wd 132120575 := ⟨by decide, by decide⟩

/-- What a placing works on. -/
theorem place_parts {f a : Int} (hf : Wd f) (ha : Wd a) (hm : f ≠ 18446744073709551615) :
    ∃ (c : Int) (n : Nat) (g : Int), clampV f a 132120575 = c ∧ Wd c ∧ IntKind.u64.wrap (c - f) = c - f ∧ Wd (c - f) ∧ n < 8 ∧ g8 n = g ∧ ofL (c - f) = (n : Int) ∧ 1 ≤ g ∧ g ≤ 2097152 ∧ placeV f a = ⟨n, numV c g % 64, c, mulV (numV c g) g⟩ := by
  obtain ⟨-, p1, p2, p3⟩ := clampV_of hf ha hm
  have hf0 := hf.lo
  have hd : ofN (clampV f a 132120575 - f) < 8 := by
    have := (ofN_iff (clampV f a 132120575 - f) (j := 7) (by decide)).1 (by simp only [g8]; omega)
    omega
  have hg := g8_lo hd
  refine ⟨_, _, _, rfl, ⟨by omega, by omega⟩, ?_, ⟨by omega, by omega⟩, hd, rfl, ?_, hg.1, hg.2, rfl⟩
  · rw [IntKind.wrap_u64]; omega
  · unfold ofL; rw [if_neg (by omega)]

theorem place_max (a : Int) (w : World) : Calls Try.prog 15 #[.int .u64 18446744073709551615, .int .u64 a] w fun e w' => e = .returned (.tuple #[.agg #[.int .i64 0, .int .i64 0, .int .u64 0, .int .u64 0], .int .i64 12]) ∧ Ch [] w w' := by
  have HF := Lib.hid (Four.new w (.int .i64 0) (.int .i64 0) (.int .u64 0) (.int .u64 0) 29)
  have HC := Lib.hid ((Ch.refl [] w).alloc (.cells #[.int .i64 0, .int .i64 0, .int .u64 0, .int .u64 0] 29))
  obtain ⟨c0, c1, c2, c3⟩ := HF.out
  go_enter Try.func15, Try.ntmps15
  go_wp2
  refine bodyPost_ret (v := .tuple #[.agg #[.int .i64 0, .int .i64 0, .int .u64 0, .int .u64 0], .int .i64 12]) ?_ rfl ?_
  · simp [results, Try.f15, go_sem, c0, c1, c2, c3]
  · exact ⟨rfl, HC.out⟩

theorem place_any {f a : Int} (hf : Wd f) (ha : Wd a) (hm : f ≠ 18446744073709551615) (w : World) :
    Calls Try.prog 15 #[.int .u64 f, .int .u64 a] w fun e w' => e = .returned (.tuple #[spV (placeV f a), .int .i64 0]) ∧ Ch [] w w' := by
  obtain ⟨c, n, g, hc, hcw, hsub, hdw, hn, hg, hL, g1, g2, hP⟩ := place_parts hf ha hm
  obtain ⟨off, ho, o1, o2, o3, e1, e2, e3, -⟩ := put_on hcw hn hg
  have HCl := Lib.hid (clamp_any (a := a) hf hor_wd (w.alloc (.cells #[.int .i64 0, .int .i64 0, .int .u64 0, .int .u64 0] 29)))
  have HOf := Lib.hid (fun W => of_any (c - f) W)
  have HGr := Lib.hid (fun W => gran_k hn W)
  have hoff : Wd off := ⟨o1, by omega⟩
  have HAdd := Lib.hid (fun W => add_any hcw hoff W)
  rw [hc] at HCl
  rw [hL] at HOf
  rw [hg] at HGr
  rw [hP]
  rw [e2] at HAdd
  have hmf : (f == 18446744073709551615) = false := by simpa using hm
  obtain ⟨hcl, hch⟩ := hcw
  have hg0 : ¬ g = 0 := by omega
  have hr1 : Int.tmod c g = c % g := Int.tmod_eq_emod_of_nonneg hcl
  have hb := Int.emod_nonneg c hg0
  have hr2 : IntKind.u64.wrap (g - c % g) = g - c % g := by rw [IntKind.wrap_u64]; omega
  have hr3 : Int.tmod (g - c % g) g = off := by rw [Int.tmod_eq_emod_of_nonneg o3]; exact ho
  have hs1 : IntKind.u64.wrap (c + off) = (c + off) % 18446744073709551616 := by rw [IntKind.wrap_u64]
  obtain ⟨m, hmm⟩ : ∃ m, (c + off) % 18446744073709551616 = m := ⟨_, rfl⟩
  rw [hmm] at hs1 e3
  have hm0 : 0 ≤ m := by omega
  obtain ⟨q, hq⟩ : ∃ q, m / g = q := ⟨_, rfl⟩
  have hq0 : 0 ≤ q := by rw [← hq]; exact Int.ediv_nonneg hm0 (by omega)
  have hqm : q ≤ m := by rw [← hq]; exact Int.ediv_le_self _ hm0
  have hs2 : Int.tdiv m g = q := by rw [Int.tdiv_eq_ediv_of_nonneg hm0]; exact hq
  have hs3 : IntKind.u64.wrap q = q := by rw [IntKind.wrap_u64]; omega
  rw [hq] at e3
  have hs4 : Int.tmod q 64 = numV c g % 64 := by rw [Int.tmod_eq_emod_of_nonneg hq0]; exact e3
  have hs5 : IntKind.i64.wrap (numV c g % 64) = numV c g % 64 := by rw [IntKind.wrap_i64]; omega
  generalize numV c g % 64 = sl at *
  generalize mulV (numV c g) g = D at *
  generalize c % g = r at *
  generalize ofB (c - f) = B at *
  generalize addO c off = O at *
  have HF := Lib.hid (Four.new w (.int .i64 0) (.int .i64 0) (.int .u64 0) (.int .u64 0) 29)
  obtain ⟨c0, c1, c2, c3⟩ := HF.out
  clear hf ha hm hc hcl hch hdw hn hg hL g1 g2 hP ho o1 o2 o3 e1 e2 e3 hoff hb hmm hm0 hq hq0 hqm
  go_enter Try.func15, Try.ntmps15
  go_wp2_with fail
  with_reducible refine HCl.out.mono ?_
  rintro e w1 ⟨rfl, rfl⟩
  go_wp2_with fail
  with_reducible refine (HOf.out _).mono ?_
  rintro e w1 ⟨rfl, rfl⟩
  go_wp2_with fail
  with_reducible refine (HGr.out _).mono ?_
  rintro e w1 ⟨rfl, rfl⟩
  go_wp2_with fail
  with_reducible refine (HAdd.out _).mono ?_
  rintro e w1 ⟨rfl, rfl⟩
  go_wp2
  obtain ⟨k0, k1, k2, k3⟩ := Four.new w (.int .i64 (n : Int)) (.int .i64 sl) (.int .u64 c) (.int .u64 D) 29
  refine bodyPost_ret (v := .tuple #[.agg #[.int .i64 (n : Int), .int .i64 sl, .int .u64 c, .int .u64 D], .int .i64 0]) ?_ rfl ?_
  · simp [results, Try.f15, go_sem, k0, k1, k2, k3]
  · exact ⟨rfl, (Ch.refl [] w).alloc _⟩

theorem rplace_max (a : Int) (w : World) : Calls Try.prog 16 #[.int .u64 18446744073709551615, .int .u64 a] w fun e w' => e = .returned (.tuple #[.agg #[.int .i64 0, .int .i64 0, .int .u64 0, .int .u64 0], .int .i64 12]) ∧ Ch [] w w' := by
  have HF := Lib.hid (Four.new w (.int .i64 0) (.int .i64 0) (.int .u64 0) (.int .u64 0) 33)
  have HC := Lib.hid ((Ch.refl [] w).alloc (.cells #[.int .i64 0, .int .i64 0, .int .u64 0, .int .u64 0] 33))
  obtain ⟨c0, c1, c2, c3⟩ := HF.out
  go_enter Try.func16, Try.ntmps16
  go_wp2
  refine bodyPost_ret (v := .tuple #[.agg #[.int .i64 0, .int .i64 0, .int .u64 0, .int .u64 0], .int .i64 12]) ?_ rfl ?_
  · simp [results, Try.f16, go_sem, c0, c1, c2, c3]
  · exact ⟨rfl, HC.out⟩

theorem rplace_any {f a : Int} (hf : Wd f) (ha : Wd a) (hm : f ≠ 18446744073709551615) (w : World) :
    Calls Try.prog 16 #[.int .u64 f, .int .u64 a] w fun e w' => e = .returned (.tuple #[spV (placeV f a), .int .i64 0]) ∧ Ch [] w w' := by
  obtain ⟨c, n, g, hc, hcw, hsub, hdw, hn, hg, hL, g1, g2, hP⟩ := place_parts hf ha hm
  obtain ⟨off, ho, o1, o2, o3, e1, e2, e3, e4⟩ := put_on hcw hn hg
  obtain ⟨N1, N2, N3⟩ := numV_wd hcw hn hg
  have hgw : Wd g := ⟨by omega, by omega⟩
  have HCl := Lib.hid (rclamp_any (a := a) hf hor_wd (w.alloc (.cells #[.int .i64 0, .int .i64 0, .int .u64 0, .int .u64 0] 33)))
  have HOf := Lib.hid (fun W => rof_any hdw W)
  have HGr := Lib.hid (fun W => rgran_k hn W)
  have HMul := Lib.hid (fun W => mul_any hgw (by omega) N2 (Int.mul_nonneg N1 hgw.lo) W)
  rw [hc] at HCl
  rw [hL] at HOf
  rw [hg] at HGr
  rw [hP]
  have hmf : (f == 18446744073709551615) = false := by simpa using hm
  obtain ⟨hcl, hch⟩ := hcw
  have hg0 : ¬ g = 0 := by omega
  have hr1 : Int.tmod c g = c % g := Int.tmod_eq_emod_of_nonneg hcl
  obtain ⟨q, hq⟩ : ∃ q, c / g = q := ⟨_, rfl⟩
  have hq0 : 0 ≤ q := by rw [← hq]; exact Int.ediv_nonneg hcl (by omega)
  have hqm : q ≤ c := by rw [← hq]; exact Int.ediv_le_self _ hcl
  have hs2 : Int.tdiv c g = q := by rw [Int.tdiv_eq_ediv_of_nonneg hcl]; exact hq
  have hs3 : IntKind.u64.wrap q = q := by rw [IntKind.wrap_u64]; omega
  rw [hq] at e4
  have hs4 : Int.tmod (numV c g) 64 = numV c g % 64 := Int.tmod_eq_emod_of_nonneg N1
  have hs5 : IntKind.i64.wrap (numV c g % 64) = numV c g % 64 := by rw [IntKind.wrap_i64]; omega
  obtain ⟨sl, hsl⟩ : ∃ sl, numV c g % 64 = sl := ⟨_, rfl⟩
  rw [hsl] at hs4 hs5 ⊢
  generalize mulV (numV c g) g = D at *
  generalize c % g = r at *
  generalize ofB (c - f) = B at *
  generalize numV c g = N at *
  have HF := Lib.hid (Four.new w (.int .i64 0) (.int .i64 0) (.int .u64 0) (.int .u64 0) 33)
  obtain ⟨c0, c1, c2, c3⟩ := HF.out
  clear hf ha hm hc hcl hch hdw hn hg hL g1 g2 hP ho o1 o2 o3 e1 e2 e3 hq hqm hgw hsl N2
  by_cases h0 : 0 < r
  · have hd : decide (0 < r) = true := decide_eq_true h0
    rw [if_pos h0] at e4
    subst e4
    have hs6 : IntKind.u64.wrap (q + 1) = q + 1 := by rw [IntKind.wrap_u64]; omega
    clear h0 N1 N3 hq0
    go_enter Try.func16, Try.ntmps16
    go_wp2_with fail
    with_reducible refine HCl.out.mono ?_
    rintro e w1 ⟨rfl, rfl⟩
    go_wp2_with fail
    with_reducible refine (HOf.out _).mono ?_
    rintro e w1 ⟨rfl, rfl⟩
    go_wp2_with fail
    with_reducible refine (HGr.out _).mono ?_
    rintro e w1 ⟨rfl, rfl⟩
    go_wp2_with fail
    with_reducible refine (HMul.out _).mono ?_
    rintro e w1 ⟨rfl, rfl⟩
    go_wp2
    obtain ⟨k0, k1, k2, k3⟩ := Four.new w (.int .i64 (n : Int)) (.int .i64 sl) (.int .u64 c) (.int .u64 D) 33
    refine bodyPost_ret (v := .tuple #[.agg #[.int .i64 (n : Int), .int .i64 sl, .int .u64 c, .int .u64 D], .int .i64 0]) ?_ rfl ?_
    · simp [results, Try.f16, go_sem, k0, k1, k2, k3]
    · exact ⟨rfl, (Ch.refl [] w).alloc _⟩
  · have hd : decide (0 < r) = false := decide_eq_false h0
    rw [if_neg h0, Int.add_zero] at e4
    subst e4
    clear h0 N1 N3 hq0
    go_enter Try.func16, Try.ntmps16
    go_wp2_with fail
    with_reducible refine HCl.out.mono ?_
    rintro e w1 ⟨rfl, rfl⟩
    go_wp2_with fail
    with_reducible refine (HOf.out _).mono ?_
    rintro e w1 ⟨rfl, rfl⟩
    go_wp2_with fail
    with_reducible refine (HGr.out _).mono ?_
    rintro e w1 ⟨rfl, rfl⟩
    go_wp2_with fail
    with_reducible refine (HMul.out _).mono ?_
    rintro e w1 ⟨rfl, rfl⟩
    go_wp2
    obtain ⟨k0, k1, k2, k3⟩ := Four.new w (.int .i64 (n : Int)) (.int .i64 sl) (.int .u64 c) (.int .u64 D) 33
    refine bodyPost_ret (v := .tuple #[.agg #[.int .i64 (n : Int), .int .i64 sl, .int .u64 c, .int .u64 D], .int .i64 0]) ?_ rfl ?_
    · simp [results, Try.f16, go_sem, k0, k1, k2, k3]
    · exact ⟨rfl, (Ch.refl [] w).alloc _⟩
end Go.Proofs.Ytnbfficaadlphaa
