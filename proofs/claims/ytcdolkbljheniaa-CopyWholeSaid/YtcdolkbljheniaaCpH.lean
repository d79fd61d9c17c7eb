/-
  A copy beside a memory and the document's answer; what a try of a copy out makes; bytes that came in, cut.
-/
import Derived.Test.YtcdolkbljheniaaCpG
namespace Go.Proofs.Ytcdolkbljheniaa
open Go.RowKit

/-- The answer of a new memory. -/
theorem UL.answer {w0 w : World} {b n N : Nat} (h : UL w0 w b (MS.zero n)) (hN : 16 * n = N) :
    Calls Try.prog 9 #[.int .i64 (n : Int)] w fun e w' => ∃ g cp, e = .returned (.slice (some ⟨g, 0, none⟩) N cp) ∧ UP w0 w' b g N (MS.zero n) ∧ Ch [] w w' ∧ w.heap.size ≤ g := by
  subst hN
  refine (rnew_any h.u.lo h.u.hi w).mono ?_
  rintro e w' ⟨cp, rfl, hr, hc, -⟩
  exact ⟨_, cp, rfl, ⟨h.quiet hc, rfl, hr, h.ch.size, fun e => by have := h.u.lt; omega⟩, hc, Nat.le_refl _⟩
/-- All three. -/
structure UX (w0 w : World) (b g N : Nat) (x : MS) (L D c : Nat) (z : CZ) : Prop where
  p : UP w0 w b g N x
  k : CC w L D c z
  bL : b < L
  gc : g ≠ c
section
variable {w0 w w' : World} {b g N L D c : Nat} {x : MS} {z : CZ}
theorem UX.uc (h : UX w0 w b g N x L D c z) : UC w0 w b x L D c z := ⟨h.p.l, h.k, h.bL⟩
theorem UX.quiet (h : UX w0 w b g N x L D c z) (hc : Ch [] w w') : UX w0 w' b g N x L D c z := ⟨h.p.quiet hc, h.k.quiet hc, h.bL, h.gc⟩
theorem UX.of (h : UX w0 w b g N x L D c z) {g' : Nat} {y : MS} (hp : UP w0 w' b g' N y) (hq : UQ w w' b g g') : UX w0 w' b g' N y L D c z :=
  ⟨hp, h.k.ch hq.1 (by simpa using h.bL), h.bL, by rcases hq.2 with rfl | hg; exact h.gc; have := h.k.lt; omega⟩
theorem UX.answer {n : Nat} (h : UC w0 w b (MS.zero n) L D c z) {N : Nat} (hN : 16 * n = N) :
    Calls Try.prog 9 #[.int .i64 (n : Int)] w fun e w' => ∃ g cp, e = .returned (.slice (some ⟨g, 0, none⟩) N cp) ∧ UX w0 w' b g N (MS.zero n) L D c z := by
  refine (h.u.answer hN).mono ?_
  rintro e w' ⟨g, cp, rfl, h1, h2, h3⟩
  exact ⟨g, cp, rfl, h1, h.c.quiet h2, h.bL, by have := h.c.lt; omega⟩
/-- One call that came in, on memory and answer. -/
theorem UX.do (h : UX w0 w b g N x L D c z) (cap : Nat) {K P A M : Int} {v : Option Addr} {len cap2 : Nat} (hA : A ≤ 9223372036854775807) (hlc : len ≤ cap2) {l : List Int} (hl : l.length = len) (hb : BytesAt w v l) :
    Calls Try.prog 10 #[.pointer (some ⟨b, 0, none⟩), .slice (some ⟨g, 0, none⟩) N cap, .agg #[.int .i64 K, .int .i64 P, .int .i64 A, .int .i64 M, .slice v len cap2]] w fun e w' => ∃ g' cp, e = .returned (.tuple #[.slice (some ⟨g', 0, none⟩) N cp, .bool true]) ∧ ∃ y, UX w0 w' b g' N y L D c z := by
  refine (do_any (cap := cap) h.p K P A M v len cap2 hA hlc hl hb).mono ?_
  rintro e w' ⟨g', cp, rfl, y, h1, h2⟩
  exact ⟨g', cp, rfl, y, h.of h1 h2⟩
/-- The same without a copy. -/
theorem UP.do (h : UP w0 w b g N x) (cap : Nat) {K P A M : Int} {v : Option Addr} {len cap2 : Nat} (hA : A ≤ 9223372036854775807) (hlc : len ≤ cap2) {l : List Int} (hl : l.length = len) (hb : BytesAt w v l) :
    Calls Try.prog 10 #[.pointer (some ⟨b, 0, none⟩), .slice (some ⟨g, 0, none⟩) N cap, .agg #[.int .i64 K, .int .i64 P, .int .i64 A, .int .i64 M, .slice v len cap2]] w fun e w' => ∃ g' cp, e = .returned (.tuple #[.slice (some ⟨g', 0, none⟩) N cp, .bool true]) ∧ ∃ y, UP w0 w' b g' N y := by
  refine (do_any (cap := cap) h K P A M v len cap2 hA hlc hl hb).mono ?_
  rintro e w' ⟨g', cp, rfl, y, h1, h2⟩
  exact ⟨g', cp, rfl, y, h1⟩
/-- What a try of a copy out makes. -/
theorem out_try (z : CZ) (x : MS) (wait : Bool) (ho : z.out = true) (hv : z.over = false) (hl : z.bs.length = z.n) : ∃ E z' x', tryR z x wait = (E, z', x') ∧ z'.bs = z.bs ∧ x'.n = x.n ∧
    ((E = 0 ∧ wIn (16 * x.n) z.a z.n ∧ x'.b = pokeF x.b z.a.toNat z.bs ∧ z'.over = true) ∨ (E = 15 ∧ wait = true ∧ x'.b = x.b ∧ z'.over = false) ∨ (E = 14 ∧ x'.b = x.b ∧ z'.over = true)) := by
  obtain ⟨⟨p, q⟩, hpq⟩ : ∃ r, z.met x = r := ⟨_, rfl⟩
  have hR := tryR_met z x wait hpq
  by_cases h15 : q = 15 ∧ wait = true
  · rw [if_pos h15] at hR
    exact ⟨_, _, _, hR, rfl, rfl, .inr (.inl ⟨rfl, h15.2, rfl, hv⟩)⟩
  · rw [if_neg h15] at hR
    by_cases h0 : q = 0
    · rw [if_pos h0] at hR
      have hin : wIn (16 * x.n) z.a z.n := by
        rcases touch_code hpq with ⟨_, h⟩ | ⟨h, _⟩ | ⟨h, _⟩ | ⟨h, _⟩
        · exact h
        all_goals rw [h0] at h; cases h
      refine ⟨_, _, _, hR, by simp [CZ.done, ho], ?_, .inl ⟨rfl, hin, ?_, rfl⟩⟩
      · unfold CZ.mem; rw [if_pos ho]; exact pokeS_n _ _ _
      · unfold CZ.mem pokeS; rw [if_pos ho, if_pos (by rw [hl]; exact hin)]
    · rw [if_neg h0] at hR
      exact ⟨_, _, _, hR, by simp [CZ.fail, ho], rfl, .inr (.inr ⟨rfl, rfl, rfl⟩)⟩
end
end Go.Proofs.Ytcdolkbljheniaa
