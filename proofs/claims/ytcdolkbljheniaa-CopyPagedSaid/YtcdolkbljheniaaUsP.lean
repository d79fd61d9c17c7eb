/-
  A memory beside the document's answer: one call on both.
-/
import Derived.Test.YtcdolkbljheniaaUsN
import Derived.Test.YtcdolkbljheniaaUsT
namespace Go.Proofs.Ytcdolkbljheniaa
open Go.RowKit

/-- Both: the memory in b, the answer's row in g. -/
structure UP (w0 w : World) (b g : Nat) (N : Nat) (x : MS) : Prop where
  l : UL w0 w b x
  hN : 16 * x.n = N
  r : RM w g N x.b (byPage x.s)
  lo : w0.heap.size ≤ g
  ne : g ≠ b
/-- What a call on both turned: the memory's block; the answer's row is the old one or a new one. -/
def UQ (w w' : World) (b g g' : Nat) : Prop := Ch [b] w w' ∧ (g' = g ∨ w.heap.size ≤ g')
theorem UQ.refl (w : World) (b g : Nat) : UQ w w b g g := ⟨Ch.refl _ _, .inl rfl⟩
theorem UQ.quiet {w0 w w' : World} {b g g' : Nat} (h : Ch [] w0 w) (k : UQ w w' b g g') : UQ w0 w' b g g' := ⟨(h.mono (by simp)).trans k.1, k.2.imp id (Nat.le_trans h.size)⟩
theorem UQ.then {w w' w2 : World} {b g g' : Nat} (k : UQ w w' b g g') (h : Ch [] w' w2) : UQ w w2 b g g' := ⟨k.1.trans (h.mono (by simp)), k.2⟩
section
variable {w0 w w' : World} {b g N : Nat} {x : MS}
theorem UP.quiet (h : UP w0 w b g N x) (hc : Ch [] w w') : UP w0 w' b g N x := ⟨h.l.quiet hc, h.hN, h.r.ch hc (by simp), h.lo, h.ne⟩
theorem UP.N256 (h : UP w0 w b g N x) : N ≤ 256 := by have := h.hN; have := h.l.u.hi; omega
theorem UP.N0 (h : UP w0 w b g N x) : 0 < N := by have := h.hN; have := h.l.u.lo; omega
/-- The answer's poke, then the program's. -/
theorem UP.poke (h : UP w0 w b g N x) (cap : Nat) (a : Int) (hr : a ≤ 9223372036854775807) {v : Option Addr} {cap2 n : Nat} {l : List Int} (hn : l.length = n) (hn2 : n ≤ 1000) (hl : BytesAt w v l) :
    Calls Try.prog 27 #[.slice (some ⟨g, 0, none⟩) N cap, .int .i64 a, .slice v n cap2] w fun e w1 => ∃ g' cp E, e = .returned (.tuple #[.slice (some ⟨g', 0, none⟩) N cp, .int .i64 E]) ∧ Ch [] w w1 ∧
      Hid (Calls Try.prog 25 #[.pointer (some ⟨b, 0, none⟩), .int .i64 a, .slice v n cap2] w1 fun e w2 => e = .returned (.int .i64 E) ∧ ∃ y, UP w0 w2 b g' N y ∧ UQ w w2 b g g') := by
  have hN := h.hN
  subst hN
  refine (rpoke_any h.r h.N256 h.N0 a v cap2 hn hn2 hl).mono ?_
  rintro e w1 ⟨g', cp, rfl, hr1, hc1, hg⟩
  refine ⟨g', cp, _, rfl, hc1, Lib.hid ?_⟩
  have hl1 := h.l.quiet hc1
  refine (hl1.poke rfl a hr hn hn2 (hl.ch hc1 (by simp)) rfl rfl).mono ?_
  rintro e w2 ⟨rfl, hu, hc2⟩
  refine ⟨rfl, _, ⟨hu, by rw [pokeS_n], ?_, by rcases hg with rfl | hg; exact h.lo; exact Nat.le_trans h.l.ch.size hg, by rcases hg with rfl | hg; exact h.ne; have := h.l.u.lt; omega⟩, (hc1.mono (by simp)).trans hc2, hg⟩
  have hne : g' ≠ b := by rcases hg with rfl | hg; exact h.ne; have := h.l.u.lt; omega
  have := hr1.ch hc2 (by simpa using hne)
  unfold pokeS
  rw [hn]
  by_cases hin : wIn (16 * x.n) a n
  · rw [if_pos hin] at this ⊢; exact this
  · rw [if_neg hin] at this ⊢; exact this
theorem UP.turn0 (h : UP w0 w b g N x) (cap : Nat) (p : Int) :
    Calls Try.prog 28 #[.slice (some ⟨g, 0, none⟩) N cap, .int .i64 p, .int .i64 0] w fun e w1 => ∃ g' cp E, e = .returned (.tuple #[.slice (some ⟨g', 0, none⟩) N cp, .int .i64 E]) ∧ Ch [] w w1 ∧
      Hid (Calls Try.prog 26 #[.pointer (some ⟨b, 0, none⟩), .int .i64 p] w1 fun e w2 => e = .returned (.int .i64 E) ∧ ∃ y, UP w0 w2 b g' N y ∧ UQ w w2 b g g') := by
  refine (rturn0_any h.r h.l.u.lo h.l.u.hi h.hN p).mono ?_
  rintro e w1 ⟨g', cp, rfl, hr1, hc1, hg⟩
  refine ⟨g', cp, _, rfl, hc1, Lib.hid ?_⟩
  refine ((h.l.quiet hc1).turn0 rfl rfl).mono ?_
  rintro e w2 ⟨rfl, hu, hc2⟩
  have hne : g' ≠ b := by rcases hg with rfl | hg; exact h.ne; have := h.l.u.lt; omega
  exact ⟨rfl, _, ⟨hu, by rw [turnS_n]; exact h.hN, by have := hr1.ch hc2 (by simpa using hne); rwa [show (turnS x p 0).b = x.b by unfold turnS; split <;> rfl], by rcases hg with rfl | hg; exact h.lo; exact Nat.le_trans h.l.ch.size hg, hne⟩, (hc1.mono (by simp)).trans hc2, hg⟩
theorem UP.turn1 (h : UP w0 w b g N x) (cap : Nat) (p : Int) :
    Calls Try.prog 28 #[.slice (some ⟨g, 0, none⟩) N cap, .int .i64 p, .int .i64 1] w fun e w1 => ∃ g' cp E, e = .returned (.tuple #[.slice (some ⟨g', 0, none⟩) N cp, .int .i64 E]) ∧ Ch [] w w1 ∧
      Hid (Calls Try.prog 29 #[.pointer (some ⟨b, 0, none⟩), .int .i64 p] w1 fun e w2 => e = .returned (.int .i64 E) ∧ ∃ y, UP w0 w2 b g' N y ∧ UQ w w2 b g g') := by
  refine (rturn1_any h.r h.l.u.lo h.l.u.hi h.hN p).mono ?_
  rintro e w1 ⟨g', cp, rfl, hr1, hc1, hg⟩
  refine ⟨g', cp, _, rfl, hc1, Lib.hid ?_⟩
  refine ((h.l.quiet hc1).turn1 rfl rfl).mono ?_
  rintro e w2 ⟨rfl, hu, hc2⟩
  have hne : g' ≠ b := by rcases hg with rfl | hg; exact h.ne; have := h.l.u.lt; omega
  exact ⟨rfl, _, ⟨hu, by rw [turnS_n]; exact h.hN, by have := hr1.ch hc2 (by simpa using hne); rwa [show (turnS x p 1).b = x.b by unfold turnS; split <;> rfl], by rcases hg with rfl | hg; exact h.lo; exact Nat.le_trans h.l.ch.size hg, hne⟩, (hc1.mono (by simp)).trans hc2, hg⟩
theorem UP.turn2 (h : UP w0 w b g N x) (cap : Nat) (p : Int) :
    Calls Try.prog 28 #[.slice (some ⟨g, 0, none⟩) N cap, .int .i64 p, .int .i64 2] w fun e w1 => ∃ g' cp E, e = .returned (.tuple #[.slice (some ⟨g', 0, none⟩) N cp, .int .i64 E]) ∧ Ch [] w w1 ∧
      Hid (Calls Try.prog 30 #[.pointer (some ⟨b, 0, none⟩), .int .i64 p] w1 fun e w2 => e = .returned (.int .i64 E) ∧ ∃ y, UP w0 w2 b g' N y ∧ UQ w w2 b g g') := by
  refine (rturn2_any h.r h.l.u.lo h.l.u.hi h.hN p).mono ?_
  rintro e w1 ⟨g', cp, rfl, hr1, hc1, hg⟩
  refine ⟨g', cp, _, rfl, hc1, Lib.hid ?_⟩
  refine ((h.l.quiet hc1).turn2 rfl rfl).mono ?_
  rintro e w2 ⟨rfl, hu, hc2⟩
  have hne : g' ≠ b := by rcases hg with rfl | hg; exact h.ne; have := h.l.u.lt; omega
  exact ⟨rfl, _, ⟨hu, by rw [turnS_n]; exact h.hN, by have := hr1.ch hc2 (by simpa using hne); rwa [show (turnS x p 2).b = x.b by unfold turnS; split <;> rfl], by rcases hg with rfl | hg; exact h.lo; exact Nat.le_trans h.l.ch.size hg, hne⟩, (hc1.mono (by simp)).trans hc2, hg⟩
/-- Both peek: the same bytes. -/
theorem UP.peek (h : UP w0 w b g N x) (cap : Nat) (a m : Int) (hr : a ≤ 9223372036854775807) :
    Calls Try.prog 21 #[.slice (some ⟨g, 0, none⟩) N cap, .int .i64 a, .int .i64 m] w fun e w1 => ∃ (p : Option Addr) (k cp : Nat) (E : Int) (L : List Int), e = .returned (.tuple #[.slice p k cp, .int .i64 E]) ∧ E = pieceE N a m ∧ Ch [] w w1 ∧ Hid (L.length = k ∧ k ≤ 256 ∧ BytesAt w1 p L ∧ UP w0 w1 b g N x) ∧
      Hid (Calls Try.prog 22 #[.pointer (some ⟨b, 0, none⟩), .int .i64 a, .int .i64 m] w1 fun e w2 => ∃ p2 cp2, e = .returned (.tuple #[.slice p2 k cp2, .int .i64 E]) ∧ Hid (BytesAt w2 p L ∧ BytesAt w2 p2 L ∧ UP w0 w2 b g N x ∧ Ch [] w w2)) := by
  obtain ⟨L, hL⟩ : ∃ L, L = if wIn N a m then peekL x.b a.toNat m.toNat else [] := ⟨_, rfl⟩
  refine (rpeek_any h.r h.N256 a m hL).mono ?_
  rintro e w1 ⟨v, rfl, hnb, hc1⟩
  obtain ⟨p, cp, rfl, hb, hy⟩ := hnb.form
  have hk : L.length ≤ 256 := by
    have := h.N256
    rw [hL]
    split
    · rw [peekL_len]; omega
    · simp
  refine ⟨p, _, cp, _, L, rfl, rfl, hc1, Lib.hid ⟨rfl, hk, hb, h.quiet hc1⟩, Lib.hid ?_⟩
  refine ((h.l.quiet hc1).peek h.hN a m hr rfl hL rfl).mono ?_
  rintro e w2 ⟨p2, cp2, rfl, hb2, -, hl2, hc2⟩
  exact ⟨p2, cp2, rfl, Lib.hid ⟨hb.ch hc2 (by simp), hb2, (h.quiet hc1).quiet hc2, hc1.trans hc2⟩⟩
/-- Both touch. -/
theorem UP.touch (h : UP w0 w b g N x) (cap : Nat) (a m : Int) (hr : a ≤ 9223372036854775807) : ∃ p q,
    (Calls Try.prog 31 #[.slice (some ⟨g, 0, none⟩) N cap, .int .i64 a, .int .i64 m] w fun e w1 => e = .returned (.tuple #[.int .i64 p, .int .i64 q]) ∧ w = w1) ∧
    (Calls Try.prog 23 #[.pointer (some ⟨b, 0, none⟩), .int .i64 a, .int .i64 m] w fun e w1 => e = .returned (.tuple #[.int .i64 p, .int .i64 q]) ∧ w = w1) := by
  obtain ⟨⟨p, q⟩, hpq⟩ : ∃ r : Int × Int, touchR N (byPage x.s) a m = r := ⟨_, rfl⟩
  exact ⟨p, q, rtouch_any h.r h.N256 a m hpq, h.l.touch (p := p) (q := q) hr (by rw [h.hN]; exact hpq)⟩
/-- Both say what a page is. -/
theorem UP.state (h : UP w0 w b g N x) (cap : Nat) (p : Int) : ∃ v,
    (Calls Try.prog 24 #[.pointer (some ⟨b, 0, none⟩), .int .i64 p] w fun e w1 => e = .returned (.int .i64 v) ∧ w = w1) ∧
    (Calls Try.prog 40 #[.slice (some ⟨g, 0, none⟩) N cap, .int .i64 p] w fun e w1 => e = .returned (.int .i64 v) ∧ w = w1) :=
  ⟨_, h.l.state p rfl, rstate_any (x := x) (by rw [h.hN]; exact h.r) h.l.u.hi h.hN p⟩
end
end Go.Proofs.Ytcdolkbljheniaa
