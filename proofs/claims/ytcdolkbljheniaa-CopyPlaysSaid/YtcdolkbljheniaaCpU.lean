/-
  CopyPlays' picture: memory and copy beside the answer's row and copy.
-/
import Derived.Test.YtcdolkbljheniaaCpS
namespace Go.Proofs.Ytcdolkbljheniaa
open Go.RowKit

theorem BytesAt.away {w w' : World} {S : List Nat} {a : Option Addr} {l : List Int} (h : BytesAt w a l) (hc : Ch S w w') (hS : l ≠ [] → ∀ y, a = some y → y.block ∉ S) : BytesAt w' a l := by
  by_cases hl : l = []
  · exact .inl hl
  · exact h.ch hc (hS hl)
/-- The answer's copy in its variable. -/
abbrev BZ (w : World) (X : Nat) (z : CZ) (v : Option Addr) (cap : Nat) : Prop := Bx w X (.bool z.out) (.bool z.over) (.bool z.waits) (.int .i64 z.a) (.int .i64 (z.n : Int)) (.int .i64 z.pageOf) (.int .i64 (z.t : Int)) (.slice v z.bs.length cap)
/-- The variable written anew. -/
def stZ (w : World) (X : Nat) (z : CZ) (v : Option Addr) (cap : Nat) : World := st8 w X (.bool z.out) (.bool z.over) (.bool z.waits) (.int .i64 z.a) (.int .i64 (z.n : Int)) (.int .i64 z.pageOf) (.int .i64 (z.t : Int)) (.slice v z.bs.length cap)
structure PX (w0 w : World) (b g N : Nat) (x : MS) (L D c : Nat) (z : CZ) (X : Nat) (v : Option Addr) (cap : Nat) : Prop where
  u : UX w0 w b g N x L D c z
  bz : BZ w X z v cap
  vb : BytesAt w v z.bs
  X0 : w0.heap.size ≤ X
  Xb : X ≠ b
  Xc : X ≠ c
  Xg : X ≠ g
  XL : X < L ∨ X = D
  va : z.bs ≠ [] → ∀ y, v = some y → y.block ≠ b ∧ y.block ≠ c ∧ y.block ≠ X
section
variable {w0 w w' : World} {b g N L D c : Nat} {x : MS} {z : CZ} {X : Nat} {v : Option Addr} {cap : Nat}
theorem PX.quiet (h : PX w0 w b g N x L D c z X v cap) (hc : Ch [] w w') : PX w0 w' b g N x L D c z X v cap :=
  ⟨h.u.quiet hc, h.bz.quiet hc, h.vb.ch hc (by simp), h.X0, h.Xb, h.Xc, h.Xg, h.XL, h.va⟩
theorem PX.do (h : PX w0 w b g N x L D c z X v cap) (cp : Nat) {K P A M : Int} {v5 : Option Addr} {len cap2 : Nat} (hA : A ≤ 9223372036854775807) (hlc : len ≤ cap2) {l : List Int} (hl : l.length = len) (hb : BytesAt w v5 l) :
    Calls Try.prog 10 #[.pointer (some ⟨b, 0, none⟩), .slice (some ⟨g, 0, none⟩) N cp, .agg #[.int .i64 K, .int .i64 P, .int .i64 A, .int .i64 M, .slice v5 len cap2]] w fun e w' => ∃ g' cp', e = .returned (.tuple #[.slice (some ⟨g', 0, none⟩) N cp', .bool true]) ∧ ∃ y, PX w0 w' b g' N y L D c z X v cap := by
  refine (do_any (cap := cp) h.u.p K P A M v5 len cap2 hA hlc hl hb).mono ?_
  rintro e w' ⟨g', cp', rfl, y, h1, h2⟩
  have hX := h.bz.lt
  exact ⟨g', cp', rfl, y, h.u.of h1 h2, h.bz.ch h2.1 (by simpa using h.Xb), h.vb.away h2.1 (fun q y e => by simpa using (h.va q y e).1), h.X0, h.Xb, h.Xc, by rcases h2.2 with h3 | h3; (rw [h3]; exact h.Xg); omega, h.XL, h.va⟩
/-- The answer's try; its variable is written; then the program's. -/
theorem PX.try (h : PX w0 w b g N x L D c z X v cap) (ht : z.t < 1000000) (cp : Nat) (wait : Bool) :
    Calls Try.prog 14 #[.slice (some ⟨g, 0, none⟩) N cp, gz z v cap, .bool wait] w fun e w1 => ∃ g' cp' v' cap' E z' x', e = .returned (.tuple #[.slice (some ⟨g', 0, none⟩) N cp', gz z' v' cap', .int .i64 E]) ∧ Ch [] w w1 ∧ Hid (z'.t ≤ z.t + 1 ∧ z'.n = z.n) ∧ Hid (Ch [] w0 (stZ w1 X z' v' cap')) ∧
      Hid (Calls Try.prog 15 #[.pointer (some ⟨c, 0, none⟩), .pointer (some ⟨b, 0, none⟩), .bool wait] (stZ w1 X z' v' cap') fun e w2 => e = .returned (.int .i64 E) ∧ PX w0 w2 b g' N x' L D c z' X v' cap') := by
  have hX := h.bz.lt
  have hN := h.u.p.hN
  have hbl := h.u.p.l.u.lt
  have hcl := h.u.k.lt
  -- the world behind the store
  have key : ∀ (w1 : World) (z' : CZ) (v' : Option Addr) (cap' : Nat), Ch [] w w1 → UC w0 (stZ w1 X z' v' cap') b x L D c z ∧ BZ (stZ w1 X z' v' cap') X z' v' cap' ∧ Ch [X] w1 (stZ w1 X z' v' cap') := by
    intro w1 z' v' cap' hc1
    have hs : Ch [X] w1 (stZ w1 X z' v' cap') := st8_ch _ _ _ _ _ _ _ _ _ _
    have h1 := h.quiet hc1
    exact ⟨⟨⟨h1.u.p.l.u.ch hs (by simpa using fun e => h.Xb e.symm), h1.u.p.l.ch.fresh hs (by simpa using h.X0), h1.u.p.l.lo⟩, h1.u.k.ch2 hs (by simpa using fun e => h.Xc e.symm) (by simpa using h.XL), h1.u.bL⟩, h1.bz.setAll _ _ _ _ _ _ _ _, hs⟩
  cases ho : z.over
  · obtain ⟨E, z', x', hR⟩ : ∃ E z' x', tryR z x wait = (E, z', x') := ⟨_, _, _, rfl⟩
    have hz' : z'.t ≤ z.t + 1 ∧ z'.n = z.n := by
      have e : z' = (tryR z x wait).2.1 := by rw [hR]
      subst e
      unfold tryR
      split
      · exact ⟨Nat.le_refl _, rfl⟩
      · split
        · exact ⟨Nat.le_refl _, rfl⟩
        · exact ⟨Nat.le_refl _, rfl⟩
    refine (rtry_any (cp := cp) h.u.p.r hN h.u.p.N0 h.u.p.N256 ho ht h.u.k.hn h.u.k.ho cap h.vb h.u.k.hb wait hR).mono ?_
    rintro e w1 ⟨g', cp', v', cap', rfl, hr1, hv1, hc1, hg1, hy1⟩
    obtain ⟨k1, k2, k3⟩ := key w1 z' v' cap' hc1
    refine ⟨g', cp', v', cap', E, z', x', rfl, hc1, Lib.hid hz', Lib.hid k1.u.ch, Lib.hid ?_⟩
    have hva : z'.bs ≠ [] → ∀ y, v' = some y → y.block ≠ b ∧ y.block ≠ c ∧ y.block ≠ X := fun q y e => by
      rcases hy1 y e with ⟨h1, h2⟩ | h1
      · exact h.va (h2 ▸ q) y h1
      · omega
    have hgX : g' ≠ X := by
      rcases hg1 with h1 | h1
      · rw [h1]; exact fun e => h.Xg e.symm
      · omega
    have hgb : g' ≠ b := by
      rcases hg1 with h1 | h1
      · rw [h1]; exact h.u.p.ne
      · omega
    have hgc : g' ≠ c := by
      rcases hg1 with h1 | h1
      · rw [h1]; exact h.u.gc
      · omega
    refine (k1.try (E := E) (z' := z') (x' := x') ho ht wait (by rw [hR]) (by rw [hR]) (by rw [hR])).mono ?_
    rintro e w2 ⟨rfl, h2, hc2⟩
    have hn := tryR_n z x wait
    rw [hR] at hn
    refine ⟨rfl, ⟨⟨h2.u, by rw [hn]; exact hN, (hr1.ch k3 (by simpa using hgX)).ch hc2 (by simp; omega), ?_, hgb⟩, h2.c, h2.bL, hgc⟩, k2.ch hc2 (by have := h.Xb; have := h.Xc; simp; omega), (hv1.away k3 (fun q y e => by have := hva q y e; simp; omega)).away hc2 (fun q y e => by have := hva q y e; simp; omega), h.X0, h.Xb, h.Xc, fun e => hgX e.symm, h.XL, hva⟩
    rcases hg1 with h1 | h1
    · rw [h1]; exact h.u.p.lo
    · exact Nat.le_trans h.u.p.l.ch.size h1
  · refine (rtry_still (cp := cp) ho v cap wait).mono ?_
    rintro e w1 ⟨rfl, hc1⟩
    obtain ⟨k1, k2, k3⟩ := key w1 z v cap hc1
    refine ⟨g, cp, v, cap, 6, z, x, rfl, hc1, Lib.hid ⟨Nat.le_succ _, rfl⟩, Lib.hid k1.u.ch, Lib.hid ?_⟩
    refine (try_over k1.c ho _ wait).mono ?_
    rintro e w2 ⟨rfl, rfl⟩
    have h1 := h.quiet hc1
    exact ⟨rfl, ⟨⟨k1.u, hN, h1.u.p.r.ch k3 (by simpa using fun e => h.Xg e.symm), h.u.p.lo, h.u.p.ne⟩, k1.c, k1.bL, h.u.gc⟩, k2, h1.vb.away k3 (fun q y e => by have := h.va q y e; simp; omega), h.X0, h.Xb, h.Xc, h.Xg, h.XL, h.va⟩
end
end Go.Proofs.Ytcdolkbljheniaa
