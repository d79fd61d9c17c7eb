/-
  Instructions in memory.
-/
import Derived.Test.YtlffcccicpdnfaaFrR
namespace Go.Proofs.Ytlffcccicpdnfaa
open Go.RowKit

/-- Instructions in memory: five cells each. -/
def fiv (x : I5) : List Value := [.int .i64 x.op, .int .i64 x.d, .int .i64 x.s, .int .i64 x.o, .int .i64 x.i]
structure FiveO (w : World) (b o : Nat) (x : I5) : Prop where
  c0 : w.cell? ⟨b, o, none⟩ = some (.int .i64 x.op)
  c1 : w.cell? ⟨b, o + 1, none⟩ = some (.int .i64 x.d)
  c2 : w.cell? ⟨b, o + 2, none⟩ = some (.int .i64 x.s)
  c3 : w.cell? ⟨b, o + 3, none⟩ = some (.int .i64 x.o)
  c4 : w.cell? ⟨b, o + 4, none⟩ = some (.int .i64 x.i)
theorem FiveO.ch {S : List Nat} {w w' : World} {b o : Nat} {x : I5} (h : FiveO w b o x) (hc : Ch S w w') (hb : b ∉ S) : FiveO w' b o x :=
  have hl := cell_lt h.c0
  ⟨(hc.cell (p := ⟨b, o, none⟩) hl hb).trans h.c0, (hc.cell (p := ⟨b, o + 1, none⟩) hl hb).trans h.c1, (hc.cell (p := ⟨b, o + 2, none⟩) hl hb).trans h.c2, (hc.cell (p := ⟨b, o + 3, none⟩) hl hb).trans h.c3, (hc.cell (p := ⟨b, o + 4, none⟩) hl hb).trans h.c4⟩
def InsAt (w : World) (a : Option Addr) (L : List I5) : Prop := L = [] ∨ ∃ b off, a = some ⟨b, off, none⟩ ∧ ∀ i (hi : i < L.length), FiveO w b (off + i * 5) L[i]
theorem InsAt.ch {w w' : World} {S : List Nat} {a : Option Addr} {L : List I5} (h : InsAt w a L) (hc : Ch S w w') (hS : ∀ y, a = some y → y.block ∉ S) : InsAt w' a L := by
  rcases h with rfl | ⟨b, off, rfl, hk⟩
  · exact .inl rfl
  · exact .inr ⟨b, off, rfl, fun i hi => (hk i hi).ch hc (hS ⟨b, off, none⟩ rfl)⟩
end Go.Proofs.Ytlffcccicpdnfaa
