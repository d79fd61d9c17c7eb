/-
  Plain: a copy: of what piece, its bytes, whether it is over, the page that it met, how often it was tried; what a try makes of it.
-/
import Derived.Test.YtcdolkbljheniaaUsQ
namespace Go.Proofs.Ytcdolkbljheniaa
open Go.RowKit

structure CZ where
  out : Bool
  a : Int
  n : Nat
  bs : List Int
  over : Bool
  page : Int
  t : Nat
/-- Does it wait? -/
def CZ.waits (z : CZ) : Bool := !z.over && decide (0 < z.t)
def CZ.pageOf (z : CZ) : Int := if z.waits then z.page else 0
/-- A new copy in; a new copy out. -/
def CZ.inn (a : Int) (n : Nat) : CZ := ⟨false, a, n, [], false, 0, 0⟩
def CZ.outn (a : Int) (l : List Int) : CZ := ⟨true, a, l.length, l, false, 0, 0⟩
/-- What the touch of its piece tells. -/
def CZ.met (z : CZ) (x : MS) : Int × Int := touchR (16 * x.n) (byPage x.s) z.a z.n
/-- It waits for a page; it is done; it has failed. -/
def CZ.wait (z : CZ) (p : Int) : CZ := { z with page := p, t := z.t + 1 }
def CZ.done (z : CZ) (x : MS) : CZ := { z with bs := if z.out then z.bs else peekL x.b z.a.toNat z.n, over := true, t := z.t + 1 }
def CZ.fail (z : CZ) : CZ := { z with bs := if z.out then z.bs else List.replicate z.n 0, over := true, t := z.t + 1 }
def CZ.mem (z : CZ) (x : MS) : MS := if z.out then pokeS x z.a z.bs else x
theorem touch_code {N : Nat} {h : Nat → Int} {a m p q : Int} (e : touchR N h a m = (p, q)) : (q = 0 ∧ wIn N a m) ∨ (q = 15 ∧ wIn N a m) ∨ (q = 14 ∧ wIn N a m) ∨ (q = 2 ∧ ¬ wIn N a m) := by
  unfold touchR at e
  by_cases hin : wIn N a m
  · rw [if_pos hin] at e
    have := tch_code h m.toNat a.toNat
    rw [e] at this
    rcases this with h | h | h
    · exact .inl ⟨h, hin⟩
    · exact .inr (.inl ⟨h, hin⟩)
    · exact .inr (.inr (.inl ⟨h, hin⟩))
  · rw [if_neg hin] at e
    exact .inr (.inr (.inr ⟨(Prod.mk.inj e).2.symm, hin⟩))
theorem CZ.waits_wait (z : CZ) (p : Int) (h : z.over = false) : (z.wait p).waits = true := by simp [CZ.waits, CZ.wait, h]
theorem CZ.waits_done (z : CZ) (x : MS) : (z.done x).waits = false := by simp [CZ.waits, CZ.done]
theorem CZ.waits_fail (z : CZ) : z.fail.waits = false := by simp [CZ.waits, CZ.fail]
end Go.Proofs.Ytcdolkbljheniaa
