/-
  The chapter's example holds; UserLimits.
-/
import Derived.Test.YtcdolkbljheniaaUsK
namespace Go.Proofs.Ytcdolkbljheniaa
open Go.RowKit

section
variable {w0 w : World} {b : Nat} {x : MS}
theorem UL.touch (h : UL w0 w b x) {a m p q : Int} (hr : a ≤ 9223372036854775807) (e : touchR (16 * x.n) (byPage x.s) a m = (p, q)) :
    Calls Try.prog 23 #[.pointer (some ⟨b, 0, none⟩), .int .i64 a, .int .i64 m] w fun e w' => e = .returned (.tuple #[.int .i64 p, .int .i64 q]) ∧ w = w' := touch_any h.u a m hr e
theorem UL.turn0 (h : UL w0 w b x) {p e : Int} {y : MS} (he : turnE x p 0 = e) (hy : turnS x p 0 = y) :
    Calls Try.prog 26 #[.pointer (some ⟨b, 0, none⟩), .int .i64 p] w fun e' w' => e' = .returned (.int .i64 e) ∧ UL w0 w' b y ∧ Ch [b] w w' := by
  refine (turn0_any h.u p).mono ?_
  rintro e' w' ⟨rfl, hu, hc⟩
  rw [he]
  rw [hy] at hu
  exact ⟨rfl, h.next hc hu, hc⟩
theorem UL.turn1 (h : UL w0 w b x) {p e : Int} {y : MS} (he : turnE x p 1 = e) (hy : turnS x p 1 = y) :
    Calls Try.prog 29 #[.pointer (some ⟨b, 0, none⟩), .int .i64 p] w fun e' w' => e' = .returned (.int .i64 e) ∧ UL w0 w' b y ∧ Ch [b] w w' := by
  refine (turn1_any h.u p).mono ?_
  rintro e' w' ⟨rfl, hu, hc⟩
  rw [he]
  rw [hy] at hu
  exact ⟨rfl, h.next hc hu, hc⟩
theorem UL.turn2 (h : UL w0 w b x) {p e : Int} {y : MS} (he : turnE x p 2 = e) (hy : turnS x p 2 = y) :
    Calls Try.prog 30 #[.pointer (some ⟨b, 0, none⟩), .int .i64 p] w fun e' w' => e' = .returned (.int .i64 e) ∧ UL w0 w' b y ∧ Ch [b] w w' := by
  refine (turn2_any h.u p).mono ?_
  rintro e' w' ⟨rfl, hu, hc⟩
  rw [he]
  rw [hy] at hu
  exact ⟨rfl, h.next hc hu, hc⟩
theorem UL.new (w0 : World) {w : World} (hc : Ch [] w0 w) {n : Nat} (h1 : 1 ≤ n) (h16 : n ≤ 16) {b : Nat} (hb : w.heap.size = b) :
    Calls Try.prog 8 #[.int .i64 (n : Int)] w fun e w' => e = .returned (.tuple #[.pointer (some ⟨b, 0, none⟩), .int .i64 0]) ∧ UL w0 w' b (MS.zero n) ∧ Ch [] w w' ∧ b < w'.heap.size := by
  refine (new_in h1 h16 w hb).mono ?_
  rintro e w' ⟨rfl, hu, hc', hs⟩
  exact ⟨rfl, ⟨hu, hc.trans hc', by rw [← hb]; exact hc.size⟩, hc', by omega⟩
theorem UL.peek (h : UL w0 w b x) {N : Nat} (hN : 16 * x.n = N) (a m : Int) (hr : a ≤ 9223372036854775807) {e : Int} (he : pieceE N a m = e) {l : List Int} (hl : l = if wIn N a m then peekL x.b a.toNat m.toNat else []) {k : Nat} (hk : l.length = k) :
    Calls Try.prog 22 #[.pointer (some ⟨b, 0, none⟩), .int .i64 a, .int .i64 m] w fun e' w' => ∃ p cp, e' = .returned (.tuple #[.slice p k cp, .int .i64 e]) ∧ BytesAt w' p l ∧ (∀ y, p = some y → w.heap.size ≤ y.block ∧ y.block < w'.heap.size) ∧ UL w0 w' b x ∧ Ch [] w w' := by
  subst hN
  refine (peek_any h.u a m hr hl).mono ?_
  rintro e' w' ⟨v, rfl, hn, hc⟩
  obtain ⟨p, cp, rfl, hb, hy⟩ := hn.form
  rw [he, hk]
  exact ⟨p, cp, rfl, hb, hy, h.quiet hc, hc⟩
theorem UL.poke (h : UL w0 w b x) {N : Nat} (hN : 16 * x.n = N) (a : Int) (hr : a ≤ 9223372036854775807) {v : Option Addr} {cap n : Nat} {l : List Int} (hn : l.length = n) (hn2 : n ≤ 1000) (hl : BytesAt w v l) {e : Int} (he : pieceE N a n = e) {y : MS} (hy : pokeS x a l = y) :
    Calls Try.prog 25 #[.pointer (some ⟨b, 0, none⟩), .int .i64 a, .slice v n cap] w fun e' w' => e' = .returned (.int .i64 e) ∧ UL w0 w' b y ∧ Ch [b] w w' := by
  subst hN
  refine (poke_any h.u a hr v cap l hn hn2 hl).mono ?_
  rintro e' w' ⟨rfl, hu, hc⟩
  rw [he]
  rw [hy] at hu
  exact ⟨rfl, h.next hc hu, hc⟩
theorem UL.state (h : UL w0 w b x) (p : Int) {v : Int} (hv : stateV x p = v) :
    Calls Try.prog 24 #[.pointer (some ⟨b, 0, none⟩), .int .i64 p] w fun e w' => e = .returned (.int .i64 v) ∧ w = w' := by
  rw [← hv]
  exact state_any h.u p
theorem UL.size (h : UL w0 w b x) {N : Int} (hN : 16 * (x.n : Int) = N) :
    Calls Try.prog 41 #[.pointer (some ⟨b, 0, none⟩)] w fun e w' => e = .returned (.int .i64 N) ∧ w = w' := by
  rw [← hN]
  exact size_any h.u
end
def kx1 : MS := turnS (MS.zero 2) 0 0
def kx2 : MS := turnS kx1 1 2
theorem tch_code (h : Nat → Int) (m : Nat) : ∀ a, (tch h a m).2 = 0 ∨ (tch h a m).2 = 15 ∨ (tch h a m).2 = 14 := by
  induction m with
  | zero => intro a; rw [tch_zero]; exact .inl rfl
  | succ m ih =>
    intro a
    rw [tch]
    split
    · exact .inr (.inl rfl)
    · split
      · exact .inr (.inr rfl)
      · exact ih _
theorem piece_if {N : Nat} {a m : Int} (e : wIn N a m) : pieceE N a m = 0 := if_pos e
theorem piece_no {N : Nat} {a m : Int} (e : ¬ wIn N a m) : pieceE N a m = 2 := if_neg e


end Go.Proofs.Ytcdolkbljheniaa
