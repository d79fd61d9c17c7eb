/-
  An arena of Thing: a call's state.
-/
import Derived.Test.YtdompamilgbnnaaATG
import Derived.Test.YtdompamilgbnnaaATH
import Derived.Test.YtdompamilgbnnaaATJ
import Derived.Test.YtdompamilgbnnaaATN
namespace Go.Proofs.Ytdompamilgbnnaa.aT
open Go.RowKit

attribute [local go_sem] Oper.semAt_some

/-- The arena in the blocks R and S of the call's own, S being the first of them. -/
structure St (S : Nat) (w W : World) (R : Nat) (xs : List (Sl Th)) : Prop where
  a : AC W R S xs
  b : Below S w W
  r : S < R
  z : R < W.heap.size
theorem St.put {S : Nat} {w W W' : World} {R : Nat} {xs ys : List (Sl Th)} (h : St S w W R xs) (hc : Ch [S] W W') (ha : AC W' R S ys) : St S w W' R ys :=
  ⟨ha, h.b.trans (hc.below S (by simp) (by have := h.r; have := h.z; omega)), h.r, Nat.lt_of_lt_of_le h.z hc.size⟩
theorem St.quiet {S : Nat} {w W W' : World} {R : Nat} {xs : List (Sl Th)} (h : St S w W R xs) (hc : Ch [] W W') : St S w W' R xs :=
  h.put (hc.mono (by simp)) (h.a.ch hc (by simp) (by simp))
theorem St.alloc {S : Nat} {w W : World} {R : Nat} {xs : List (Sl Th)} (h : St S w W R xs) (o : Obj) : St S w (W.alloc o) R xs := h.quiet ((Ch.refl _ _).alloc o)
theorem St.below {S : Nat} {w W W' : World} {R : Nat} {xs : List (Sl Th)} (h : St S w W R xs) (hc : Below W.heap.size W W') : St S w W' R xs := h.quiet (Ch.of_below hc)
theorem new_st (n : Nat) (w : World) (S : Nat) (hS : w.heap.size = S) (h1 : 1 ≤ n) (h2 : n ≤ 64) :
    Calls Try.prog 22 #[.int .i64 (n : Int)] w fun e w' => ∃ R, e = .returned (.tuple #[.pointer (some ⟨R, 0, none⟩), .int .i64 0]) ∧ St S w w' R (fresh n) :=
  (new_any' n w S hS h1 h2).mono fun _ _ ⟨R, he, ha, hb, h3, h4⟩ => ⟨R, he, ha, hb, h3, h4⟩
theorem put_st {S : Nat} {w W : World} {R : Nat} {xs : List (Sl Th)} (h : St S w W R xs) (x : Th) :
    Calls Try.prog 23 #[.pointer (some ⟨R, 0, none⟩), .agg #[.int .i64 x.1, .string x.2]] W fun e W' =>
      e = .returned (.tuple #[.agg #[.int .i64 (putS xs), .int .i64 (putG xs)], .int .i64 (putE xs)]) ∧ St S w W' R (putL xs x) ∧ Ch [S] W W' :=
  (put_any h.a x).mono fun _ _ ⟨he, ha, hc⟩ => ⟨he, h.put hc ha, hc⟩
theorem free_st {S : Nat} {w W : World} {R : Nat} {xs : List (Sl Th)} (h : St S w W R xs) (s g : Int) (B cap : Nat) (hb : Box2 W B (.int .i64 s) (.int .i64 g)) (hne : S < B) :
    Calls Try.prog 25 #[.pointer (some ⟨R, 0, none⟩), .slice (some ⟨B, 0, none⟩) 1 cap] W fun e W' => e = .returned (.int .i64 (findE xs s g)) ∧ St S w W' R (freeL xs s g) ∧ Ch [S] W W' :=
  (free_one h.a B cap s g hb (by omega)).mono fun _ _ ⟨he, ha, hc⟩ => ⟨he, h.put hc ha, hc⟩
theorem get_st {S : Nat} {w W : World} {R : Nat} {xs : List (Sl Th)} (h : St S w W R xs) (s g : Int) :
    Calls Try.prog 26 #[.pointer (some ⟨R, 0, none⟩), hv s g] W fun e W' => e = .returned (.tuple #[.agg #[.int .i64 (getX xs s g).1, .string (getX xs s g).2], .int .i64 (findE xs s g)]) ∧ St S w W' R xs ∧ Ch [] W W' :=
  (get_any h.a s g).mono fun _ _ ⟨he, hc⟩ => ⟨he, h.quiet hc, hc⟩
theorem St.la {S : Nat} {w W : World} {R : Nat} {xs : List (Sl Th)} (h : St S w W R xs) : LA W.heap.size W (some ⟨R, 0, none⟩) S xs := .inr ⟨R, rfl, h.z, by have := h.r; have := h.z; omega, h.a⟩
theorem room_st {S : Nat} {w W : World} {R : Nat} {xs : List (Sl Th)} (h : St S w W R xs) :
    Calls Try.prog 24 #[.pointer (some ⟨R, 0, none⟩)] W fun e W' => e = .returned (.int .i64 ((sel xs isFree).length : Int)) ∧ St S w W' R xs ∧ Ch [] W W' :=
  (room_la _ S xs W h.la).mono fun _ _ ⟨he, hb⟩ => ⟨he, h.below hb, Ch.of_below hb⟩
theorem St.grown {S : Nat} {w W W' : World} {R : Nat} {xs : List (Sl Th)} {row : Option Nat} (h : St S w W R xs) (hg : W.grownBy W' row) (hr : ∀ k, row = some k → R + 1 ≤ k) : St S w W' R xs :=
  ⟨h.a.blocks (hg.block R h.z (fun e => by have := hr R e.symm; omega)) (hg.block S (by have := h.r; have := h.z; omega) (fun e => by have := hr S e.symm; have := h.r; omega)),
    h.b.grown hg (by have := h.r; have := h.z; omega) (fun k e => by have := hr k e; have := h.r; omega), h.r, Nat.lt_of_lt_of_le h.z hg.size⟩
theorem St.abv {S : Nat} {w W W' : World} {R : Nat} {xs : List (Sl Th)} (h : St S w W R xs) (hb : Below (R + 1) W W') : St S w W' R xs :=
  ⟨h.a.below hb (Nat.lt_succ_self R) (by have := h.r; omega), h.b.trans (hb.mono (by have := h.r; omega)), h.r, Nat.lt_of_lt_of_le h.z hb.size⟩
end Go.Proofs.Ytdompamilgbnnaa.aT
