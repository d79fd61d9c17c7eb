/-
  An arena of int: a call's state; the chapter's example holds (known); a nil arena.
-/
import Derived.Test.YtdompamilgbnnaaAIF
import Derived.Test.YtdompamilgbnnaaAIG
import Derived.Test.YtdompamilgbnnaaAIH
import Derived.Test.YtdompamilgbnnaaAIJ
import Derived.Test.YtdompamilgbnnaaAIN
namespace Go.Proofs.Ytdompamilgbnnaa.aI
open Go.RowKit

attribute [local go_sem] Oper.semAt_some

/-- The arena in the blocks R and S of the call's own, S being the first of them. -/
structure St (S : Nat) (w W : World) (R : Nat) (xs : List (Sl Int)) : Prop where
  a : AC W R S xs
  b : Below S w W
  r : S < R
  z : R < W.heap.size
theorem St.put {S : Nat} {w W W' : World} {R : Nat} {xs ys : List (Sl Int)} (h : St S w W R xs) (hc : Ch [S] W W') (ha : AC W' R S ys) : St S w W' R ys :=
  ⟨ha, h.b.trans (hc.below S (by simp) (by have := h.r; have := h.z; omega)), h.r, Nat.lt_of_lt_of_le h.z hc.size⟩
theorem St.quiet {S : Nat} {w W W' : World} {R : Nat} {xs : List (Sl Int)} (h : St S w W R xs) (hc : Ch [] W W') : St S w W' R xs :=
  h.put (hc.mono (by simp)) (h.a.ch hc (by simp) (by simp))
theorem St.alloc {S : Nat} {w W : World} {R : Nat} {xs : List (Sl Int)} (h : St S w W R xs) (o : Obj) : St S w (W.alloc o) R xs := h.quiet ((Ch.refl _ _).alloc o)
theorem St.below {S : Nat} {w W W' : World} {R : Nat} {xs : List (Sl Int)} (h : St S w W R xs) (hc : Below W.heap.size W W') : St S w W' R xs := h.quiet (Ch.of_below hc)
theorem new_st (n : Nat) (w : World) (S : Nat) (hS : w.heap.size = S) (h1 : 1 ≤ n) (h2 : n ≤ 64) :
    Calls Try.prog 8 #[.int .i64 (n : Int)] w fun e w' => ∃ R, e = .returned (.tuple #[.pointer (some ⟨R, 0, none⟩), .int .i64 0]) ∧ St S w w' R (fresh n) :=
  (new_any' n w S hS h1 h2).mono fun _ _ ⟨R, he, ha, hb, h3, h4⟩ => ⟨R, he, ha, hb, h3, h4⟩
theorem put_st {S : Nat} {w W : World} {R : Nat} {xs : List (Sl Int)} (h : St S w W R xs) (x : Int) :
    Calls Try.prog 13 #[.pointer (some ⟨R, 0, none⟩), .int .i64 x] W fun e W' =>
      e = .returned (.tuple #[.agg #[.int .i64 (putS xs), .int .i64 (putG xs)], .int .i64 (putE xs)]) ∧ St S w W' R (putL xs x) ∧ Ch [S] W W' :=
  (put_any h.a x).mono fun _ _ ⟨he, ha, hc⟩ => ⟨he, h.put hc ha, hc⟩
theorem free_st {S : Nat} {w W : World} {R : Nat} {xs : List (Sl Int)} (h : St S w W R xs) (s g : Int) (B cap : Nat) (hb : Box2 W B (.int .i64 s) (.int .i64 g)) (hne : S < B) :
    Calls Try.prog 17 #[.pointer (some ⟨R, 0, none⟩), .slice (some ⟨B, 0, none⟩) 1 cap] W fun e W' => e = .returned (.int .i64 (findE xs s g)) ∧ St S w W' R (freeL xs s g) ∧ Ch [S] W W' :=
  (free_one h.a B cap s g hb (by omega)).mono fun _ _ ⟨he, ha, hc⟩ => ⟨he, h.put hc ha, hc⟩
theorem get_st {S : Nat} {w W : World} {R : Nat} {xs : List (Sl Int)} (h : St S w W R xs) (s g : Int) :
    Calls Try.prog 14 #[.pointer (some ⟨R, 0, none⟩), hv s g] W fun e W' => e = .returned (.tuple #[.int .i64 (getX xs s g), .int .i64 (findE xs s g)]) ∧ St S w W' R xs ∧ Ch [] W W' :=
  (get_any h.a s g).mono fun _ _ ⟨he, hc⟩ => ⟨he, h.quiet hc, hc⟩
theorem set_st {S : Nat} {w W : World} {R : Nat} {xs : List (Sl Int)} (h : St S w W R xs) (s g x : Int) :
    Calls Try.prog 15 #[.pointer (some ⟨R, 0, none⟩), hv s g, .int .i64 x] W fun e W' => e = .returned (.int .i64 (findE xs s g)) ∧ St S w W' R (setL xs s g x) ∧ Ch [S] W W' :=
  (set_any h.a s g x).mono fun _ _ ⟨he, ha, hc⟩ => ⟨he, h.put hc ha, hc⟩
theorem St.la {S : Nat} {w W : World} {R : Nat} {xs : List (Sl Int)} (h : St S w W R xs) : LA W.heap.size W (some ⟨R, 0, none⟩) S xs := .inr ⟨R, rfl, h.z, by have := h.r; have := h.z; omega, h.a⟩
theorem room_st {S : Nat} {w W : World} {R : Nat} {xs : List (Sl Int)} (h : St S w W R xs) :
    Calls Try.prog 21 #[.pointer (some ⟨R, 0, none⟩)] W fun e W' => e = .returned (.int .i64 ((sel xs isFree).length : Int)) ∧ St S w W' R xs ∧ Ch [] W W' :=
  (room_la _ S xs W h.la).mono fun _ _ ⟨he, hb⟩ => ⟨he, h.below hb, Ch.of_below hb⟩
theorem len_st {S : Nat} {w W : World} {R : Nat} {xs : List (Sl Int)} (h : St S w W R xs) :
    Calls Try.prog 20 #[.pointer (some ⟨R, 0, none⟩)] W fun e W' => e = .returned (.int .i64 ((sel xs isHeld).length : Int)) ∧ St S w W' R xs ∧ Ch [] W W' :=
  (len_la _ S xs W h.la).mono fun _ _ ⟨he, hb⟩ => ⟨he, h.below hb, Ch.of_below hb⟩

abbrev hg (s g : Int) : Value := .agg #[.int .i64 s, .int .i64 g]
theorem put5 {S : Nat} {w W : World} {R : Nat} (h : St S w W R (fresh 2)) : Calls Try.prog 13 #[.pointer (some ⟨R, 0, none⟩), .int .i64 5] W fun e W' =>
      e = .returned (.tuple #[.agg #[.int .i64 0, .int .i64 1], .int .i64 0]) ∧ St S w W' R [⟨1, true, 5⟩, ⟨1, false, 0⟩] ∧ Ch [S] W W' := put_st h 5
theorem put6 {S : Nat} {w W : World} {R : Nat} (h : St S w W R [⟨1, true, 5⟩, ⟨1, false, 0⟩]) : Calls Try.prog 13 #[.pointer (some ⟨R, 0, none⟩), .int .i64 6] W fun e W' =>
      e = .returned (.tuple #[.agg #[.int .i64 1, .int .i64 1], .int .i64 0]) ∧ St S w W' R [⟨1, true, 5⟩, ⟨1, true, 6⟩] ∧ Ch [S] W W' := put_st h 6
theorem put7 {S : Nat} {w W : World} {R : Nat} (h : St S w W R [⟨1, true, 5⟩, ⟨1, true, 6⟩]) : Calls Try.prog 13 #[.pointer (some ⟨R, 0, none⟩), .int .i64 7] W fun e W' =>
      e = .returned (.tuple #[.agg #[.int .i64 0, .int .i64 0], .int .i64 3]) ∧ St S w W' R [⟨1, true, 5⟩, ⟨1, true, 6⟩] ∧ Ch [S] W W' := put_st h 7
theorem free0 {S : Nat} {w W : World} {R : Nat} (h : St S w W R [⟨1, true, 5⟩, ⟨1, true, 6⟩]) (B cap : Nat) (hb : Box2 W B (.int .i64 0) (.int .i64 1)) (hne : S < B) :
    Calls Try.prog 17 #[.pointer (some ⟨R, 0, none⟩), .slice (some ⟨B, 0, none⟩) 1 cap] W fun e W' => e = .returned (.int .i64 0) ∧ St S w W' R [⟨2, false, 0⟩, ⟨1, true, 6⟩] ∧ Ch [S] W W' := free_st h 0 1 B cap hb hne
theorem put8 {S : Nat} {w W : World} {R : Nat} (h : St S w W R [⟨2, false, 0⟩, ⟨1, true, 6⟩]) : Calls Try.prog 13 #[.pointer (some ⟨R, 0, none⟩), .int .i64 8] W fun e W' =>
      e = .returned (.tuple #[.agg #[.int .i64 0, .int .i64 2], .int .i64 0]) ∧ St S w W' R [⟨2, true, 8⟩, ⟨1, true, 6⟩] ∧ Ch [S] W W' := put_st h 8
theorem get01 {S : Nat} {w W : World} {R : Nat} (h : St S w W R [⟨2, true, 8⟩, ⟨1, true, 6⟩]) :
    Calls Try.prog 14 #[.pointer (some ⟨R, 0, none⟩), .agg #[.int .i64 0, .int .i64 1]] W fun e W' => e = .returned (.tuple #[.int .i64 0, .int .i64 7]) ∧ St S w W' R [⟨2, true, 8⟩, ⟨1, true, 6⟩] ∧ Ch [] W W' := get_st h 0 1

set_option maxHeartbeats 2000000 in
theorem known_any (w : World) : Calls Try.prog 9 #[] w fun e w' => e = .returned (.bool true) ∧ Below w.heap.size w w' := by
  obtain ⟨S, hS⟩ : ∃ S, S = w.heap.size := ⟨_, rfl⟩
  have HN := Lib.hid (new_st 2 w S hS.symm (by decide) (by decide))
  rw [← hS]
  clear hS
  go_enter Try.func9, Try.ntmps9
  go_wp2_with fail
  refine HN.out.mono ?_
  rintro e w1 ⟨R, rfl, h1⟩
  have HRS := Lib.hid h1.r
  go_wp2_with fail
  refine (put5 h1).mono ?_
  rintro e w2 ⟨rfl, h2, _⟩
  clear h1
  have H2 := Lib.hid (h2.alloc (.cells #[.int .i64 0, .int .i64 1] 33))
  have HX2 := Lib.hid (Box2.new w2 (.int .i64 0) (.int .i64 1) 33)
  have HSx := Lib.hid (show S < w2.heap.size by have := h2.r; have := h2.z; omega)
  obtain ⟨X, hX⟩ : ∃ X, X = w2.heap.size := ⟨_, rfl⟩
  rw [← hX] at HX2 HSx
  have HXe := Lib.hid hX
  clear h2 hX
  go_wp2_with fail
  rw [← HXe.out]
  generalize w2.alloc (.cells #[.int .i64 0, .int .i64 1] 33) = w3 at *
  refine (put6 H2.out).mono ?_
  rintro e w4 ⟨rfl, h4, hc4⟩
  have HX4 := Lib.hid (HX2.out.ch hc4 (by have := HSx.out; simp; omega))
  have H4 := Lib.hid (h4.alloc (.cells #[.int .i64 1, .int .i64 1] 33))
  have HXa := Lib.hid (HX4.out.alloc (.cells #[.int .i64 1, .int .i64 1] 33))
  have HYa := Lib.hid (Box2.new w4 (.int .i64 1) (.int .i64 1) 33)
  have HSy := Lib.hid (show S < w4.heap.size by have := h4.r; have := h4.z; omega)
  obtain ⟨Y, hY⟩ : ∃ Y, Y = w4.heap.size := ⟨_, rfl⟩
  rw [← hY] at HYa HSy
  have HYe := Lib.hid hY
  clear h4 hc4 hY HX4 H2 HX2
  go_wp2_with fail
  rw [← HYe.out]
  generalize w4.alloc (.cells #[.int .i64 1, .int .i64 1] 33) = w5 at *
  refine (put7 H4.out).mono ?_
  rintro e w6 ⟨rfl, h6, hc6⟩
  have HX6 := Lib.hid ((HXa.out.ch hc6 (by have := HSx.out; simp; omega)).alloc (.cells #[.int .i64 0, .int .i64 0] 33))
  have HY6 := Lib.hid ((HYa.out.ch hc6 (by have := HSy.out; simp; omega)).alloc (.cells #[.int .i64 0, .int .i64 0] 33))
  have H6 := Lib.hid (h6.alloc (.cells #[.int .i64 0, .int .i64 0] 33))
  clear h6 hc6 HXa HYa H4
  have x0 := HX6.out.c0
  have x1 := HX6.out.c1
  have y0 := HY6.out.c0
  have y1 := HY6.out.c1
  go_wp2_with fail
  have e7 : (w6.alloc (.cells #[.int .i64 0, .int .i64 0] 33)).heap.size = w6.heap.size + 1 := by simp
  generalize w6.alloc (.cells #[.int .i64 0, .int .i64 0] 33) = w7 at *
  have HX7 := Lib.hid (HX6.out.alloc (.cells #[.int .i64 0, .int .i64 1] 33))
  have H7 := Lib.hid (H6.out.alloc (.cells #[.int .i64 0, .int .i64 1] 33))
  have HF7 := Lib.hid (Box2.new w7 (.int .i64 0) (.int .i64 1) 33)
  have HSf := Lib.hid (show S < w7.heap.size by have := H6.out.r; have := H6.out.z; omega)
  rw [e7] at HF7 HSf
  clear x0 x1 y0 y1 HX6 HY6 e7
  refine (free0 H7.out _ _ HF7.out HSf.out).mono ?_
  rintro e w8 ⟨rfl, h8, hc8⟩
  have HX8 := Lib.hid (HX7.out.ch hc8 (by have := HSx.out; simp; omega))
  clear hc8 HX7 H7 HF7 HSf
  go_wp2_with fail
  refine (put8 h8).mono ?_
  rintro e w9 ⟨rfl, h9, hc9⟩
  have HX9 := Lib.hid ((HX8.out.ch hc9 (by have := HSx.out; simp; omega)).alloc (.cells #[.int .i64 0, .int .i64 2] 33))
  have H9 := Lib.hid (h9.alloc (.cells #[.int .i64 0, .int .i64 2] 33))
  have HZ9 := Lib.hid (Box2.new w9 (.int .i64 0) (.int .i64 2) 33)
  clear h8 h9 hc9 HX8
  have x0 := HX9.out.c0
  have x1 := HX9.out.c1
  go_wp2_with fail
  obtain ⟨Z, hZ⟩ : ∃ Z, Z = w9.heap.size := ⟨_, rfl⟩
  rw [← hZ] at HZ9 ⊢
  clear hZ
  generalize w9.alloc (.cells #[.int .i64 0, .int .i64 2] 33) = w10 at *
  refine (get01 H9.out).mono ?_
  rintro e w11 ⟨rfl, h11, hc11⟩
  have hz := HZ9.out.ch hc11 (by simp)
  have z0 := hz.c0
  have z1 := hz.c1
  have HB := Lib.hid h11.b
  clear h11 hc11 hz x0 x1
  go_wp2
  go_ret
  exact ⟨rfl, HB.out⟩
end Go.Proofs.Ytdompamilgbnnaa.aI
