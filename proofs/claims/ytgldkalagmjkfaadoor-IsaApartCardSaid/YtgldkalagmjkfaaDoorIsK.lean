/-
  The program's Text.
-/
import Derived.Test.YtgldkalagmjkfaaDoorIsL
import Derived.Deep.RegionHeld3
namespace Go.Proofs.YtgldkalagmjkfaaDoor
open Go.RowKit Go.Lib

attribute [local go_sem] Oper.semAt_some

/-- The program's text, part by part. -/
def pp (b : Bool) (p : List UInt8) (tg : List UInt8 × List UInt8) : List UInt8 × List UInt8 := if b then (tg.1 ++ (tg.2 ++ p), [44, 32]) else tg
/-- Does it store: Off stands ahead. -/
def sto (op : Int) : Bool := op == 65 || op == 67
def all5 (x : I5) : List UInt8 × List UInt8 :=
  pp (has (shp x.op) 111 && !sto x.op) (itoa x.o) (pp (has (shp x.op) 105) (itoa x.i) (pp (has (shp x.op) 115) (114 :: itoa x.s) (pp (has (shp x.op) 111 && sto x.op) (itoa x.o) (pp (has (shp x.op) 100) (114 :: itoa x.d) (nm x.op, [32])))))
/-- What is put is what the shape asks. -/
def lets5 (op : Int) : List UInt8 :=
  (if has (shp op) 100 then [100] else []) ++ (if has (shp op) 111 && sto op then [111] else []) ++ (if has (shp op) 115 then [115] else []) ++ (if has (shp op) 105 then [105] else []) ++ (if has (shp op) 111 && !sto op then [111] else [])
theorem lets_in : ∀ k : Fin 74, lets5 (k.val : Int) = shp (k.val : Int) := by decide +kernel
theorem lets_of {op : Int} (h : cls op ≠ 0) : lets5 op = shp op := by
  obtain ⟨h0, h1⟩ := in74 h
  exact all74 (p := fun op => lets5 op = shp op) lets_in op h0 h1
theorem pp_snoc (b : Bool) (p n : List UInt8) (l : List (List UInt8)) (g : List UInt8) (hg : g = if l = [] then [32] else [44, 32]) :
    pp b p (n ++ jn0 l, g) = (n ++ jn0 (l ++ if b then [p] else []), if l ++ (if b then [p] else []) = [] then [32] else [44, 32]) := by
  cases b
  · simp [pp, hg]
  · subst hg
    simp [pp, jn0_snoc]
theorem all5_txt {x : I5} (h : cls x.op ≠ 0) : (all5 x).1 = txt x := by
  have e : ((nm x.op, [32]) : List UInt8 × List UInt8) = (nm x.op ++ jn0 [], [32]) := by simp [jn0]
  unfold all5
  rw [e, pp_snoc _ _ _ _ _ (by simp), pp_snoc _ _ _ _ _ rfl, pp_snoc _ _ _ _ _ rfl, pp_snoc _ _ _ _ _ rfl, pp_snoc _ _ _ _ _ rfl]
  have hmap : ∀ (b : Bool) (c : UInt8) (p : List UInt8), part x c = p → (if b = true then [c] else []).map (part x) = if b = true then [p] else [] := by
    intro b c p hp
    cases b
    · rfl
    · show [part x c] = [p]; rw [hp]
  have hl := lets_of h
  unfold txt
  rw [show (shp x.op).map (part x) = (lets5 x.op).map (part x) by rw [hl]]
  unfold lets5
  rw [List.map_append, List.map_append, List.map_append, List.map_append, hmap _ 100 (114 :: itoa x.d) rfl, hmap _ 115 (114 :: itoa x.s) rfl, hmap _ 111 (itoa x.o) rfl, hmap _ 111 (itoa x.o) rfl, hmap _ 105 (itoa x.i) rfl]
  rfl

theorem pp_len (b : Bool) {p : List UInt8} {A : List UInt8 × List UInt8} (h2 : A.2.length ≤ 2) (h3 : p.length ≤ 30) : (pp b p A).1.length ≤ A.1.length + 32 ∧ (pp b p A).2.length ≤ 2 := by
  cases b
  · exact ⟨by simp [pp], h2⟩
  · constructor
    · simp [pp]; omega
    · simp [pp]
/-- The closure, told of the pair. -/
theorem TX.go {w : World} {B U T G : Nat} {x : I5} {u1 u2 u3 u4 : Bool} {A : List UInt8 × List UInt8} (h : TX w B U T G x u1 u2 u3 u4 A.1 A.2) (b : Bool) {p : List UInt8} (h1 : A.1.length ≤ 200) (h2 : A.2.length ≤ 2) (h3 : p.length ≤ 30) :
    Calls Tryd.prog 30 #[.bool b, .string ⟨p.toArray⟩, .pointer (some ⟨T, 0, none⟩), .pointer (some ⟨G, 0, none⟩)] w fun e w' => e = .returned (.tuple #[]) ∧ TX w' B U T G x u1 u2 u3 u4 (pp b p A).1 (pp b p A).2 ∧ Ch [T, G] w w' := by
  have := h.step b p h1 (by omega) (by omega)
  cases b
  · exact this
  · exact this
theorem itoa_fit {n : Int} (h : fit n) {w : World} (hT : Tb w) : Calls Tryd.prog 31 #[.int .i64 n] w fun e w' => e = .returned (.string ⟨(itoa n).toArray⟩) ∧ Ch [] w w' := itoa_any h.1 h.2 hT
/-- What was made since has no part in what there was. -/
theorem ch_own {a w w' : World} {S : List Nat} (h : Ch [] a w) (hc : Ch S w w') (hS : ∀ k ∈ S, a.heap.size ≤ k) : Ch [] a w' := h.fresh hc hS

theorem text_bad {x : I5} (hx : Fit x) (hk : chk x ≠ 0) (w : World) : Calls Tryd.prog 16 #[iv x] w fun e w' => e = .returned (.string ⟨#[]⟩) ∧ Ch [] w w' := by
  have HK := Lib.hid (fun w => check_any hx w)
  have hkb : (chk x != 0) = true := by simpa using hk
  generalize chk x = c at *
  have HF := Lib.hid (Five.new w x 34)
  have HC := Lib.hid ((Ch.refl [] w).alloc (.cells #[.int .i64 x.op, .int .i64 x.d, .int .i64 x.s, .int .i64 x.o, .int .i64 x.i] 34))
  obtain ⟨op, d, s, o, i⟩ := x
  unfold iv at *
  simp only at *
  obtain ⟨a0, a1, a2, a3, a4⟩ := HF.out
  simp only at a0 a1 a2 a3 a4
  clear hk hx
  go_enter Tryd.func16, Tryd.ntmps16
  go_wp2_with (first
    | (with_reducible refine (HK.out _).mono ?_; rintro e w1 ⟨rfl, hc1⟩; have HC1 := Lib.hid (HC.out.trans hc1); clear hc1)
    | fail)
  go_ret
  exact ⟨rfl, HC1.out⟩

end Go.Proofs.YtgldkalagmjkfaaDoor
