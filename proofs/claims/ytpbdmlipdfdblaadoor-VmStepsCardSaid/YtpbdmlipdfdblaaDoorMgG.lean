/-
  Several texts in one: Things, frames: plain, and in memory. · Num, RefTo, To, Of; things that are compared. · Closures that read or write a thing; what is done with the thing of a number; registers, words of the stack. · Registers and words: told and set; nil ones. (Written by gen/reg18.py.) · New; is there a reference among some things? · Is there a reference among some things? What stands beside a register.
-/
import Derived.Test.YtpbdmlipdfdblaaDoorMgF
import Derived.Deep.MidRow
import Derived.Laws.EntriesVeiled
import Derived.Laws.IdiomCopy
namespace Go.Proofs.YtpbdmlipdfdblaaDoor
open Go.RowKit

/-- A thing: is it a reference, map, slot, generation, word. -/
structure V5 where
  r : Bool
  m : Int
  s : Int
  g : Int
  n : Nat
deriving DecidableEq
def num (n : Nat) : V5 := ⟨false, 0, 0, 0, n⟩
def refTo (m s g : Int) : V5 := ⟨true, m, s, g, 1⟩
def vl (x : V5) : List Value := [.bool x.r, .int .i64 x.m, .int .i64 x.s, .int .i64 x.g, .int .u64 (x.n : Int)]
/-- The value. -/
def vv (x : V5) : Value := .agg #[.bool x.r, .int .i64 x.m, .int .i64 x.s, .int .i64 x.g, .int .u64 (x.n : Int)]
theorem vl_len (x : V5) : (vl x).length = 5 := rfl
theorem vv_eq (x : V5) : vv x = .agg (vl x).toArray := rfl
theorem vl_one (x : V5) : ∀ v ∈ vl x, v.oneCell' = true := by simp [vl, Value.oneCell']

/-- A frame: eighteen things, the registers first. -/
abbrev FV := Nat → V5
def upd (F : FV) (k : Nat) (x : V5) : FV := fun i => if i = k then x else F i
theorem upd_same (F : FV) (k : Nat) (x : V5) : upd F k x k = x := if_pos rfl
theorem upd_other (F : FV) {k i : Nat} (x : V5) (h : i ≠ k) : upd F k x i = F i := if_neg h
def F0 : FV := fun _ => num 0
/-- All words fit. -/
def FW (F : FV) : Prop := ∀ k, W64 (F k).n
theorem FW.upd {F : FV} (h : FW F) (k : Nat) {x : V5} (hx : W64 x.n) : FW (upd F k x) := fun i => by
  unfold Proofs.YtpbdmlipdfdblaaDoor.upd; split
  · exact hx
  · exact h i
theorem FW0 : FW F0 := fun _ => by show 0 < _; decide
/-- All cells of a frame. -/
def fl (F : FV) : List Value := (List.range 18).flatMap (fun k => vl (F k))
/-- A frame as a value. -/
def fv (F : FV) : Value := .agg (fl F).toArray

theorem flat_len (F : FV) : ∀ l : List Nat, (l.flatMap (fun k => vl (F k))).length = l.length * 5
  | [] => rfl
  | k :: l => by rw [List.flatMap_cons, List.length_append, flat_len F l, vl_len, List.length_cons]; omega
theorem fl_len (F : FV) : (fl F).length = 90 := by unfold fl; rw [flat_len]; rfl
theorem fl_one (F : FV) : ∀ v ∈ fl F, v.oneCell' = true := by
  unfold fl
  intro v hv
  obtain ⟨k, _, h⟩ := List.mem_flatMap.1 hv
  exact vl_one _ v h
theorem flat_at (F : FV) (j : Nat) (hj : j < 5) : ∀ (l : List Nat) (k : Nat) (hk : k < l.length), (l.flatMap (fun k => vl (F k)))[k * 5 + j]? = (vl (F l[k]))[j]?
  | [], _, hk => by simp at hk
  | a :: l, 0, _ => by
    rw [List.flatMap_cons, List.getElem?_append_left (by rw [vl_len]; omega)]
    simp
  | a :: l, k + 1, hk => by
    rw [List.flatMap_cons, List.getElem?_append_right (by rw [vl_len]; omega), vl_len, show (k + 1) * 5 + j - 5 = k * 5 + j by omega]
    exact flat_at F j hj l k (by simpa using hk)
theorem fl_at (F : FV) {k j : Nat} (hk : k < 18) (hj : j < 5) : (fl F)[k * 5 + j]? = (vl (F k))[j]? := by
  unfold fl
  rw [flat_at F j hj (List.range 18) k (by simpa using hk)]
  simp
theorem fl_congr {F G : FV} (h : ∀ k, k < 18 → F k = G k) : fl F = fl G := by
  unfold fl
  have key : ∀ l : List Nat, (∀ k ∈ l, k < 18) → l.flatMap (fun k => vl (F k)) = l.flatMap (fun k => vl (G k)) := by
    intro l
    induction l with
    | nil => intro _; rfl
    | cons a l ih => intro hl; rw [List.flatMap_cons, List.flatMap_cons, h a (hl a (by simp)), ih fun k hk => hl k (by simp [hk])]
  exact key _ fun k hk => by simpa using hk

/-- A thing lies there. -/
structure At5 (w : World) (b o : Nat) (x : V5) : Prop where
  c0 : w.cell? ⟨b, o, none⟩ = some (.bool x.r)
  c1 : w.cell? ⟨b, o + 1, none⟩ = some (.int .i64 x.m)
  c2 : w.cell? ⟨b, o + 2, none⟩ = some (.int .i64 x.s)
  c3 : w.cell? ⟨b, o + 3, none⟩ = some (.int .i64 x.g)
  c4 : w.cell? ⟨b, o + 4, none⟩ = some (.int .u64 (x.n : Int))
theorem At5.lt {w : World} {b o : Nat} {x : V5} (h : At5 w b o x) : b < w.heap.size := cell_lt h.c0
theorem At5.ch {S : List Nat} {w w' : World} {b o : Nat} {x : V5} (h : At5 w b o x) (hc : Ch S w w') (hb : b ∉ S) : At5 w' b o x :=
  have c : ∀ i, w'.cell? ⟨b, i, none⟩ = w.cell? ⟨b, i, none⟩ := fun i => World.cell?_of_block (a := ⟨b, i, none⟩) (hc.block b h.lt hb)
  ⟨(c _).trans h.c0, (c _).trans h.c1, (c _).trans h.c2, (c _).trans h.c3, (c _).trans h.c4⟩
theorem At5.range {w : World} {b o : Nat} {x : V5} (h : At5 w b o x) : w.rangeAt b o (vl x) := fun j v hv => by
  match j, hv with
  | 0, hv => cases hv; exact h.c0
  | 1, hv => cases hv; exact h.c1
  | 2, hv => cases hv; exact h.c2
  | 3, hv => cases hv; exact h.c3
  | 4, hv => cases hv; exact h.c4
theorem At5.of {w : World} {b o : Nat} {x : V5} (h : w.rangeAt b o (vl x)) : At5 w b o x := ⟨h 0 _ rfl, h 1 _ rfl, h 2 _ rfl, h 3 _ rfl, h 4 _ rfl⟩

/-- A box of a thing that may be written. -/
structure B5 (w : World) (b : Nat) (x : V5) : Prop where
  a : At5 w b 0 x
  fr : ∀ k, w.frozen? ⟨b, k, none⟩ = false
theorem B5.new (w : World) (x : V5) (t : TypeId) : B5 (w.alloc (.cells #[.bool x.r, .int .i64 x.m, .int .i64 x.s, .int .i64 x.g, .int .u64 (x.n : Int)] t)) w.heap.size x :=
  ⟨⟨by rw [World.cell?_alloc_at _ _ _ _ rfl]; rfl, by rw [World.cell?_alloc_at _ _ _ _ rfl]; rfl, by rw [World.cell?_alloc_at _ _ _ _ rfl]; rfl, by rw [World.cell?_alloc_at _ _ _ _ rfl]; rfl, by rw [World.cell?_alloc_at _ _ _ _ rfl]; rfl⟩, fun _ => World.frozen?_alloc_new w _ _ _⟩
theorem B5.ch {S : List Nat} {w w' : World} {b : Nat} {x : V5} (h : B5 w b x) (hc : Ch S w w') (hb : b ∉ S) : B5 w' b x :=
  ⟨h.a.ch hc hb, fun k => (World.frozen?_of_block (a := ⟨b, k, none⟩) (hc.block b h.a.lt hb)).trans (h.fr k)⟩
theorem B5.quiet {w w' : World} {b : Nat} {x : V5} (h : B5 w b x) (hc : Ch [] w w') : B5 w' b x := h.ch hc (by simp)

/-- Five cells written. -/
def st5 (w : World) (b o : Nat) (x : V5) : World := ((((w.setCell ⟨b, o, none⟩ (.bool x.r)).setCell ⟨b, o + 1, none⟩ (.int .i64 x.m)).setCell ⟨b, o + 2, none⟩ (.int .i64 x.s)).setCell ⟨b, o + 3, none⟩ (.int .i64 x.g)).setCell ⟨b, o + 4, none⟩ (.int .u64 (x.n : Int))
theorem st5_eq (w : World) (b o : Nat) (x : V5) : st5 w b o x = w.setCells b o (vl x) := rfl
theorem st5_ch (w : World) (b o : Nat) (x : V5) : Ch [b] w (st5 w b o x) :=
  (((((Ch.refl [b] w).setCell (p := ⟨b, o, none⟩) (by simp) _).setCell (p := ⟨b, o + 1, none⟩) (by simp) _).setCell (p := ⟨b, o + 2, none⟩) (by simp) _).setCell (p := ⟨b, o + 3, none⟩) (by simp) _).setCell (p := ⟨b, o + 4, none⟩) (by simp) _
theorem st5_frozen (w : World) (b o : Nat) (x : V5) (p : Addr) : (st5 w b o x).frozen? p = w.frozen? p := by rw [st5_eq]; exact World.frozen?_setCells ..
theorem st5_there {w : World} {b o : Nat} {y : V5} (h : At5 w b o y) (hf : ∀ k, w.frozen? ⟨b, k, none⟩ = false) (x : V5) : w.there b o (vl x).length := fun j hj => by
  refine ⟨?_, hf _⟩
  match j, hj with
  | 0, _ => rw [Nat.add_zero, h.c0]; rfl
  | 1, _ => rw [h.c1]; rfl
  | 2, _ => rw [h.c2]; rfl
  | 3, _ => rw [h.c3]; rfl
  | 4, _ => rw [h.c4]; rfl
theorem st5_same {w : World} {b o : Nat} {y : V5} (h : At5 w b o y) (hf : ∀ k, w.frozen? ⟨b, k, none⟩ = false) (x : V5) : At5 (st5 w b o x) b o x := by
  rw [st5_eq]; exact At5.of (World.rangeAt_setCells_same w b o (vl x) (st5_there h hf x))
theorem st5_other {w : World} {b b' o o' : Nat} {y : V5} (h : At5 w b' o' y) (x : V5) (hap : b' ≠ b ∨ o' + 5 ≤ o ∨ o + 5 ≤ o') : At5 (st5 w b o x) b' o' y := by
  rw [st5_eq]; exact At5.of (World.rangeAt_setCells_apart h.range b o (vl x) (by rw [vl_len, vl_len]; exact hap))
theorem B5.set {w : World} {b : Nat} {y : V5} (h : B5 w b y) (x : V5) : B5 (st5 w b 0 x) b x := ⟨st5_same h.a h.fr x, fun k => by rw [st5_frozen]; exact h.fr k⟩

/-- A frame lies in a block. -/
structure FR (w : World) (b : Nat) (F : FV) : Prop where
  a : ∀ k, k < 18 → At5 w b (k * 5) (F k)
  fr : ∀ k, w.frozen? ⟨b, k, none⟩ = false
section
variable {w w' : World} {b : Nat} {F : FV}
theorem FR.lt (h : FR w b F) : b < w.heap.size := (h.a 0 (by decide)).lt
theorem FR.ch {S : List Nat} (h : FR w b F) (hc : Ch S w w') (hb : b ∉ S) : FR w' b F :=
  ⟨fun k hk => (h.a k hk).ch hc hb, fun k => (World.frozen?_of_block (a := ⟨b, k, none⟩) (hc.block b h.lt hb)).trans (h.fr k)⟩
theorem FR.quiet (h : FR w b F) (hc : Ch [] w w') : FR w' b F := h.ch hc (by simp)
theorem FR.reg (h : FR w b F) {k : Nat} (hk : k < 10) : At5 w b (k * 5) (F k) := h.a k (by omega)
theorem FR.word (h : FR w b F) {k : Nat} (hk : k < 8) : At5 w b (50 + k * 5) (F (10 + k)) := by
  have := h.a (10 + k) (by omega)
  rwa [show (10 + k) * 5 = 50 + k * 5 by omega] at this
theorem FR.set (h : FR w b F) {k : Nat} (hk : k < 18) (x : V5) : FR (st5 w b (k * 5) x) b (upd F k x) := by
  refine ⟨fun i hi => ?_, fun j => by rw [st5_frozen]; exact h.fr j⟩
  by_cases e : i = k
  · subst e
    rw [upd_same]
    exact st5_same (h.a i hi) h.fr x
  · rw [upd_other F x e]
    exact st5_other (h.a i hi) x (.inr (by omega))
theorem FR.setW (h : FR w b F) {k : Nat} (hk : k < 8) (x : V5) : FR (st5 w b (50 + k * 5) x) b (upd F (10 + k) x) := by
  have := h.set (k := 10 + k) (by omega) x
  rwa [show (10 + k) * 5 = 50 + k * 5 by omega] at this
theorem FR.congr {G : FV} (h : FR w b F) (e : ∀ k, k < 18 → F k = G k) : FR w b G := ⟨fun k hk => e k hk ▸ h.a k hk, h.fr⟩
theorem FR.range (h : FR w b F) : w.rangeAt b 0 (fl F) := fun j v hv => by
  have hj : j < 90 := by have := (List.getElem?_eq_some_iff.1 hv).1; rwa [fl_len] at this
  have hd : j = j / 5 * 5 + j % 5 := by omega
  rw [Nat.zero_add]
  rw [hd, fl_at F (by omega) (Nat.mod_lt _ (by decide))] at hv
  have := (h.a (j / 5) (by omega)).range (j % 5) v hv
  rwa [← hd] at this
theorem FR.of (hr : w.rangeAt b 0 (fl F)) (hf : ∀ k, w.frozen? ⟨b, k, none⟩ = false) : FR w b F :=
  ⟨fun k hk => At5.of fun j v hv => by
    have hj : j < 5 := by have := (List.getElem?_eq_some_iff.1 hv).1; rwa [vl_len] at this
    have := hr (k * 5 + j) v (by rw [fl_at F hk hj]; exact hv)
    rwa [Nat.zero_add] at this, hf⟩
theorem FR.new (w : World) (F : FV) (t : TypeId) : FR (w.alloc (.cells (fl F).toArray t)) w.heap.size F :=
  FR.of (fun j v hv => by rw [Nat.zero_add, World.cell?_alloc_at _ _ _ _ rfl]; simpa using hv) fun _ => World.frozen?_alloc_new w _ _ _
theorem FR.there (h : FR w b F) : w.there b 0 90 := fun j hj => by
  have := World.rangeAt.isSome h.range j (by rw [fl_len]; exact hj)
  exact ⟨this, h.fr _⟩
theorem FR.setAll (h : FR w b F) (G : FV) : FR (w.setCells b 0 (fl G)) b G :=
  FR.of (World.rangeAt_setCells_same w b 0 (fl G) (by rw [fl_len]; exact h.there)) fun k => by rw [World.frozen?_setCells]; exact h.fr k
end
theorem chCells (w : World) (b : Nat) : ∀ (vs : List Value) (o : Nat), Ch [b] w (w.setCells b o vs) := by
  intro vs
  induction vs generalizing w with
  | nil => intro o; exact Ch.refl _ _
  | cons v vs ih =>
    intro o
    rw [World.setCells]
    exact ((Ch.refl [b] w).setCell (p := ⟨b, o, none⟩) (by simp) v).trans (ih _ (o + 1))
/-- Of what there was the frame in a block alone may have turned: what lies behind its ninety cells is as it was. -/
structure Cf (b : Nat) (w w' : World) : Prop where
  ch : Ch [b] w w'
  up : ∀ k v, 90 ≤ k → w.cell? ⟨b, k, none⟩ = some v → w'.cell? ⟨b, k, none⟩ = some v
theorem Cf.of {b : Nat} {w w' : World} (h : Ch [] w w') : Cf b w w' := ⟨h.mono (by simp), fun k _ _ hv => (h.cell (p := ⟨b, k, none⟩) (cell_lt hv) (by simp)).trans hv⟩
theorem Cf.refl (b : Nat) (w : World) : Cf b w w := Cf.of (Ch.refl [] w)
theorem Cf.trans {b : Nat} {u v w : World} (h : Cf b u v) (k : Cf b v w) : Cf b u w := ⟨h.ch.trans k.ch, fun i x hi hx => k.up i x hi (h.up i x hi hx)⟩
theorem Cf.drew {b : Nat} {u v : World} (h : Cf b u v) : Cf b u v.drew := ⟨h.ch.drew, h.up⟩
theorem Cf.cell {b : Nat} {w w' : World} (h : Cf b w w') {p : Addr} (hp : p.block < w.heap.size) (hn : p.block ∉ [b]) : w'.cell? p = w.cell? p := h.ch.cell hp hn
theorem st5_cf (w : World) (b o : Nat) (x : V5) (ho : o + 5 ≤ 90) : Cf b w (st5 w b o x) :=
  ⟨st5_ch w b o x, fun k v hk hv => by
    unfold st5
    have n : ∀ i, i < 5 → (⟨b, o + i, none⟩ : Addr) ≠ ⟨b, k, none⟩ := fun i hi => addr_ne_off (by omega)
    exact setCell_other (setCell_other (setCell_other (setCell_other (setCell_other hv (by have := n 0 (by decide); rwa [Nat.add_zero] at this)) (n 1 (by decide))) (n 2 (by decide))) (n 3 (by decide))) (n 4 (by decide))⟩
theorem z90a (w : World) : Sem.run Tryd.prog (zeroValue 87) w = .ok (.agg (fl F0).toArray) w := by kernel_rfl
theorem z90b (w : World) : Sem.run Tryd.prog (zeroValue 62) w = .ok (.agg (fl F0).toArray) w := by kernel_rfl
end Go.Proofs.YtpbdmlipdfdblaaDoor

namespace Go.Proofs.YtpbdmlipdfdblaaDoor
open Go.RowKit Go.BigFrame

attribute [local go_sem] Oper.semAt_some

theorem num_any (n : Nat) (w : World) : Calls Tryd.prog 21 #[.int .u64 (n : Int)] w fun e w' => e = .returned (vv (num n)) ∧ Ch [] w w' := by
  go_enter Tryd.func21, Tryd.ntmps21
  go_wp2
  refine post_val ?_ rfl ((Ch.refl [] _).alloc _)
  simp [results, Tryd.f21, go_sem]
  rfl
theorem rnum_any (n : Nat) (w : World) : Calls Tryd.prog 41 #[.int .u64 (n : Int)] w fun e w' => e = .returned (vv (num n)) ∧ Ch [] w w' := by
  go_enter Tryd.func41, Tryd.ntmps41
  go_wp2
  refine post_val ?_ rfl ((Ch.refl [] _).alloc _)
  simp [results, Tryd.f41, go_sem]
  rfl
theorem to5_any (x : V5) (w : World) : Calls Tryd.prog 18 #[vv x] w fun e w' => e = .returned (vv x) ∧ Ch [] w w' := by
  unfold vv
  go_enter Tryd.func18, Tryd.ntmps18
  go_wp2
  refine post_val ?_ rfl (((Ch.refl [] _).alloc _).alloc _)
  simp [results, Tryd.f18, go_sem]
/-- Are they the same? -/
def eqV (x y : V5) : Bool := x.r == y.r && x.m == y.m && x.s == y.s && x.g == y.g && ((x.n : Int) == (y.n : Int))
theorem eqV_iff {x y : V5} : eqV x y = true ↔ x = y := by
  unfold eqV
  simp only [Bool.and_eq_true, beq_iff_eq]
  constructor
  · rintro ⟨⟨⟨⟨h1, h2⟩, h3⟩, h4⟩, h5⟩
    obtain ⟨a, b, c, d, e⟩ := x
    obtain ⟨a', b', c', d', e'⟩ := y
    simp only at *
    obtain rfl : e = e' := by omega
    subst h1 h2 h3 h4
    rfl
  · rintro rfl; simp
theorem eqV_self (x : V5) : eqV x x = true := eqV_iff.2 rfl
theorem eq_fv (x y : V5) (w : World) : (binOp .eql 41 (vv x) (vv y)).run Tryd.prog w = .ok (.bool (eqV x y)) w := by
  have ht : Tryd.prog.underlying 41 = some (.struct (Tryd.prog.fieldsOf 41)) := by kernel_rfl
  have hp : Tryd.prog.stoodInHeld 41 = false := by kernel_rfl
  obtain ⟨a, b, c, d, e⟩ := x
  obtain ⟨a', b', c', d', e'⟩ := y
  unfold vv eqV
  simp only
  rw [run_eql_struct, run_equalIn_struct (d := 9999) w 41 _ _ ht hp]
  cases h1 : a == a' <;> cases h2 : b == b' <;> cases h3 : c == c' <;> cases h4 : d == d' <;> cases h5 : ((e : Int) == (e' : Int)) <;>
  simp [Program.fieldsOf, Tryd.underlying41, Tryd.underlying39, go_sem, Op.eqFields, h1, h2, h3, h4, h5]
theorem eq_rv (x y : V5) (w : World) : (binOp .neq 52 (vv x) (vv y)).run Tryd.prog w = .ok (.bool (!(eqV x y))) w := by
  have ht : Tryd.prog.underlying 52 = some (.struct (Tryd.prog.fieldsOf 52)) := by kernel_rfl
  have hp : Tryd.prog.stoodInHeld 52 = false := by kernel_rfl
  obtain ⟨a, b, c, d, e⟩ := x
  obtain ⟨a', b', c', d', e'⟩ := y
  unfold vv eqV
  simp only
  rw [run_neq_struct, run_equalIn_struct (d := 9999) w 52 _ _ ht hp]
  cases h1 : a == a' <;> cases h2 : b == b' <;> cases h3 : c == c' <;> cases h4 : d == d' <;> cases h5 : ((e : Int) == (e' : Int)) <;>
  simp [Program.fieldsOf, Tryd.underlying52, go_sem, Op.eqFields, h1, h2, h3, h4, h5]
end Go.Proofs.YtpbdmlipdfdblaaDoor

namespace Go.Proofs.YtpbdmlipdfdblaaDoor
open Go.RowKit Go.BigFrame

attribute [local go_sem] Oper.semAt_some

theorem getR {w : World} {b o X : Nat} {x y : V5} (h : At5 w b o x) (hX : B5 w X y) :
    Calls Tryd.prog 69 #[.pointer (some ⟨b, o, none⟩), .pointer (some ⟨X, 0, none⟩)] w fun e w' => e = .returned (.tuple #[]) ∧ st5 w X 0 x = w' := by
  obtain ⟨c0, c1, c2, c3, c4⟩ := h
  obtain ⟨⟨d0, d1, d2, d3, d4⟩, hf⟩ := hX
  go_enter Tryd.func69, Tryd.ntmps69
  go_wp2
  exact ⟨rfl, .tuple #[], by simp [results, Tryd.f69, go_sem], rfl, rfl⟩
theorem putW {w : World} {b o X : Nat} {x y : V5} (h : At5 w b o y) (hf : ∀ k, w.frozen? ⟨b, k, none⟩ = false) (hX : B5 w X x) :
    Calls Tryd.prog 94 #[.pointer (some ⟨b, o, none⟩), .pointer (some ⟨X, 0, none⟩)] w fun e w' => e = .returned (.tuple #[]) ∧ st5 w b o x = w' := by
  obtain ⟨c0, c1, c2, c3, c4⟩ := h
  obtain ⟨⟨d0, d1, d2, d3, d4⟩, -⟩ := hX
  go_enter Tryd.func94, Tryd.ntmps94
  go_wp2
  exact ⟨rfl, .tuple #[], by simp [results, Tryd.f94, go_sem], rfl, rfl⟩
theorem putR {w : World} {b o X : Nat} {x y : V5} (h : At5 w b o y) (hf : ∀ k, w.frozen? ⟨b, k, none⟩ = false) (hX : B5 w X x) :
    Calls Tryd.prog 65 #[.pointer (some ⟨b, o, none⟩), .pointer (some ⟨X, 0, none⟩)] w fun e w' => e = .returned (.tuple #[]) ∧ st5 w b o x = w' := by
  obtain ⟨c0, c1, c2, c3, c4⟩ := h
  obtain ⟨⟨d0, d1, d2, d3, d4⟩, -⟩ := hX
  go_enter Tryd.func65, Tryd.ntmps65
  go_wp2
  exact ⟨rfl, .tuple #[], by simp [results, Tryd.f65, go_sem], rfl, rfl⟩
theorem with_getR {w : World} {b o k n X : Nat} {x y : V5} (h : At5 w b (o + k * 5) x) (hX : B5 w X y) (hk : k < n) :
    Calls Tryd.prog 64 #[.slice (some ⟨b, o, none⟩) n n, .int .i64 (k : Int), .func (.func 69) #[] #[.pointer (some ⟨X, 0, none⟩)]] w fun e w' => e = .returned (.int .i64 0) ∧ st5 w X 0 x = w' := by
  have HC := Lib.hid (getR h hX)
  have d1 : ¬ n ≤ k := by omega
  go_enter Tryd.func64, Tryd.ntmps64
  go_wp2_with (first | (with_reducible refine HC.out.mono ?_; rintro e w1 ⟨rfl, rfl⟩) | fail)
  go_ret
  exact ⟨rfl, rfl⟩
theorem with_putW {w : World} {b o k n X : Nat} {x y : V5} (h : At5 w b (o + k * 5) y) (hf : ∀ k, w.frozen? ⟨b, k, none⟩ = false) (hX : B5 w X x) (hk : k < n) :
    Calls Tryd.prog 64 #[.slice (some ⟨b, o, none⟩) n n, .int .i64 (k : Int), .func (.func 94) #[] #[.pointer (some ⟨X, 0, none⟩)]] w fun e w' => e = .returned (.int .i64 0) ∧ st5 w b (o + k * 5) x = w' := by
  have HC := Lib.hid (putW h hf hX)
  have d1 : ¬ n ≤ k := by omega
  go_enter Tryd.func64, Tryd.ntmps64
  go_wp2_with (first | (with_reducible refine HC.out.mono ?_; rintro e w1 ⟨rfl, rfl⟩) | fail)
  go_ret
  exact ⟨rfl, rfl⟩
theorem with_putR {w : World} {b o k n X : Nat} {x y : V5} (h : At5 w b (o + k * 5) y) (hf : ∀ k, w.frozen? ⟨b, k, none⟩ = false) (hX : B5 w X x) (hk : k < n) :
    Calls Tryd.prog 64 #[.slice (some ⟨b, o, none⟩) n n, .int .i64 (k : Int), .func (.func 65) #[] #[.pointer (some ⟨X, 0, none⟩)]] w fun e w' => e = .returned (.int .i64 0) ∧ st5 w b (o + k * 5) x = w' := by
  have HC := Lib.hid (putR h hf hX)
  have d1 : ¬ n ≤ k := by omega
  go_enter Tryd.func64, Tryd.ntmps64
  go_wp2_with (first | (with_reducible refine HC.out.mono ?_; rintro e w1 ⟨rfl, rfl⟩) | fail)
  go_ret
  exact ⟨rfl, rfl⟩
theorem with_out (b o n : Nat) {at' : Int} (h : at' < 0 ∨ (n : Int) ≤ at') (V : Value) (w : World) :
    Calls Tryd.prog 64 #[.slice (some ⟨b, o, none⟩) n n, .int .i64 at', V] w fun e w' => e = .returned (.int .i64 2) ∧ w = w' := by
  by_cases h0 : at' < 0
  · clear h
    go_enter Tryd.func64, Tryd.ntmps64
    go_wp2_with fail
    go_ret
    exact ⟨rfl, rfl⟩
  · have h1 : (n : Int) ≤ at' := by omega
    clear h
    go_enter Tryd.func64, Tryd.ntmps64
    go_wp2_with fail
    go_ret
    exact ⟨rfl, rfl⟩
end Go.Proofs.YtpbdmlipdfdblaaDoor

namespace Go.Proofs.YtpbdmlipdfdblaaDoor
open Go.RowKit Go.BigFrame

attribute [local go_sem] Oper.semAt_some

theorem reg_in {w : World} {b : Nat} {F : FV} (h : FR w b F) {k : Nat} (hk : k < 10) :
    Calls Tryd.prog 45 #[.pointer (some ⟨b, 0, none⟩), .int .i64 (k : Int)] w fun e w' => e = .returned (.tuple #[vv (F k), .int .i64 0]) ∧ Ch [] w w' := by
  obtain ⟨w2, hw2⟩ : ∃ W, W = (w.alloc (.cells #[.bool false, .int .i64 0, .int .i64 0, .int .i64 0, .int .u64 0] 41)).alloc (.cells #[.bool false, .int .i64 0, .int .i64 0, .int .i64 0, .int .u64 0] 41) := ⟨_, rfl⟩
  have hc : Ch [] w w2 := by rw [hw2]; exact ((Ch.refl [] w).alloc _).alloc _
  have hX : B5 w2 (w.heap.size + 1) (num 0) := by have := B5.new (w.alloc (.cells #[.bool false, .int .i64 0, .int .i64 0, .int .i64 0, .int .u64 0] 41)) (num 0) 41; rw [World.size_alloc] at this; rw [hw2]; exact this
  have hY : B5 w2 w.heap.size (num 0) := by rw [hw2]; exact (B5.new w (num 0) 41).quiet ((Ch.refl [] _).alloc _)
  have hv := (h.quiet hc).reg hk
  have C := Lib.hid (with_getR (o := 0) (n := 10) (by first | (rw [Nat.zero_add]; exact hv) | exact hv) hX hk)
  have hne : w.heap.size ≠ w.heap.size + 1 := by omega
  have h3 := hX.set (F k)
  have hY3 := hY.ch (st5_ch w2 (w.heap.size + 1) 0 (F k)) (by simp)
  have hc3 := hc.fresh (st5_ch w2 (w.heap.size + 1) 0 (F k)) (by simp)
  generalize F k = x at *
  generalize st5 w2 (w.heap.size + 1) 0 x = w3 at *
  have hY4 := hY3.set x
  have HC4 := Lib.hid (hc3.fresh (st5_ch w3 w.heap.size 0 x) (by simp))
  have HW := Lib.hid hw2
  have HY4 := Lib.hid hY4
  obtain ⟨⟨x0, x1, x2, x3, x4⟩, -⟩ := h3
  obtain ⟨⟨y0, y1, y2, y3, y4⟩, yf⟩ := hY3
  clear h hk hv hX hY hc hc3 hw2 hY4 hne
  unfold vv
  go_enter Tryd.func45, Tryd.ntmps45
  go_wp2_with fail
  rw [← HW.out]
  with_reducible refine C.out.mono ?_
  rintro e w4 ⟨rfl, rfl⟩
  clear HW C
  go_wp2_with fail
  obtain ⟨⟨z0, z1, z2, z3, z4⟩, -⟩ := HY4.out
  unfold st5 at z0 z1 z2 z3 z4
  simp only [Nat.zero_add] at z0 z1 z2 z3 z4
  refine bodyPost_ret (v := .tuple #[.agg #[.bool x.r, .int .i64 x.m, .int .i64 x.s, .int .i64 x.g, .int .u64 (x.n : Int)], .int .i64 0]) ?_ rfl ?_
  · simp [results, Tryd.f45, go_sem, z0, z1, z2, z3, z4]
  · exact ⟨rfl, HC4.out⟩
theorem reg_out {w : World} (b : Nat) {k : Int} (hk : k < 0 ∨ 10 ≤ k) :
    Calls Tryd.prog 45 #[.pointer (some ⟨b, 0, none⟩), .int .i64 k] w fun e w' => e = .returned (.tuple #[vv (num 0), .int .i64 2]) ∧ Ch [] w w' := by
  obtain ⟨w2, hw2⟩ : ∃ W, W = (w.alloc (.cells #[.bool false, .int .i64 0, .int .i64 0, .int .i64 0, .int .u64 0] 41)).alloc (.cells #[.bool false, .int .i64 0, .int .i64 0, .int .i64 0, .int .u64 0] 41) := ⟨_, rfl⟩
  have hc : Ch [] w w2 := by rw [hw2]; exact ((Ch.refl [] w).alloc _).alloc _
  have h3 : B5 w2 (w.heap.size + 1) (num 0) := by have := B5.new (w.alloc (.cells #[.bool false, .int .i64 0, .int .i64 0, .int .i64 0, .int .u64 0] 41)) (num 0) 41; rw [World.size_alloc] at this; rw [hw2]; exact this
  have hY3 : B5 w2 w.heap.size (num 0) := by rw [hw2]; exact (B5.new w (num 0) 41).quiet ((Ch.refl [] _).alloc _)
  have C := Lib.hid (fun V => with_out b 0 10 hk V w2)
  have hY4 := hY3.set (num 0)
  generalize num 0 = x at *
  have HC4 := Lib.hid (hc.fresh (st5_ch w2 w.heap.size 0 x) (by simp))
  have HW := Lib.hid hw2
  have HY4 := Lib.hid hY4
  obtain ⟨⟨x0, x1, x2, x3, x4⟩, -⟩ := h3
  obtain ⟨⟨y0, y1, y2, y3, y4⟩, yf⟩ := hY3
  clear hk hc hw2 hY4
  unfold vv
  go_enter Tryd.func45, Tryd.ntmps45
  go_wp2_with fail
  rw [← HW.out]
  with_reducible refine (C.out _).mono ?_
  rintro e w4 ⟨rfl, rfl⟩
  clear HW C
  go_wp2_with fail
  obtain ⟨⟨z0, z1, z2, z3, z4⟩, -⟩ := HY4.out
  unfold st5 at z0 z1 z2 z3 z4
  simp only [Nat.zero_add] at z0 z1 z2 z3 z4
  refine bodyPost_ret (v := .tuple #[.agg #[.bool x.r, .int .i64 x.m, .int .i64 x.s, .int .i64 x.g, .int .u64 (x.n : Int)], .int .i64 2]) ?_ rfl ?_
  · simp [results, Tryd.f45, go_sem, z0, z1, z2, z3, z4]
  · exact ⟨rfl, HC4.out⟩
theorem reg_nil (k : Int) (w : World) :
    Calls Tryd.prog 45 #[.pointer none, .int .i64 k] w fun e w' => e = .returned (.tuple #[vv (num 0), .int .i64 6]) ∧ Ch [] w w' := by
  unfold vv
  go_enter Tryd.func45, Tryd.ntmps45
  go_wp2_with fail
  refine bodyPost_ret (v := .tuple #[.agg #[.bool false, .int .i64 0, .int .i64 0, .int .i64 0, .int .u64 0], .int .i64 6]) ?_ rfl ?_
  · simp [results, Tryd.f45, go_sem]
  · exact ⟨rfl, (Ch.refl [] _).alloc _⟩
theorem setreg_in {w : World} {b : Nat} {F : FV} (h : FR w b F) {k : Nat} (hk : k < 10) (x : V5) :
    Calls Tryd.prog 40 #[.pointer (some ⟨b, 0, none⟩), .int .i64 (k : Int), vv x] w fun e w' => e = .returned (.int .i64 0) ∧ FR w' b (upd F k x) ∧ Cf b w w' := by
  obtain ⟨w2, hw2⟩ : ∃ W, W = w.alloc (.cells #[.bool x.r, .int .i64 x.m, .int .i64 x.s, .int .i64 x.g, .int .u64 (x.n : Int)] 41) := ⟨_, rfl⟩
  have hc : Ch [] w w2 := by rw [hw2]; exact (Ch.refl [] w).alloc _
  have hX : B5 w2 w.heap.size x := by rw [hw2]; exact B5.new w x 41
  have h2 := h.quiet hc
  have hv := h2.reg hk
  have C0 := with_putR (o := 0) (n := 10) (by first | (rw [Nat.zero_add]; exact hv) | exact hv) h2.fr hX hk
  rw [Nat.zero_add] at C0
  have C := Lib.hid C0
  clear C0
  have HF := Lib.hid (show FR (st5 w2 b (k * 5) x) b (upd F k x) ∧ Cf b w (st5 w2 b (k * 5) x) from ⟨h2.set (k := k) (by omega) x, (Cf.of (b := b) hc).trans (st5_cf w2 b _ x (by omega))⟩)
  have HW := Lib.hid hw2
  clear h hk hv hX hc hw2 h2
  unfold vv
  go_enter Tryd.func40, Tryd.ntmps40
  go_wp2_with fail
  rw [← HW.out]
  with_reducible refine C.out.mono ?_
  rintro e w4 ⟨rfl, rfl⟩
  clear HW C
  go_wp2_with fail
  go_ret
  exact ⟨rfl, HF.out⟩
theorem setreg_out {w : World} (b : Nat) {k : Int} (hk : k < 0 ∨ 10 ≤ k) (x : V5) :
    Calls Tryd.prog 40 #[.pointer (some ⟨b, 0, none⟩), .int .i64 k, vv x] w fun e w' => e = .returned (.int .i64 2) ∧ Ch [] w w' := by
  have C := Lib.hid (fun V w => with_out b 0 10 hk V w)
  have HC := Lib.hid ((Ch.refl [] w).alloc (.cells #[.bool x.r, .int .i64 x.m, .int .i64 x.s, .int .i64 x.g, .int .u64 (x.n : Int)] 41))
  clear hk
  unfold vv
  go_enter Tryd.func40, Tryd.ntmps40
  go_wp2_with fail
  with_reducible refine (C.out _ _).mono ?_
  rintro e w4 ⟨rfl, rfl⟩
  clear C
  go_wp2_with fail
  go_ret
  exact ⟨rfl, HC.out⟩
theorem setreg_nil (k : Int) (x : V5) (w : World) :
    Calls Tryd.prog 40 #[.pointer none, .int .i64 k, vv x] w fun e w' => e = .returned (.int .i64 6) ∧ Ch [] w w' := by
  have HC := Lib.hid ((Ch.refl [] w).alloc (.cells #[.bool x.r, .int .i64 x.m, .int .i64 x.s, .int .i64 x.g, .int .u64 (x.n : Int)] 41))
  unfold vv
  go_enter Tryd.func40, Tryd.ntmps40
  go_wp2_with fail
  go_ret
  exact ⟨rfl, HC.out⟩
theorem setword_in {w : World} {b : Nat} {F : FV} (h : FR w b F) {k : Nat} (hk : k < 8) (x : V5) :
    Calls Tryd.prog 86 #[.pointer (some ⟨b, 0, none⟩), .int .i64 (k : Int), vv x] w fun e w' => e = .returned (.int .i64 0) ∧ FR w' b (upd F (10 + k) x) ∧ Cf b w w' := by
  obtain ⟨w2, hw2⟩ : ∃ W, W = w.alloc (.cells #[.bool x.r, .int .i64 x.m, .int .i64 x.s, .int .i64 x.g, .int .u64 (x.n : Int)] 41) := ⟨_, rfl⟩
  have hc : Ch [] w w2 := by rw [hw2]; exact (Ch.refl [] w).alloc _
  have hX : B5 w2 w.heap.size x := by rw [hw2]; exact B5.new w x 41
  have h2 := h.quiet hc
  have hv := h2.word hk
  have C0 := with_putW (o := 50) (n := 8) (by first | (rw [Nat.zero_add]; exact hv) | exact hv) h2.fr hX hk
  have C := Lib.hid C0
  clear C0
  have HF := Lib.hid (show FR (st5 w2 b (50 + k * 5) x) b (upd F (10 + k) x) ∧ Cf b w (st5 w2 b (50 + k * 5) x) from ⟨h2.setW hk x, (Cf.of (b := b) hc).trans (st5_cf w2 b _ x (by omega))⟩)
  have HW := Lib.hid hw2
  clear h hk hv hX hc hw2 h2
  unfold vv
  go_enter Tryd.func86, Tryd.ntmps86
  go_wp2_with fail
  rw [← HW.out]
  with_reducible refine C.out.mono ?_
  rintro e w4 ⟨rfl, rfl⟩
  clear HW C
  go_wp2_with fail
  go_ret
  exact ⟨rfl, HF.out⟩
theorem setword_out {w : World} (b : Nat) {k : Int} (hk : k < 0 ∨ 8 ≤ k) (x : V5) :
    Calls Tryd.prog 86 #[.pointer (some ⟨b, 0, none⟩), .int .i64 k, vv x] w fun e w' => e = .returned (.int .i64 2) ∧ Ch [] w w' := by
  have C := Lib.hid (fun V w => with_out b 50 8 hk V w)
  have HC := Lib.hid ((Ch.refl [] w).alloc (.cells #[.bool x.r, .int .i64 x.m, .int .i64 x.s, .int .i64 x.g, .int .u64 (x.n : Int)] 41))
  clear hk
  unfold vv
  go_enter Tryd.func86, Tryd.ntmps86
  go_wp2_with fail
  with_reducible refine (C.out _ _).mono ?_
  rintro e w4 ⟨rfl, rfl⟩
  clear C
  go_wp2_with fail
  go_ret
  exact ⟨rfl, HC.out⟩
theorem setword_nil (k : Int) (x : V5) (w : World) :
    Calls Tryd.prog 86 #[.pointer none, .int .i64 k, vv x] w fun e w' => e = .returned (.int .i64 6) ∧ Ch [] w w' := by
  have HC := Lib.hid ((Ch.refl [] w).alloc (.cells #[.bool x.r, .int .i64 x.m, .int .i64 x.s, .int .i64 x.g, .int .u64 (x.n : Int)] 41))
  unfold vv
  go_enter Tryd.func86, Tryd.ntmps86
  go_wp2_with fail
  go_ret
  exact ⟨rfl, HC.out⟩
end Go.Proofs.YtpbdmlipdfdblaaDoor

namespace Go.Proofs.YtpbdmlipdfdblaaDoor
open Go.RowKit Go.BigFrame

attribute [local go_sem] Oper.semAt_some

/-- Things in memory. -/
def ValsAt (w : World) (a : Option Addr) (L : List V5) : Prop := L = [] ∨ ∃ b off, a = some ⟨b, off, none⟩ ∧ ∀ i (hi : i < L.length), At5 w b (off + i * 5) L[i]
theorem ValsAt.ch {S : List Nat} {w w' : World} {a : Option Addr} {L : List V5} (h : ValsAt w a L) (hc : Ch S w w') (hS : ∀ y, a = some y → y.block ∉ S) : ValsAt w' a L := by
  rcases h with rfl | ⟨b, off, rfl, hk⟩
  · exact .inl rfl
  · exact .inr ⟨b, off, rfl, fun i hi => (hk i hi).ch hc (hS ⟨b, off, none⟩ rfl)⟩
theorem vals_range : ∀ (L : List V5) {w : World} {b off : Nat}, (∀ i (hi : i < L.length), At5 w b (off + i * 5) L[i]) → w.rangeAt b off (L.flatMap vl)
  | [], _, _, _, _ => fun j v hv => by simp at hv
  | x :: L, w, b, off, h => fun j v hv => by
    rw [List.flatMap_cons] at hv
    by_cases hj : j < 5
    · rw [List.getElem?_append_left (by rw [vl_len]; exact hj)] at hv
      have := (h 0 (by simp)).range j v hv
      simpa using this
    · rw [List.getElem?_append_right (by rw [vl_len]; omega), vl_len] at hv
      have := vals_range L (w := w) (b := b) (off := off + 5) (fun i hi => by
        have := h (i + 1) (by simpa using hi)
        rwa [show off + (i + 1) * 5 = off + 5 + i * 5 by omega] at this) (j - 5) v hv
      rwa [show off + 5 + (j - 5) = off + j by omega] at this
theorem flats_len : ∀ L : List V5, (L.flatMap vl).length = L.length * 5
  | [] => rfl
  | x :: L => by rw [List.flatMap_cons, List.length_append, flats_len L, vl_len, List.length_cons]; omega

/-- Some things, laid from one on. -/
def updL (F : FV) (k : Nat) : List V5 → FV
  | [] => F
  | x :: L => updL (upd F k x) (k + 1) L
theorem setCells_append (b : Nat) : ∀ (l m : List Value) (o : Nat) (w : World), w.setCells b o (l ++ m) = (w.setCells b o l).setCells b (o + l.length) m
  | [], _, _, _ => rfl
  | v :: l, m, o, w => by
    rw [List.cons_append, World.setCells, World.setCells, setCells_append b l m, List.length_cons, show o + 1 + l.length = o + (l.length + 1) by omega]
theorem FR.many {b : Nat} : ∀ (L : List V5) {w : World} {F : FV} (k : Nat), k + L.length ≤ 18 → FR w b F → FR (w.setCells b (k * 5) (L.flatMap vl)) b (updL F k L)
  | [], _, _, _, _, h => h
  | x :: L, w, F, k, hk, h => by
    have h1 := FR.many L (k + 1) (by simp at hk; omega) (h.set (k := k) (by simp at hk; omega) x)
    rw [show (k + 1) * 5 = k * 5 + 5 by omega] at h1
    rw [List.flatMap_cons, setCells_append, vl_len, ← st5_eq]
    exact h1
theorem updL_ref (P : V5 → Prop) : ∀ (L : List V5) (F : FV) (k : Nat), (∀ i, P (F i)) → (∀ x ∈ L, P x) → ∀ i, P (updL F k L i)
  | [], _, _, h, _ => h
  | x :: L, F, k, h, hL => updL_ref P L (upd F k x) (k + 1) (fun i => by
      unfold upd; split
      · exact hL x (by simp)
      · exact h i) (fun y hy => hL y (by simp [hy]))
set_option maxRecDepth 10000 in
theorem copy5 (w : World) (b o dLen dCap : Nat) (a : Addr) (sLen sCap : Nat) (cs : List Value) (hn : cs.length = Nat.min sLen dLen * 5)
    (hsrc : ∀ j v, cs[j]? = some v → w.cell? (a.add j) = some v) (hc : ∀ j, j < cs.length → (w.cell? ⟨b, o + j, none⟩).isSome = true) (hf : ∀ j, j < cs.length → w.frozen? ⟨b, o + j, none⟩ = false) (h1 : ∀ v ∈ cs, v.oneCell' = true) :
    (Builtin.copy_ #[33, 33] 3 #[.slice (some ⟨b, o, none⟩) dLen dCap, .slice (some a) sLen sCap]).run Tryd.prog w = .ok (goInt (Nat.min sLen dLen)) (w.setCells b o cs) := by
  have hl := run_loadCells_list (P := Tryd.prog) w a cs hsrc
  have hst := run_storeCells_cells (P := Tryd.prog) b o cs 0 w (by simpa using hc) (by simpa using hf) h1
  obtain ⟨i, hq, hi⟩ : ∃ i : TypeInfo, Tryd.prog.info? 41 = some i ∧ i.size = 5 := ⟨_, rfl, by kernel_rfl⟩
  rw [hn] at hl
  simp only [Nat.add_zero] at hst
  simp [Builtin.copy_, run_underlying Tryd.underlying33, Builtin.lenOf, Builtin.firstCells, sizeOf, typeInfo, hq, hi, hl, hst]

theorem new_any {w : World} {a : Option Addr} {n cap : Nat} {L : List V5} (hL : L.length = n) (h5 : n ≤ 5) (hV : ValsAt w a L) (hnil : a = none → n = 0 → cap = 0) :
    Calls Tryd.prog 29 #[.slice a n cap] w fun e w' => e = .returned (.tuple #[.pointer (some ⟨w.heap.size, 0, none⟩), .int .i64 0]) ∧ FR w' w.heap.size (updL F0 1 L) ∧ Ch [] w w' := by
  have hz := z90a w
  obtain ⟨w1, hw1⟩ : ∃ W, W = w.alloc (.cells (fl F0).toArray 87) := ⟨_, rfl⟩
  have hc1 : Ch [] w w1 := by rw [hw1]; exact (Ch.refl [] w).alloc _
  have hF : FR w1 w.heap.size F0 := by rw [hw1]; exact FR.new w F0 87
  have HR := Lib.hid (show FR (w1.setCells w.heap.size 5 (L.flatMap vl)) w.heap.size (updL F0 1 L) ∧ Ch [] w (w1.setCells w.heap.size 5 (L.flatMap vl)) from ⟨hF.many L 1 (by omega), hc1.fresh (chCells w1 w.heap.size _ _) (by simp)⟩)
  have hcopy : (Builtin.copy_ #[33, 33] 3 #[.slice (some ⟨w.heap.size, 5, none⟩) 9 9, .slice a n cap]).run Tryd.prog w1 = .ok (goInt n) (w1.setCells w.heap.size 5 (L.flatMap vl)) := by
    rcases hV.ch hc1 (by simp) with rfl | ⟨b, off, rfl, hk⟩
    · simp at hL
      subst hL
      cases a with
      | none =>
        obtain rfl := hnil rfl rfl
        exact run_copy_nil (P := Tryd.prog) w1 33 33 3 41 ⟨w.heap.size, 5, none⟩ 9 9 Tryd.underlying33 (by kernel_rfl)
      | some ad => exact copy5 w1 w.heap.size 5 9 9 ad 0 cap [] rfl (fun j v hv => by simp at hv) (fun j hj => by simp at hj) (fun j hj => by simp at hj) (fun v hv => by simp at hv)
    · have hm : Nat.min n 9 = n := Nat.min_eq_left (by omega)
      have hl : (L.flatMap vl).length = Nat.min n 9 * 5 := by rw [flats_len, hL, hm]
      have := copy5 w1 w.heap.size 5 9 9 ⟨b, off, none⟩ n cap (L.flatMap vl) hl (fun j v hv => by rw [addr_add]; exact vals_range L hk j v hv)
        (fun j hj => by
          have := hF.there (5 + j) (by rw [flats_len] at hj; omega)
          rw [Nat.zero_add] at this
          exact this.1) (fun j _ => hF.fr _) (fun v hv => by obtain ⟨x, _, h⟩ := List.mem_flatMap.1 hv; exact vl_one x v h)
      rw [hm] at this
      exact this
  have d1 : decide ((n : Int) > 5) = false := decide_eq_false (by omega)
  have d2 : ¬ 5 < n := by omega
  have HW := Lib.hid hw1
  rw [hw1] at hcopy
  rw [hw1] at HR
  clear hL h5 hV hnil hc1 hF hw1
  go_enter Tryd.func29, Tryd.ntmps29
  go_wp2_with fail
  go_ret2
  exact ⟨rfl, HR.out⟩
end Go.Proofs.YtpbdmlipdfdblaaDoor

namespace Go.Proofs.YtpbdmlipdfdblaaDoor
open Go.RowKit Go.BigFrame

attribute [local go_sem] Oper.semAt_some

theorem isref_any (x : V5) (w : World) : Calls Tryd.prog 80 #[vv x] w fun e w' => e = .returned (.bool x.r) ∧ Ch [] w w' := by
  have HC := Lib.hid ((Ch.refl [] w).alloc (.cells #[.bool x.r, .int .i64 x.m, .int .i64 x.s, .int .i64 x.g, .int .u64 (x.n : Int)] 41))
  unfold vv
  go_enter Tryd.func80, Tryd.ntmps80
  go_wp2
  go_ret
  exact ⟨rfl, HC.out⟩

set_option maxHeartbeats 2000000 in
theorem index_any {w : World} {a : Option Addr} {n cap : Nat} {L : List V5} (hL : L.length = n) (hn : n ≤ 1000) (hV : ValsAt w a L) :
    Calls Tryd.prog 87 #[.slice a n cap, .func (.func 80) #[] #[]] w fun e w' => ∃ z : Int, e = .returned (.int .i64 z) ∧ (0 ≤ z ↔ L.any (·.r) = true) ∧ Ch [] w w' := by
  have HL := Lib.hid hL
  have HV := Lib.hid hV
  have HN := Lib.hid hn
  obtain ⟨q, hq⟩ : ∃ q, L.any (·.r) = q := ⟨_, rfl⟩
  rw [hq]
  have HQ := Lib.hid hq
  clear hL hV hn hq
  go_enter Tryd.func87, Tryd.ntmps87
  go_wp2_with fail
  go_loopw [8] (fun i wr => ∃ j : Nat, i = .int .i64 (j : Int) ∧ j ≤ n ∧ (∀ k (_ : k < j) (hk : k < L.length), L[k].r = false) ∧ Ch [] w wr) (fun i _ => n - (intOf i).toNat)
  case atStart => exact ⟨0, rfl, Nat.zero_le _, fun k h => by omega, Ch.refl _ _⟩
  case round =>
    obtain ⟨j, rfl, hj, hno, hc⟩ := hrel
    have HNo := Lib.hid hno
    have HC := Lib.hid hc
    clear hno
    by_cases h1 : j < n
    · have h1' : (j : Int) < (n : Int) := by omega
      have hjL : j < L.length := by rw [HL.out]; exact h1
      rcases HV.out with h0 | ⟨b, off, rfl, hk⟩
      · exfalso; rw [h0] at hjL; simp at hjL
      · obtain ⟨c0, c1, c2, c3, c4⟩ := (hk j hjL).ch hc (by simp)
        have HI := Lib.hid (fun w => isref_any L[j] w)
        have HX := Lib.hid (show L[j].r = true → q = true from fun h => HQ.out ▸ List.any_eq_true.2 ⟨L[j], List.getElem_mem hjL, h⟩)
        have HY := Lib.hid (show L[j].r = false → ∀ k (_ : k < j + 1) (hk : k < L.length), L[k].r = false from fun h k hk1 hk2 => by
          by_cases e : k = j
          · subst e; exact h
          · exact HNo.out k (by omega) hk2)
        have hw : IntKind.i64.wrap ((j : Int) + 1) = ((j + 1 : Nat) : Int) := by rw [IntKind.wrap_i64]; have := HN.out; omega
        unfold vv at HI
        generalize L[j] = x at *
        clear hk hc hjL h1
        go_wp2_with fail
        with_reducible refine (HI.out _).mono ?_
        rintro e w1 ⟨rfl, hc1⟩
        have HC1 := Lib.hid (HC.out.trans hc1)
        clear hc1
        cases hr : x.r
        · have HZ := Lib.hid (HY.out hr)
          go_wp2_with fail
          go_roundw
          case rel => exact ⟨j + 1, rfl, by omega, HZ.out, HC1.out⟩
          case measure => simp [intOf]; omega
        · have HZ := Lib.hid (HX.out hr)
          go_wp2_with fail
          go_ret
          exact ⟨_, rfl, ⟨fun _ => HZ.out, fun _ => by omega⟩, HC1.out⟩
    · have h1' : ¬ (j : Int) < (n : Int) := by omega
      have HZ := Lib.hid (show ¬ q = true from by
        rw [← HQ.out, List.any_eq_true]
        rintro ⟨x, hx, hr⟩
        obtain ⟨k, hk, rfl⟩ := List.mem_iff_getElem.1 hx
        rw [HNo.out k (by have := HL.out; omega) hk] at hr; cases hr)
      clear h1 hc
      go_wp2_with fail
      go_ret
      exact ⟨_, rfl, ⟨fun h => by omega, fun h => absurd h HZ.out⟩, HC.out⟩
theorem contains_any {w : World} {a : Option Addr} {n cap : Nat} {L : List V5} (hL : L.length = n) (hn : n ≤ 1000) (hV : ValsAt w a L) :
    Calls Tryd.prog 79 #[.slice a n cap, .func (.func 80) #[] #[]] w fun e w' => e = .returned (.bool (L.any (·.r))) ∧ Ch [] w w' := by
  have C := Lib.hid (index_any (cap := cap) hL hn hV)
  clear hL hn hV
  generalize L.any (·.r) = q at *
  go_enter Tryd.func79, Tryd.ntmps79
  go_wp2_with fail
  with_reducible refine C.out.mono ?_
  rintro e w1 ⟨z, rfl, hz, hc⟩
  have HC := Lib.hid hc
  have HZ := Lib.hid (show decide (z ≥ 0) = q from by cases q <;> simp at hz ⊢ <;> omega)
  clear hc hz C
  go_wp2_with fail
  go_ret
  refine ⟨?_, HC.out⟩
  rw [← HZ.out]
  rfl
theorem hasref_any {w : World} {a : Option Addr} {n cap : Nat} {L : List V5} (hL : L.length = n) (hn : n ≤ 1000) (hV : ValsAt w a L) :
    Calls Tryd.prog 68 #[.slice a n cap] w fun e w' => e = .returned (.bool (L.any (·.r))) ∧ Ch [] w w' := by
  have C := Lib.hid (contains_any (cap := cap) hL hn hV)
  clear hL hn hV
  generalize L.any (·.r) = q at *
  go_enter Tryd.func68, Tryd.ntmps68
  go_wp2_with fail
  with_reducible refine C.out.mono ?_
  rintro e w1 ⟨rfl, hc⟩
  have HC := Lib.hid hc
  clear hc C
  go_wp2_with fail
  go_ret
  exact ⟨rfl, HC.out⟩

/-- What stands beside a register. -/
def oth (F : FV) (x : I5) (last : Int) : V5 := if last < x.op then F x.s.toNat else num (wdN x.i)
theorem oth_fw {F : FV} (h : FW F) (x : I5) (last : Int) : W64 (oth F x last).n := by
  unfold oth; split
  · exact h _
  · exact wdN_lt _
theorem operand_any {w : World} {b : Nat} {F : FV} (h : FR w b F) {x : I5} (hs : 0 ≤ x.s ∧ x.s ≤ 9) (last : Int) :
    Calls Tryd.prog 83 #[.pointer (some ⟨b, 0, none⟩), iv x, .int .i64 last] w fun e w' => e = .returned (vv (oth F x last)) ∧ Ch [] w w' := by
  obtain ⟨op, d, s, o, i⟩ := x
  obtain ⟨k, rfl⟩ : ∃ k : Nat, s = (k : Int) := ⟨s.toNat, by simp at hs; omega⟩
  have hk : k < 10 := by simp at hs; omega
  have hk' : (k : Int) < 10 := by omega
  unfold oth
  simp only [Int.toNat_natCast]
  obtain ⟨w2, hw2⟩ : ∃ W, W = (w.alloc (.cells #[.int .i64 op, .int .i64 d, .int .i64 (k : Int), .int .i64 o, .int .i64 i] 59)).alloc (.cells #[.bool false, .int .i64 0, .int .i64 0, .int .i64 0, .int .u64 0] 41) := ⟨_, rfl⟩
  have hc : Ch [] w w2 := by rw [hw2]; exact ((Ch.refl [] w).alloc _).alloc _
  have hY : B5 w2 (w.heap.size + 1) (num 0) := by have := B5.new (w.alloc (.cells #[.int .i64 op, .int .i64 d, .int .i64 (k : Int), .int .i64 o, .int .i64 i] 59)) (num 0) 41; rw [World.size_alloc] at this; rw [hw2]; exact this
  have hI : Five w2 w.heap.size ⟨op, d, k, o, i⟩ := by rw [hw2]; exact (Five.new w ⟨op, d, k, o, i⟩ 59).ch ((Ch.refl [] _).alloc _) (by simp)
  obtain ⟨a0, a1, a2, a3, a4⟩ := hI
  obtain ⟨c0, c1, c2, c3, c4⟩ := (h.quiet hc).reg hk
  have HY := Lib.hid hY
  obtain ⟨⟨y0, y1, y2, y3, y4⟩, yf⟩ := hY
  have HW := Lib.hid hw2
  have HC := Lib.hid hc
  have HWd := Lib.hid (fun w => word_any i w)
  have HNu := Lib.hid (fun w => num_any (wdN i) w)
  have HE := Lib.hid (fun x => hc.fresh (st5_ch w2 (w.heap.size + 1) 0 x) (by simp))
  simp only at a0 a1 a2 a3 a4
  unfold iv
  clear h hc hw2 hs hk
  by_cases hop : last < op
  · rw [if_pos hop]
    generalize F k = x at *
    have HZ := Lib.hid (HY.out.set x)
    unfold vv
    go_enter Tryd.func83, Tryd.ntmps83
    go_wp2_with fail
    rw [← HW.out]
    clear HW
    go_region
    go_wp2_with fail
    obtain ⟨⟨z0, z1, z2, z3, z4⟩, -⟩ := HZ.out
    unfold st5 at z0 z1 z2 z3 z4
    simp only [Nat.zero_add] at z0 z1 z2 z3 z4
    refine bodyPost_ret (v := .agg #[.bool x.r, .int .i64 x.m, .int .i64 x.s, .int .i64 x.g, .int .u64 (x.n : Int)]) ?_ rfl ?_
    · simp [results, Tryd.f83, go_sem, z0, z1, z2, z3, z4]
    · exact ⟨rfl, (HE.out x).drew⟩
  · rw [if_neg hop]
    obtain ⟨x, hx⟩ : ∃ x, num (wdN i) = x := ⟨_, rfl⟩
    rw [hx] at HNu ⊢
    clear hx
    unfold vv
    go_enter Tryd.func83, Tryd.ntmps83
    go_wp2_with fail
    rw [← HW.out]
    with_reducible refine (HWd.out _).mono ?_
    rintro e w3 ⟨rfl, rfl⟩
    go_wp2_with fail
    with_reducible refine (HNu.out _).mono ?_
    rintro e w4 ⟨rfl, hc4⟩
    have HC4 := Lib.hid (HC.out.trans hc4)
    have HB4 := Lib.hid (HY.out.quiet hc4)
    have hb4 := HB4.out
    generalize num 0 = y at *
    obtain ⟨⟨q0, q1, q2, q3, q4⟩, qf⟩ := hb4
    clear y0 y1 y2 y3 y4 yf c0 c1 c2 c3 c4 a0 a1 a2 a3 a4 HW HWd HNu hc4
    unfold vv
    go_wp2_with fail
    obtain ⟨⟨z0, z1, z2, z3, z4⟩, -⟩ := HB4.out.set x
    unfold st5 at z0 z1 z2 z3 z4
    simp only [Nat.zero_add] at z0 z1 z2 z3 z4
    refine bodyPost_ret (v := .agg #[.bool x.r, .int .i64 x.m, .int .i64 x.s, .int .i64 x.g, .int .u64 (x.n : Int)]) ?_ rfl ?_
    · simp [results, Tryd.f83, go_sem, z0, z1, z2, z3, z4]
    · exact ⟨rfl, HC4.out.fresh (st5_ch w4 (w.heap.size + 1) 0 x) (by simp)⟩
end Go.Proofs.YtpbdmlipdfdblaaDoor
