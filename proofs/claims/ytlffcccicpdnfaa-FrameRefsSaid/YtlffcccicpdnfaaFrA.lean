/-
  Things, frames: plain, and in memory.
-/
import Derived.Test.YtlffcccicpdnfaaAlD
import Derived.Deep.MidRow
namespace Go.Proofs.Ytlffcccicpdnfaa
open Go.RowKit

/-- A thing: is it a reference, map, slot, generation, word. -/
structure V5 where
  r : Bool
  m : Int
  s : Int
  g : Int
  n : Nat
deriving DecidableEq
def num (n : Nat) : V5 := ⟨false, 0, 0, 0, n⟩
def refTo (m s g : Int) : V5 := ⟨true, m, s, g, 1⟩
def vl (x : V5) : List Value := [.bool x.r, .int .i64 x.m, .int .i64 x.s, .int .i64 x.g, .int .u64 (x.n : Int)]
/-- The value. -/
def vv (x : V5) : Value := .agg #[.bool x.r, .int .i64 x.m, .int .i64 x.s, .int .i64 x.g, .int .u64 (x.n : Int)]
theorem vl_len (x : V5) : (vl x).length = 5 := rfl
theorem vv_eq (x : V5) : vv x = .agg (vl x).toArray := rfl
theorem vl_one (x : V5) : ∀ v ∈ vl x, v.oneCell' = true := by simp [vl, Value.oneCell']

/-- A frame: eighteen things, the registers first. -/
abbrev FV := Nat → V5
def upd (F : FV) (k : Nat) (x : V5) : FV := fun i => if i = k then x else F i
theorem upd_same (F : FV) (k : Nat) (x : V5) : upd F k x k = x := if_pos rfl
theorem upd_other (F : FV) {k i : Nat} (x : V5) (h : i ≠ k) : upd F k x i = F i := if_neg h
def F0 : FV := fun _ => num 0
/-- All words fit. -/
def FW (F : FV) : Prop := ∀ k, W64 (F k).n
theorem FW.upd {F : FV} (h : FW F) (k : Nat) {x : V5} (hx : W64 x.n) : FW (upd F k x) := fun i => by
  unfold Proofs.Ytlffcccicpdnfaa.upd; split
  · exact hx
  · exact h i
theorem FW0 : FW F0 := fun _ => by show 0 < _; decide
/-- All cells of a frame. -/
def fl (F : FV) : List Value := (List.range 18).flatMap (fun k => vl (F k))
/-- A frame as a value. -/
def fv (F : FV) : Value := .agg (fl F).toArray

theorem flat_len (F : FV) : ∀ l : List Nat, (l.flatMap (fun k => vl (F k))).length = l.length * 5
  | [] => rfl
  | k :: l => by rw [List.flatMap_cons, List.length_append, flat_len F l, vl_len, List.length_cons]; omega
theorem fl_len (F : FV) : (fl F).length = 90 := by unfold fl; rw [flat_len]; rfl
theorem fl_one (F : FV) : ∀ v ∈ fl F, v.oneCell' = true := by
  unfold fl
  intro v hv
  obtain ⟨k, _, h⟩ := List.mem_flatMap.1 hv
  exact vl_one _ v h
theorem flat_at (F : FV) (j : Nat) (hj : j < 5) : ∀ (l : List Nat) (k : Nat) (hk : k < l.length), (l.flatMap (fun k => vl (F k)))[k * 5 + j]? = (vl (F l[k]))[j]?
  | [], _, hk => by simp at hk
  | a :: l, 0, _ => by
    rw [List.flatMap_cons, List.getElem?_append_left (by rw [vl_len]; omega)]
    simp
  | a :: l, k + 1, hk => by
    rw [List.flatMap_cons, List.getElem?_append_right (by rw [vl_len]; omega), vl_len, show (k + 1) * 5 + j - 5 = k * 5 + j by omega]
    exact flat_at F j hj l k (by simpa using hk)
theorem fl_at (F : FV) {k j : Nat} (hk : k < 18) (hj : j < 5) : (fl F)[k * 5 + j]? = (vl (F k))[j]? := by
  unfold fl
  rw [flat_at F j hj (List.range 18) k (by simpa using hk)]
  simp
theorem fl_congr {F G : FV} (h : ∀ k, k < 18 → F k = G k) : fl F = fl G := by
  unfold fl
  have key : ∀ l : List Nat, (∀ k ∈ l, k < 18) → l.flatMap (fun k => vl (F k)) = l.flatMap (fun k => vl (G k)) := by
    intro l
    induction l with
    | nil => intro _; rfl
    | cons a l ih => intro hl; rw [List.flatMap_cons, List.flatMap_cons, h a (hl a (by simp)), ih fun k hk => hl k (by simp [hk])]
  exact key _ fun k hk => by simpa using hk

/-- A thing lies there. -/
structure At5 (w : World) (b o : Nat) (x : V5) : Prop where
  c0 : w.cell? ⟨b, o, none⟩ = some (.bool x.r)
  c1 : w.cell? ⟨b, o + 1, none⟩ = some (.int .i64 x.m)
  c2 : w.cell? ⟨b, o + 2, none⟩ = some (.int .i64 x.s)
  c3 : w.cell? ⟨b, o + 3, none⟩ = some (.int .i64 x.g)
  c4 : w.cell? ⟨b, o + 4, none⟩ = some (.int .u64 (x.n : Int))
theorem At5.lt {w : World} {b o : Nat} {x : V5} (h : At5 w b o x) : b < w.heap.size := cell_lt h.c0
theorem At5.ch {S : List Nat} {w w' : World} {b o : Nat} {x : V5} (h : At5 w b o x) (hc : Ch S w w') (hb : b ∉ S) : At5 w' b o x :=
  have c : ∀ i, w'.cell? ⟨b, i, none⟩ = w.cell? ⟨b, i, none⟩ := fun i => World.cell?_of_block (a := ⟨b, i, none⟩) (hc.block b h.lt hb)
  ⟨(c _).trans h.c0, (c _).trans h.c1, (c _).trans h.c2, (c _).trans h.c3, (c _).trans h.c4⟩
theorem At5.range {w : World} {b o : Nat} {x : V5} (h : At5 w b o x) : w.rangeAt b o (vl x) := fun j v hv => by
  match j, hv with
  | 0, hv => cases hv; exact h.c0
  | 1, hv => cases hv; exact h.c1
  | 2, hv => cases hv; exact h.c2
  | 3, hv => cases hv; exact h.c3
  | 4, hv => cases hv; exact h.c4
theorem At5.of {w : World} {b o : Nat} {x : V5} (h : w.rangeAt b o (vl x)) : At5 w b o x := ⟨h 0 _ rfl, h 1 _ rfl, h 2 _ rfl, h 3 _ rfl, h 4 _ rfl⟩

/-- A box of a thing that may be written. -/
structure B5 (w : World) (b : Nat) (x : V5) : Prop where
  a : At5 w b 0 x
  fr : ∀ k, w.frozen? ⟨b, k, none⟩ = false
theorem B5.new (w : World) (x : V5) (t : TypeId) : B5 (w.alloc (.cells #[.bool x.r, .int .i64 x.m, .int .i64 x.s, .int .i64 x.g, .int .u64 (x.n : Int)] t)) w.heap.size x :=
  ⟨⟨by rw [World.cell?_alloc_at _ _ _ _ rfl]; rfl, by rw [World.cell?_alloc_at _ _ _ _ rfl]; rfl, by rw [World.cell?_alloc_at _ _ _ _ rfl]; rfl, by rw [World.cell?_alloc_at _ _ _ _ rfl]; rfl, by rw [World.cell?_alloc_at _ _ _ _ rfl]; rfl⟩, fun _ => World.frozen?_alloc_new w _ _ _⟩
theorem B5.ch {S : List Nat} {w w' : World} {b : Nat} {x : V5} (h : B5 w b x) (hc : Ch S w w') (hb : b ∉ S) : B5 w' b x :=
  ⟨h.a.ch hc hb, fun k => (World.frozen?_of_block (a := ⟨b, k, none⟩) (hc.block b h.a.lt hb)).trans (h.fr k)⟩
theorem B5.quiet {w w' : World} {b : Nat} {x : V5} (h : B5 w b x) (hc : Ch [] w w') : B5 w' b x := h.ch hc (by simp)

/-- Five cells written. -/
def st5 (w : World) (b o : Nat) (x : V5) : World := ((((w.setCell ⟨b, o, none⟩ (.bool x.r)).setCell ⟨b, o + 1, none⟩ (.int .i64 x.m)).setCell ⟨b, o + 2, none⟩ (.int .i64 x.s)).setCell ⟨b, o + 3, none⟩ (.int .i64 x.g)).setCell ⟨b, o + 4, none⟩ (.int .u64 (x.n : Int))
theorem st5_eq (w : World) (b o : Nat) (x : V5) : st5 w b o x = w.setCells b o (vl x) := rfl
theorem st5_ch (w : World) (b o : Nat) (x : V5) : Ch [b] w (st5 w b o x) :=
  (((((Ch.refl [b] w).setCell (p := ⟨b, o, none⟩) (by simp) _).setCell (p := ⟨b, o + 1, none⟩) (by simp) _).setCell (p := ⟨b, o + 2, none⟩) (by simp) _).setCell (p := ⟨b, o + 3, none⟩) (by simp) _).setCell (p := ⟨b, o + 4, none⟩) (by simp) _
theorem st5_frozen (w : World) (b o : Nat) (x : V5) (p : Addr) : (st5 w b o x).frozen? p = w.frozen? p := by rw [st5_eq]; exact World.frozen?_setCells ..
theorem st5_there {w : World} {b o : Nat} {y : V5} (h : At5 w b o y) (hf : ∀ k, w.frozen? ⟨b, k, none⟩ = false) (x : V5) : w.there b o (vl x).length := fun j hj => by
  refine ⟨?_, hf _⟩
  match j, hj with
  | 0, _ => rw [Nat.add_zero, h.c0]; rfl
  | 1, _ => rw [h.c1]; rfl
  | 2, _ => rw [h.c2]; rfl
  | 3, _ => rw [h.c3]; rfl
  | 4, _ => rw [h.c4]; rfl
theorem st5_same {w : World} {b o : Nat} {y : V5} (h : At5 w b o y) (hf : ∀ k, w.frozen? ⟨b, k, none⟩ = false) (x : V5) : At5 (st5 w b o x) b o x := by
  rw [st5_eq]; exact At5.of (World.rangeAt_setCells_same w b o (vl x) (st5_there h hf x))
theorem st5_other {w : World} {b b' o o' : Nat} {y : V5} (h : At5 w b' o' y) (x : V5) (hap : b' ≠ b ∨ o' + 5 ≤ o ∨ o + 5 ≤ o') : At5 (st5 w b o x) b' o' y := by
  rw [st5_eq]; exact At5.of (World.rangeAt_setCells_apart h.range b o (vl x) (by rw [vl_len, vl_len]; exact hap))
theorem B5.set {w : World} {b : Nat} {y : V5} (h : B5 w b y) (x : V5) : B5 (st5 w b 0 x) b x := ⟨st5_same h.a h.fr x, fun k => by rw [st5_frozen]; exact h.fr k⟩

/-- A frame lies in a block. -/
structure FR (w : World) (b : Nat) (F : FV) : Prop where
  a : ∀ k, k < 18 → At5 w b (k * 5) (F k)
  fr : ∀ k, w.frozen? ⟨b, k, none⟩ = false
section
variable {w w' : World} {b : Nat} {F : FV}
theorem FR.lt (h : FR w b F) : b < w.heap.size := (h.a 0 (by decide)).lt
theorem FR.ch {S : List Nat} (h : FR w b F) (hc : Ch S w w') (hb : b ∉ S) : FR w' b F :=
  ⟨fun k hk => (h.a k hk).ch hc hb, fun k => (World.frozen?_of_block (a := ⟨b, k, none⟩) (hc.block b h.lt hb)).trans (h.fr k)⟩
theorem FR.quiet (h : FR w b F) (hc : Ch [] w w') : FR w' b F := h.ch hc (by simp)
theorem FR.reg (h : FR w b F) {k : Nat} (hk : k < 10) : At5 w b (k * 5) (F k) := h.a k (by omega)
theorem FR.word (h : FR w b F) {k : Nat} (hk : k < 8) : At5 w b (50 + k * 5) (F (10 + k)) := by
  have := h.a (10 + k) (by omega)
  rwa [show (10 + k) * 5 = 50 + k * 5 by omega] at this
theorem FR.set (h : FR w b F) {k : Nat} (hk : k < 18) (x : V5) : FR (st5 w b (k * 5) x) b (upd F k x) := by
  refine ⟨fun i hi => ?_, fun j => by rw [st5_frozen]; exact h.fr j⟩
  by_cases e : i = k
  · subst e
    rw [upd_same]
    exact st5_same (h.a i hi) h.fr x
  · rw [upd_other F x e]
    exact st5_other (h.a i hi) x (.inr (by omega))
theorem FR.setW (h : FR w b F) {k : Nat} (hk : k < 8) (x : V5) : FR (st5 w b (50 + k * 5) x) b (upd F (10 + k) x) := by
  have := h.set (k := 10 + k) (by omega) x
  rwa [show (10 + k) * 5 = 50 + k * 5 by omega] at this
theorem FR.congr {G : FV} (h : FR w b F) (e : ∀ k, k < 18 → F k = G k) : FR w b G := ⟨fun k hk => e k hk ▸ h.a k hk, h.fr⟩
theorem FR.range (h : FR w b F) : w.rangeAt b 0 (fl F) := fun j v hv => by
  have hj : j < 90 := by have := (List.getElem?_eq_some_iff.1 hv).1; rwa [fl_len] at this
  have hd : j = j / 5 * 5 + j % 5 := by omega
  rw [Nat.zero_add]
  rw [hd, fl_at F (by omega) (Nat.mod_lt _ (by decide))] at hv
  have := (h.a (j / 5) (by omega)).range (j % 5) v hv
  rwa [← hd] at this
theorem FR.of (hr : w.rangeAt b 0 (fl F)) (hf : ∀ k, w.frozen? ⟨b, k, none⟩ = false) : FR w b F :=
  ⟨fun k hk => At5.of fun j v hv => by
    have hj : j < 5 := by have := (List.getElem?_eq_some_iff.1 hv).1; rwa [vl_len] at this
    have := hr (k * 5 + j) v (by rw [fl_at F hk hj]; exact hv)
    rwa [Nat.zero_add] at this, hf⟩
theorem FR.new (w : World) (F : FV) (t : TypeId) : FR (w.alloc (.cells (fl F).toArray t)) w.heap.size F :=
  FR.of (fun j v hv => by rw [Nat.zero_add, World.cell?_alloc_at _ _ _ _ rfl]; simpa using hv) fun _ => World.frozen?_alloc_new w _ _ _
theorem FR.there (h : FR w b F) : w.there b 0 90 := fun j hj => by
  have := World.rangeAt.isSome h.range j (by rw [fl_len]; exact hj)
  exact ⟨this, h.fr _⟩
theorem FR.setAll (h : FR w b F) (G : FV) : FR (w.setCells b 0 (fl G)) b G :=
  FR.of (World.rangeAt_setCells_same w b 0 (fl G) (by rw [fl_len]; exact h.there)) fun k => by rw [World.frozen?_setCells]; exact h.fr k
end
theorem chCells (w : World) (b : Nat) : ∀ (vs : List Value) (o : Nat), Ch [b] w (w.setCells b o vs) := by
  intro vs
  induction vs generalizing w with
  | nil => intro o; exact Ch.refl _ _
  | cons v vs ih =>
    intro o
    rw [World.setCells]
    exact ((Ch.refl [b] w).setCell (p := ⟨b, o, none⟩) (by simp) v).trans (ih _ (o + 1))
theorem z90a (w : World) : Sem.run Try.prog (zeroValue 75) w = .ok (.agg (fl F0).toArray) w := by kernel_rfl
theorem z90b (w : World) : Sem.run Try.prog (zeroValue 32) w = .ok (.agg (fl F0).toArray) w := by kernel_rfl
end Go.Proofs.Ytlffcccicpdnfaa
