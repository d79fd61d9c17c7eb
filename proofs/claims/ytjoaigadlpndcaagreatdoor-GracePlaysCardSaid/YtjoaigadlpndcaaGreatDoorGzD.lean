/-
  What is kept while the answer polls: its box, the result's variable, deeds, callbacks, holdouts.
-/
import Derived.Test.YtjoaigadlpndcaaGreatDoorGzC
namespace Go.Proofs.YtjoaigadlpndcaaGreatDoor
open Go.RowKit Go.Shelf

/-- The answer's plain state. -/
structure Az where
  ds : List (Nat × Bool)
  M : List Cb
  last : Int
  rn : Bool
  t : Int
  P : Nat
  p : Nat → Bool
  gen : Int
  ov : Int
  wt : Int
/-- Three slices: deeds, callbacks, holdouts. -/
structure Sl3 where
  a1 : Option Addr
  n1 : Nat
  c1 : Nat
  a2 : Option Addr
  n2 : Nat
  c2 : Nat
  a3 : Option Addr
  n3 : Nat
  c3 : Nat
abbrev Sl3.m (s : Sl3) : Value := .slice s.a1 s.n1 s.c1
abbrev Sl3.v (s : Sl3) : Value := .slice s.a2 s.n2 s.c2
abbrev Sl3.l (s : Sl3) : Value := .slice s.a3 s.n3 s.c3
abbrev gvz (s : Sl3) (n : Nat) (z : Az) : Value := gv s.m (n : Int) z.last s.v z.rn z.t (z.P : Int) s.l z.gen z.ov z.wt
abbrev BZ (w : World) (b : Nat) (s : Sl3) (n : Nat) (z : Az) : Prop := BG w b s.m (n : Int) z.last s.v z.rn z.t (z.P : Int) s.l z.gen z.ov z.wt
/-- The answer's rows lie somewhere, and nowhere within a part of memory (X). -/
structure RZ (w : World) (D : Nat) (s : Sl3) (z : Az) (X : Nat → Prop) : Prop where
  rd : RD w D s.m z.ds
  rc : RowC w s.v z.M
  rb : z.rn = true → ∃ g cap, s.l = .slice (some ⟨g, 0, none⟩) 64 cap ∧ RB w D g cap z.p
  x1 : ∀ g, s.m.ownBlock = some g → ¬ X g
  x2 : ∀ g, s.v.ownBlock = some g → ¬ X g
  x3 : z.rn = true → ∀ g, s.l.ownBlock = some g → ¬ X g
section
variable {w w' : World} {D : Nat} {s : Sl3} {z : Az} {X : Nat → Prop}
theorem RZ.quiet (h : RZ w D s z X) (hc : Ch [] w w') : RZ w' D s z X :=
  ⟨h.rd.quiet hc, h.rc.quiet hc, fun e => by obtain ⟨g, cap, e1, e2⟩ := h.rb e; exact ⟨g, cap, e1, e2.quiet hc⟩, h.x1, h.x2, h.x3⟩
theorem RZ.away {S : List Nat} (h : RZ w D s z X) (hc : Ch S w w') (hS : ∀ k ∈ S, X k) : RZ w' D s z X :=
  ⟨h.rd.away hc (fun k hk e => h.x1 k e (hS k hk)), h.rc.ch hc (fun g e hg => h.x2 g e (hS g hg)), fun e => by
    obtain ⟨g, cap, e1, e2⟩ := h.rb e
    exact ⟨g, cap, e1, e2.away hc (fun hg => h.x3 e g (by rw [e1]; rfl) (hS g hg))⟩, h.x1, h.x2, h.x3⟩
end
/-- While it polls: B the box, B + 1 the result's variable. -/
structure PZ (Y : Nat → Prop) (w0 w : World) (B D : Nat) (s : Sl3) (n : Nat) (z : Az) : Prop where
  hB : BZ w B s n z
  hZ : Bx w (B + 1) (.slice none 0 0) (.int .i64 0) (.int .i64 0) (.slice none 0 0) (.bool false) (.int .i64 0) (.int .i64 0) (.slice none 0 0) (.int .i64 0) (.int .i64 0) (.int .i64 0)
  hA : Ch [] w0 w
  r : RZ w D s z (fun k => k = B ∨ k = B + 1 ∨ Y k)
  b0 : w0.heap.size = B
  sz : B + 1 < w.heap.size
  yb : ∀ k, Y k → k < B
section
variable {Y : Nat → Prop} {w0 w w' : World} {B D n : Nat} {s : Sl3} {z : Az}
theorem PZ.quiet (h : PZ Y w0 w B D s n z) (hc : Ch [] w w') : PZ Y w0 w' B D s n z := ⟨h.hB.quiet hc, h.hZ.quiet hc, h.hA.trans hc, h.r.quiet hc, h.b0, Nat.lt_of_lt_of_le h.sz hc.size, h.yb⟩
theorem PZ.put {s' : Sl3} {z' : Az} (h : PZ Y w0 w B D s n z) (hc : Ch [B] w w') (hB : BZ w' B s' n z') (hr : RZ w D s' z' (fun k => k = B ∨ k = B + 1 ∨ Y k)) : PZ Y w0 w' B D s' n z' :=
  ⟨hB, h.hZ.ch hc (by simp), h.hA.fresh hc (by have := h.b0; simp; omega), hr.away hc (by simp), h.b0, Nat.lt_of_lt_of_le h.sz hc.size, h.yb⟩
/-- The scan is stored. -/
theorem PZ.scan (h : PZ Y w0 w B D s n z) {g cap : Nat} {p' : Nat → Bool} (hb : RB w D g cap p') (hg : g ≠ B ∧ g ≠ B + 1 ∧ ¬ Y g) (t' : Int) (P' : Nat) :
    PZ Y w0 (((w.setCell ⟨B, 5, none⟩ (.int .i64 t')).setCell ⟨B, 6, none⟩ (.int .i64 (P' : Int))).setCell ⟨B, 7, none⟩ (.slice (some ⟨g, 0, none⟩) 64 cap)) B D ⟨s.a1, s.n1, s.c1, s.a2, s.n2, s.c2, some ⟨g, 0, none⟩, 64, cap⟩ n ⟨z.ds, z.M, z.last, z.rn, t', P', p', z.gen, z.ov, z.wt⟩ :=
  h.put ((((Ch.refl [B] w).setCell (p := ⟨B, 5, none⟩) (by simp) _).setCell (p := ⟨B, 6, none⟩) (by simp) _).setCell (p := ⟨B, 7, none⟩) (by simp) _) (((h.hB.set5 _).set6 _).set7 _)
    ⟨h.r.rd, h.r.rc, fun _ => ⟨g, cap, rfl, hb⟩, h.r.x1, h.r.x2, fun _ k e hk => by
      have e2 : g = k := Option.some.inj e
      rcases hk with hk | hk | hk
      · omega
      · omega
      · exact hg.2.2 (by rw [e2]; exact hk)⟩
/-- The callbacks are. -/
theorem PZ.list (h : PZ Y w0 w B D s n z) {a : Option Addr} {q cap : Nat} {M' : List Cb} (hr : RowC w (.slice a q cap) M') (hx : ∀ g, (Value.slice a q cap).ownBlock = some g → B + 1 < g) (last' : Int) :
    PZ Y w0 (((w.setCell ⟨B, 1, none⟩ (.int .i64 (n : Int))).setCell ⟨B, 2, none⟩ (.int .i64 last')).setCell ⟨B, 3, none⟩ (.slice a q cap)) B D ⟨s.a1, s.n1, s.c1, a, q, cap, s.a3, s.n3, s.c3⟩ n ⟨z.ds, M', last', z.rn, z.t, z.P, z.p, z.gen, z.ov, z.wt⟩ :=
  h.put ((((Ch.refl [B] w).setCell (p := ⟨B, 1, none⟩) (by simp) _).setCell (p := ⟨B, 2, none⟩) (by simp) _).setCell (p := ⟨B, 3, none⟩) (by simp) _) (((h.hB.set1 _).set2 _).set3 _)
    ⟨h.r.rd, hr, h.r.rb, h.r.x1, fun g e hk => by have := hx g e; rcases hk with hk | hk | hk; omega; omega; have := h.yb _ hk; omega, h.r.x3⟩
/-- A scan is over: Runs, Over. -/
theorem PZ.over (h : PZ Y w0 w B D s n z) :
    PZ Y w0 ((w.setCell ⟨B, 4, none⟩ (.bool false)).setCell ⟨B, 9, none⟩ (.int .i64 z.gen)) B D s n ⟨z.ds, z.M, z.last, false, z.t, z.P, z.p, z.gen, z.gen, z.wt⟩ :=
  h.put (((Ch.refl [B] w).setCell (p := ⟨B, 4, none⟩) (by simp) _).setCell (p := ⟨B, 9, none⟩) (by simp) _) ((h.hB.set4 _).set9 _) ⟨h.r.rd, h.r.rc, fun e => (by cases e), h.r.x1, h.r.x2, fun e => (by cases e)⟩
/-- Where none runs the generation goes on. -/
theorem PZ.next (h : PZ Y w0 w B D s n z) (g : Int) :
    PZ Y w0 (w.setCell ⟨B, 8, none⟩ (.int .i64 g)) B D s n ⟨z.ds, z.M, z.last, z.rn, z.t, z.P, z.p, g, z.ov, z.wt⟩ :=
  h.put ((Ch.refl [B] w).setCell (p := ⟨B, 8, none⟩) (by simp) _) (h.hB.set8 _) ⟨h.r.rd, h.r.rc, h.r.rb, h.r.x1, h.r.x2, h.r.x3⟩
theorem PZ.runs (h : PZ Y w0 w B D s n z) (hr : ∃ g cap, s.l = .slice (some ⟨g, 0, none⟩) 64 cap ∧ RB w D g cap z.p ∧ g ≠ B ∧ g ≠ B + 1 ∧ ¬ Y g) :
    PZ Y w0 (w.setCell ⟨B, 4, none⟩ (.bool true)) B D s n ⟨z.ds, z.M, z.last, true, z.t, z.P, z.p, z.gen, z.ov, z.wt⟩ := by
  obtain ⟨g, cap, e1, e2, e3, e4, e6⟩ := hr
  refine h.put ((Ch.refl [B] w).setCell (p := ⟨B, 4, none⟩) (by simp) _) (h.hB.set4 _) ⟨h.r.rd, h.r.rc, fun _ => ⟨g, cap, e1, e2⟩, h.r.x1, h.r.x2, fun _ k e hk => ?_⟩
  rw [e1] at e
  have e5 : g = k := Option.some.inj e
  rcases hk with hk | hk | hk
  · omega
  · omega
  · exact e6 (by rw [e5]; exact hk)
end
/-- What is told and left, plainly. -/
def Az.left (z : Az) : Nat → Bool := pollL (endF z.t (runS z.ds)) z.P z.p 16
def endZ (z : Az) : Az := if z.rn = true then (if cntN z.left 64 = 0 then ⟨z.ds, z.M.filter (leftM z.gen), z.last, false, z.t, pollP z.P z.p 16, z.left, z.gen, z.gen, z.wt⟩ else ⟨z.ds, z.M, z.last, true, z.t, pollP z.P z.p 16, z.left, z.gen, z.ov, z.wt⟩) else z
def outZ (n : Nat) (z : Az) : List Int := if z.rn = true ∧ cntN z.left 64 = 0 then outM z.gen z.M n else []
def begZ (z : Az) : Az := if z.rn = false ∧ (0 < zcM z.M ∨ z.gen < z.wt) then ⟨z.ds, z.M.map (giveC (z.gen + 1)), z.gen + 1, true, (runS z.ds).n, 0, inP (runS z.ds), z.gen + 1, z.ov, z.wt⟩ else z
end Go.Proofs.YtjoaigadlpndcaaGreatDoor
