/-
  Several texts in one: Plain: slots as a list; the first free one; what is told of them. · An arena of elements (a key with four words): how it lies; free. · A loop over a function whose contract tells the body what was yielded so far, and that this one comes next. · Plain: a table's keys and values as one list, the one that came last first; a key's bucket; a bucket's chain; what Put, Del, Get tell; cells that are laid over one another. · Marks that a range over a function in a plain loop leaves behind; a region that draws its order, in a round of a range over a function: by the laws of a plain one. · May there be so many? · builtin copy of elements of more than one cell; of a row's cells. · Orders, plain: a list of keys from the oldest to the newest; touches (a key, and how many touches there were then), rising; what several touches make.
-/
import Derived.Test.YtalhlopjaijhcaaGreatChecked
import Derived.WalkKit
import Derived.BigQuiet
import Derived.BigRegion
import Derived.RegionTactic
import Derived.Deep.QuietTactic
import Derived.Deep.DeepMust
import Derived.Deep.RegionWith
import Derived.Outline
import Derived.Test.YtalhlopjaijhcaaGreatBase
import Derived.RangeFuncNested
import Derived.RangeFuncBound
import Derived.RangeFuncBox
import Derived.RangeFuncCalls
import Derived.RangeFuncLeaves
import Derived.Shelf.Abstract
import Derived.Shelf.RegionOpen
import Derived.OwnWalkIn
import Derived.TacticsInMore
import Derived.LoopNIn
import Derived.LoopIn
import Derived.Maps.AppendAt
import Derived.Sort.LoopGhostIn
import Derived.OrdersHeld
import Derived.OrdersIn
import Derived.Deep.RegionHeld3
import Derived.Laws.IdiomCopy
import Derived.Test.YtalhlopjaijhcaaGreatBaseZ
import Derived.Tactics
import Derived.Tactics2
import Derived.Shelf.Spec.SlicesInsert
import Derived.Lib.AppendZerosOnto
namespace Go.Proofs.YtalhlopjaijhcaaGreat

/-- A thing: a number and a text. -/
abbrev Th := Int × ByteArray

/-- A slot: its generation, whether it holds something, and what. -/
structure Sl (α : Type) where
  gen : Nat
  held : Bool
  x : α
instance {α : Type} [Inhabited α] : Inhabited (Sl α) := ⟨⟨0, false, default⟩⟩

variable {α : Type}

def isFree (s : Sl α) : Bool := !s.held && decide ((s.gen : Int) ≤ 255)
def isHeld (s : Sl α) : Bool := s.held
/-- What holds of every slot. -/
def good (s : Sl α) : Prop := s.gen ≤ 256 ∧ (s.held = true → s.gen ≤ 255)
theorem free_held {s : Sl α} (h : isFree s = true) : s.held = false ∧ s.gen ≤ 255 := by
  unfold isFree at h
  simp at h
  exact ⟨h.1, by omega⟩
variable [Inhabited α]
def at0 (xs : List (Sl α)) (k : Nat) : Sl α := xs[k]?.getD default
theorem at0_set_same (xs : List (Sl α)) (k : Nat) (s : Sl α) (h : k < xs.length) : at0 (xs.set k s) k = s := by simp [at0, h]
theorem at0_set_other (xs : List (Sl α)) (k j : Nat) (s : Sl α) (h : j ≠ k) : at0 (xs.set k s) j = at0 xs j := by simp [at0, List.getElem?_set_ne (Ne.symm h)]
theorem at0_get (xs : List (Sl α)) (k : Nat) (h : k < xs.length) : at0 xs k = xs[k] := by simp [at0, h]

/-- The numbers of those ahead of k that are such. -/
def selTo (xs : List (Sl α)) (p : Sl α → Bool) (k : Nat) : List Nat := (List.range k).filter fun j => p (at0 xs j)
def sel (xs : List (Sl α)) (p : Sl α → Bool) : List Nat := selTo xs p xs.length
theorem selTo_zero (xs : List (Sl α)) (p : Sl α → Bool) : selTo xs p 0 = [] := rfl
theorem selTo_yes (xs : List (Sl α)) (p : Sl α → Bool) (k : Nat) (h : p (at0 xs k) = true) : selTo xs p (k + 1) = selTo xs p k ++ [k] := by
  simp [selTo, List.range_succ, List.filter_append, h]
theorem selTo_no (xs : List (Sl α)) (p : Sl α → Bool) (k : Nat) (h : p (at0 xs k) = false) : selTo xs p (k + 1) = selTo xs p k := by
  simp [selTo, List.range_succ, List.filter_append, h]
theorem selTo_prefix (xs : List (Sl α)) (p : Sl α → Bool) (k n : Nat) (h : k ≤ n) : selTo xs p k <+: selTo xs p n := by
  induction n with
  | zero => obtain rfl : k = 0 := by omega
            exact List.prefix_refl _
  | succ n ih =>
    by_cases e : k = n + 1
    · subst e; exact List.prefix_refl _
    · refine (ih (by omega)).trans ?_
      cases hp : p (at0 xs n) with
      | true => rw [selTo_yes _ _ _ hp]; exact List.prefix_append _ _
      | false => rw [selTo_no _ _ _ hp]; exact List.prefix_refl _
theorem selTo_len (xs : List (Sl α)) (p : Sl α → Bool) (k : Nat) : (selTo xs p k).length ≤ k := by
  have := List.length_filter_le (fun j => p (at0 xs j)) (List.range k)
  simpa [selTo] using this
theorem sel_len (xs : List (Sl α)) (p : Sl α → Bool) : (sel xs p).length ≤ xs.length := selTo_len _ _ _
theorem mem_selTo {xs : List (Sl α)} {p : Sl α → Bool} {k j : Nat} : j ∈ selTo xs p k ↔ j < k ∧ p (at0 xs j) = true := by
  simp [selTo]

/-- The first one that is such. -/
def firstOf (xs : List (Sl α)) (p : Sl α → Bool) : Option Nat := (sel xs p).head?
theorem firstOf_some {xs : List (Sl α)} {p : Sl α → Bool} {k : Nat} (h : firstOf xs p = some k) : k < xs.length ∧ p (at0 xs k) = true := by
  have : k ∈ sel xs p := List.mem_of_mem_head? h
  exact mem_selTo.1 this
theorem firstOf_none {xs : List (Sl α)} {p : Sl α → Bool} (h : firstOf xs p = none) : sel xs p = [] := List.head?_eq_none_iff.1 h
theorem firstOf_prefix {xs : List (Sl α)} {p : Sl α → Bool} {k : Nat} (h : [k] <+: sel xs p) : firstOf xs p = some k := by
  obtain ⟨r, hr⟩ := h
  unfold firstOf
  rw [← hr]; rfl
/-- Where all ahead of k are not such, and k is. -/
theorem firstOf_at {xs : List (Sl α)} {p : Sl α → Bool} {k : Nat} (hk : k < xs.length) (hn : ∀ j, j < k → p (at0 xs j) = false) (h : p (at0 xs k) = true) : firstOf xs p = some k := by
  have e : selTo xs p k = [] := by
    unfold selTo
    rw [List.filter_eq_nil_iff]
    intro j hj
    simp [hn j (by simpa using hj)]
  have h1 := selTo_prefix xs p (k + 1) xs.length (by omega)
  rw [selTo_yes _ _ _ h, e] at h1
  exact firstOf_prefix h1
theorem firstOf_out {xs : List (Sl α)} {p : Sl α → Bool} (hn : ∀ j, j < xs.length → p (at0 xs j) = false) : firstOf xs p = none := by
  have e : sel xs p = [] := by
    unfold sel selTo
    rw [List.filter_eq_nil_iff]
    intro j hj
    simp [hn j (by simpa using hj)]
  unfold firstOf
  rw [e]; rfl

/-- The error of a handle: 2, 7 or 0. -/
def findE (xs : List (Sl α)) (s g : Int) : Int :=
  if s < 0 ∨ (xs.length : Int) ≤ s then 2 else if (at0 xs s.toNat).held = true ∧ ((at0 xs s.toNat).gen : Int) = g then 0 else 7
theorem findE_range {xs : List (Sl α)} {s g : Int} (h : s < 0 ∨ (xs.length : Int) ≤ s) : findE xs s g = 2 := by unfold findE; rw [if_pos h]
theorem findE_ok {xs : List (Sl α)} {k : Nat} {g : Int} (h : k < xs.length) (h1 : (at0 xs k).held = true) (h2 : ((at0 xs k).gen : Int) = g) : findE xs k g = 0 := by
  unfold findE; rw [if_neg (by omega), if_pos ⟨h1, h2⟩]
theorem findE_stale {xs : List (Sl α)} {k : Nat} {g : Int} (h : k < xs.length) (h1 : ¬ ((at0 xs k).held = true ∧ ((at0 xs k).gen : Int) = g)) : findE xs k g = 7 := by
  unfold findE; rw [if_neg (by omega), Int.toNat_natCast, if_neg h1]
theorem findE_zero {xs : List (Sl α)} {s g : Int} (h : findE xs s g = 0) : ∃ k : Nat, s = (k : Int) ∧ k < xs.length ∧ (at0 xs k).held = true ∧ ((at0 xs k).gen : Int) = g := by
  unfold findE at h
  split at h
  · cases h
  · rename_i h1
    split at h
    · rename_i h2
      exact ⟨s.toNat, by omega, by omega, h2.1, h2.2⟩
    · cases h
theorem findE_cases (xs : List (Sl α)) (s g : Int) : findE xs s g = 0 ∨ findE xs s g = 2 ∨ findE xs s g = 7 := by
  unfold findE
  split
  · exact .inr (.inl rfl)
  · split
    · exact .inl rfl
    · exact .inr (.inr rfl)

/-- All of it with one thing more. -/
def putL (xs : List (Sl α)) (x : α) : List (Sl α) := match firstOf xs isFree with
  | some k => xs.set k ⟨(at0 xs k).gen, true, x⟩
  | none => xs
theorem putL_some {xs : List (Sl α)} {x : α} {k : Nat} (h : firstOf xs isFree = some k) : putL xs x = xs.set k ⟨(at0 xs k).gen, true, x⟩ := by unfold putL; rw [h]
theorem putL_none {xs : List (Sl α)} {x : α} (h : firstOf xs isFree = none) : putL xs x = xs := by unfold putL; rw [h]
/-- What Put tells: slot, generation, error. -/
def putS (xs : List (Sl α)) : Int := match firstOf xs isFree with
  | some k => (k : Int)
  | none => 0
def putG (xs : List (Sl α)) : Int := match firstOf xs isFree with
  | some k => ((at0 xs k).gen : Int)
  | none => 0
def putErr (xs : List (Sl α)) : Int := match firstOf xs isFree with
  | some _ => 0
  | none => 3
theorem putA_some {xs : List (Sl α)} {k : Nat} (h : firstOf xs isFree = some k) : putS xs = (k : Int) ∧ putG xs = ((at0 xs k).gen : Int) ∧ putErr xs = 0 := by
  unfold putS putG putErr; rw [h]; exact ⟨rfl, rfl, rfl⟩
theorem putA_none {xs : List (Sl α)} (h : firstOf xs isFree = none) : putS xs = 0 ∧ putG xs = 0 ∧ putErr xs = 3 := by
  unfold putS putG putErr; rw [h]; exact ⟨rfl, rfl, rfl⟩
theorem put_len (xs : List (Sl α)) (x : α) : (putL xs x).length = xs.length := by
  unfold putL; split <;> simp
/-- All of it with one freed. -/
def freeL (xs : List (Sl α)) (s g : Int) : List (Sl α) := if findE xs s g = 0 then xs.set s.toNat ⟨(at0 xs s.toNat).gen + 1, false, default⟩ else xs
def setL (xs : List (Sl α)) (s g : Int) (x : α) : List (Sl α) := if findE xs s g = 0 then xs.set s.toNat ⟨(at0 xs s.toNat).gen, (at0 xs s.toNat).held, x⟩ else xs
def getX (xs : List (Sl α)) (s g : Int) : α := if findE xs s g = 0 then (at0 xs s.toNat).x else default
theorem setL_len (xs : List (Sl α)) (s g : Int) (x : α) : (setL xs s g x).length = xs.length := by unfold setL; split <;> simp
theorem freeL_len (xs : List (Sl α)) (s g : Int) : (freeL xs s g).length = xs.length := by unfold freeL; split <;> simp

/-- Several freed, one behind the other: what is left, and the error. -/
def freeN (xs : List (Sl α)) : List (Int × Int) → List (Sl α) × Int
  | [] => (xs, 0)
  | h :: t => if findE xs h.1 h.2 = 0 then freeN (freeL xs h.1 h.2) t else (xs, findE xs h.1 h.2)
theorem freeN_one (xs : List (Sl α)) (s g : Int) : freeN xs [(s, g)] = (freeL xs s g, findE xs s g) := by
  unfold freeN freeN
  split
  · rename_i h; rw [h]
  · rename_i h; unfold freeL; rw [if_neg h]
end Go.Proofs.YtalhlopjaijhcaaGreat

namespace Go.Proofs.YtalhlopjaijhcaaGreat
/-- A key with its words. -/
structure El where
  k : Nat
  v : Nat → Nat
instance : Inhabited El := ⟨⟨0, fun _ => 0⟩⟩
/-- Its cells, as a value. -/
abbrev elV (e : El) : Value := .agg #[.int .u64 (e.k : Int), .int .u64 (e.v 0 : Int), .int .u64 (e.v 1 : Int), .int .u64 (e.v 2 : Int), .int .u64 (e.v 3 : Int)]
end Go.Proofs.YtalhlopjaijhcaaGreat
namespace Go.Proofs.YtalhlopjaijhcaaGreat.aE
open Go.RowKit

attribute [local go_sem] Oper.semAt_some

/-- A slot of number k in the block G. -/
structure SC (w : World) (G k : Nat) (s : Sl El) : Prop where
  c0 : w.cell? ⟨G, k * 8, none⟩ = some (.int .i64 (k : Int))
  c1 : w.cell? ⟨G, k * 8 + 1, none⟩ = some (.int .i64 (s.gen : Int))
  c2 : w.cell? ⟨G, k * 8 + 2, none⟩ = some (.bool s.held)
  c3 : w.cell? ⟨G, k * 8 + 3, none⟩ = some (.int .u64 (s.x.k : Int))
  c4 : w.cell? ⟨G, k * 8 + 3 + 1, none⟩ = some (.int .u64 (s.x.v 0 : Int))
  c5 : w.cell? ⟨G, k * 8 + 3 + 2, none⟩ = some (.int .u64 (s.x.v 1 : Int))
  c6 : w.cell? ⟨G, k * 8 + 3 + 3, none⟩ = some (.int .u64 (s.x.v 2 : Int))
  c7 : w.cell? ⟨G, k * 8 + 3 + 4, none⟩ = some (.int .u64 (s.x.v 3 : Int))
  f : ∀ o, w.frozen? ⟨G, o, none⟩ = false
theorem SC.lt {w : World} {G k : Nat} {s : Sl El} (h : SC w G k s) : G < w.heap.size := cell_lt h.c0
theorem SC.drewN {w : World} {G k : Nat} {s : Sl El} (h : SC w G k s) (n : Nat) : SC (w.drewN n) G k s := ⟨h.c0, h.c1, h.c2, h.c3, h.c4, h.c5, h.c6, h.c7, h.f⟩
theorem SC.block {w w' : World} {G k : Nat} {s : Sl El} (h : SC w G k s) (hb : w'.heap[G]? = w.heap[G]?) : SC w' G k s :=
  have c : ∀ o, w'.cell? ⟨G, o, none⟩ = w.cell? ⟨G, o, none⟩ := fun o => World.cell?_of_block (w := w) (a := ⟨G, o, none⟩) hb
  have f : ∀ o, w'.frozen? ⟨G, o, none⟩ = w.frozen? ⟨G, o, none⟩ := fun o => World.frozen?_of_block (w := w) (a := ⟨G, o, none⟩) hb
  ⟨(c _).trans h.c0, (c _).trans h.c1, (c _).trans h.c2, (c _).trans h.c3, (c _).trans h.c4, (c _).trans h.c5, (c _).trans h.c6, (c _).trans h.c7, fun o => (f o).trans (h.f o)⟩
theorem SC.ne {w : World} {G k : Nat} {s : Sl El} (h : SC w G k s) {p : Addr} (hp : ∀ o, o < 8 → p ≠ ⟨G, k * 8 + o, none⟩) (u : Value) : SC (w.setCell p u) G k s :=
  ⟨setCell_other h.c0 (hp 0 (by decide)), setCell_other h.c1 (hp 1 (by decide)), setCell_other h.c2 (hp 2 (by decide)), setCell_other h.c3 (hp 3 (by decide)), setCell_other h.c4 (hp 4 (by decide)), setCell_other h.c5 (hp 5 (by decide)), setCell_other h.c6 (hp 6 (by decide)), setCell_other h.c7 (hp 7 (by decide)), fun o => by simpa using h.f o⟩
theorem SC.far {w : World} {G k : Nat} {s : Sl El} (h : SC w G k s) {p : Addr} (hp : p.block ≠ G) (u : Value) : SC (w.setCell p u) G k s :=
  h.ne (fun o _ e => hp (by rw [e])) u
theorem SC.other {w : World} {G k : Nat} {s : Sl El} (h : SC w G k s) {j o : Nat} (hj : j ≠ k) (ho : o < 8) (u : Value) : SC (w.setCell ⟨G, j * 8 + o, none⟩ u) G k s :=
  h.ne (fun i hi => addr_ne_off (by omega)) u
/-- An element is stored at a place. -/
abbrev stE (w : World) (G o : Nat) (e : El) : World := ((((w.setCell ⟨G, o, none⟩ (.int .u64 (e.k : Int))).setCell ⟨G, o + 1, none⟩ (.int .u64 (e.v 0 : Int))).setCell ⟨G, o + 2, none⟩ (.int .u64 (e.v 1 : Int))).setCell ⟨G, o + 3, none⟩ (.int .u64 (e.v 2 : Int))).setCell ⟨G, o + 4, none⟩ (.int .u64 (e.v 3 : Int))
theorem ch_stE {S : List Nat} {a w : World} (h : Ch S a w) {G : Nat} (hG : G ∈ S ∨ a.heap.size ≤ G) (o : Nat) (e : El) : Ch S a (stE w G o e) :=
  ((((h.setCell2 (p := ⟨G, o, none⟩) hG _).setCell2 (p := ⟨G, o + 1, none⟩) hG _).setCell2 (p := ⟨G, o + 2, none⟩) hG _).setCell2 (p := ⟨G, o + 3, none⟩) hG _).setCell2 (p := ⟨G, o + 4, none⟩) hG _
theorem SC.thing {w : World} {G k : Nat} {s : Sl El} (h : SC w G k s) (e : El) : SC (stE w G (k * 8 + 3) e) G k ⟨s.gen, s.held, e⟩ := by
  have n : ∀ {a b : Nat}, a ≠ b → (⟨G, a, none⟩ : Addr) ≠ ⟨G, b, none⟩ := fun h => addr_ne_off h
  refine ⟨?_, ?_, ?_, ?_, ?_, ?_, ?_, ?_, fun o => by simpa [stE] using h.f o⟩
  · exact setCell_other (setCell_other (setCell_other (setCell_other (setCell_other h.c0 (n (by omega))) (n (by omega))) (n (by omega))) (n (by omega))) (n (by omega))
  · exact setCell_other (setCell_other (setCell_other (setCell_other (setCell_other h.c1 (n (by omega))) (n (by omega))) (n (by omega))) (n (by omega))) (n (by omega))
  · exact setCell_other (setCell_other (setCell_other (setCell_other (setCell_other h.c2 (n (by omega))) (n (by omega))) (n (by omega))) (n (by omega))) (n (by omega))
  · exact setCell_other (setCell_other (setCell_other (setCell_other (setCell_same h.c3) (n (by omega))) (n (by omega))) (n (by omega))) (n (by omega))
  · exact setCell_other (setCell_other (setCell_other (setCell_same (setCell_other h.c4 (n (by omega)))) (n (by omega))) (n (by omega))) (n (by omega))
  · exact setCell_other (setCell_other (setCell_same (setCell_other (setCell_other h.c5 (n (by omega))) (n (by omega)))) (n (by omega))) (n (by omega))
  · exact setCell_other (setCell_same (setCell_other (setCell_other (setCell_other h.c6 (n (by omega))) (n (by omega))) (n (by omega)))) (n (by omega))
  · exact setCell_same (setCell_other (setCell_other (setCell_other (setCell_other h.c7 (n (by omega))) (n (by omega))) (n (by omega))) (n (by omega)))

/-- An arena in the blocks R (its part) and G (its slots). -/
structure AC (w : World) (R G : Nat) (xs : List (Sl El)) : Prop where
  ne : R ≠ G
  n1 : 1 ≤ xs.length
  n2 : xs.length ≤ 64
  c : w.cell? ⟨R, 0, none⟩ = some (.slice (some ⟨G, 0, none⟩) xs.length xs.length)
  sl : ∀ k, k < xs.length → SC w G k (at0 xs k)
  gb : ∀ k, k < xs.length → good (at0 xs k)
theorem AC.lt {w : World} {R G : Nat} {xs : List (Sl El)} (h : AC w R G xs) : R < w.heap.size ∧ G < w.heap.size := ⟨cell_lt h.c, (h.sl 0 h.n1).lt⟩
theorem AC.drewN {w : World} {R G : Nat} {xs : List (Sl El)} (h : AC w R G xs) (n : Nat) : AC (w.drewN n) R G xs := ⟨h.ne, h.n1, h.n2, h.c, fun k hk => (h.sl k hk).drewN n, h.gb⟩
theorem AC.blocks {w w' : World} {R G : Nat} {xs : List (Sl El)} (h : AC w R G xs) (hR : w'.heap[R]? = w.heap[R]?) (hG : w'.heap[G]? = w.heap[G]?) : AC w' R G xs :=
  ⟨h.ne, h.n1, h.n2, (World.cell?_of_block (w := w) (a := ⟨R, 0, none⟩) hR).trans h.c, fun k hk => (h.sl k hk).block hG, h.gb⟩
theorem AC.ch {w w' : World} {S : List Nat} {R G : Nat} {xs : List (Sl El)} (h : AC w R G xs) (hc : Ch S w w') (hR : R ∉ S) (hG : G ∉ S) : AC w' R G xs :=
  h.blocks (hc.block R h.lt.1 hR) (hc.block G h.lt.2 hG)
theorem AC.below {n₀ : Nat} {w w' : World} {R G : Nat} {xs : List (Sl El)} (h : AC w R G xs) (hB : Below n₀ w w') (hR : R < n₀) (hG : G < n₀) : AC w' R G xs :=
  h.blocks (hB.block R hR) (hB.block G hG)
theorem AC.far {w : World} {R G : Nat} {xs : List (Sl El)} (h : AC w R G xs) {p : Addr} (hR : p.block ≠ R) (hG : p.block ≠ G) (u : Value) : AC (w.setCell p u) R G xs :=
  h.blocks (Below.heap_setCell _ _ _ _ (fun e => hR e.symm)) (Below.heap_setCell _ _ _ _ (fun e => hG e.symm))
/-- One slot turned. -/
theorem AC.turned {w w' : World} {R G : Nat} {xs : List (Sl El)} (h : AC w R G xs) (k : Nat) (_ : k < xs.length) (s : Sl El) (hs : SC w' G k s) (hg : good s) (hR : w'.heap[R]? = w.heap[R]?)
    (ho : ∀ j t, j ≠ k → SC w G j t → SC w' G j t) : AC w' R G (xs.set k s) := by
  refine ⟨h.ne, by simpa using h.n1, by simpa using h.n2, ?_, fun j hj => ?_, fun j hj => ?_⟩
  · rw [List.length_set]; exact (World.cell?_of_block (w := w) (a := ⟨R, 0, none⟩) hR).trans h.c
  · rw [List.length_set] at hj
    by_cases e : j = k
    · subst e; rw [at0_set_same _ _ _ hj]; exact hs
    · rw [at0_set_other _ _ _ _ e]; exact ho j _ e (h.sl j hj)
  · rw [List.length_set] at hj
    by_cases e : j = k
    · subst e; rw [at0_set_same _ _ _ hj]; exact hg
    · rw [at0_set_other _ _ _ _ e]; exact h.gb j hj
theorem stE_block {w : World} {G o : Nat} {e : El} {B : Nat} (h : B ≠ G) : (stE w G o e).heap[B]? = w.heap[B]? :=
  (Below.heap_setCell _ _ _ _ h).trans ((Below.heap_setCell _ _ _ _ h).trans ((Below.heap_setCell _ _ _ _ h).trans ((Below.heap_setCell _ _ _ _ h).trans (Below.heap_setCell _ _ _ _ h))))
theorem SC.otherE {w : World} {G k : Nat} {s : Sl El} (h : SC w G k s) {j : Nat} (hj : j ≠ k) (e : El) : SC (stE w G (j * 8 + 3) e) G k s :=
  ((((h.other (o := 3) hj (by decide) _).other (o := 4) hj (by decide) _).other (o := 5) hj (by decide) _).other (o := 6) hj (by decide) _).other (o := 7) hj (by decide) _
theorem AC.thing' {w : World} {R G : Nat} {xs : List (Sl El)} (h : AC w R G xs) (k : Nat) (hk : k < xs.length) (v : El) :
    AC (stE w G (k * 8 + 3) v) R G (xs.set k ⟨(at0 xs k).gen, (at0 xs k).held, v⟩) :=
  h.turned k hk _ ((h.sl k hk).thing v) (h.gb k hk) (stE_block h.ne) (fun _ _ e ht => ht.otherE (Ne.symm e) v)
theorem SC.held {w : World} {G k : Nat} {s : Sl El} (h : SC w G k s) (b : Bool) : SC (w.setCell ⟨G, k * 8 + 2, none⟩ (.bool b)) G k ⟨s.gen, b, s.x⟩ :=
  have n : ∀ {a : Nat}, k * 8 + 2 ≠ a → (⟨G, k * 8 + 2, none⟩ : Addr) ≠ ⟨G, a, none⟩ := fun h => addr_ne_off h
  ⟨setCell_other h.c0 (n (by omega)), setCell_other h.c1 (n (by omega)), setCell_same h.c2, setCell_other h.c3 (n (by omega)), setCell_other h.c4 (n (by omega)), setCell_other h.c5 (n (by omega)), setCell_other h.c6 (n (by omega)), setCell_other h.c7 (n (by omega)), fun o => by simpa using h.f o⟩
theorem AC.held' {w : World} {R G : Nat} {xs : List (Sl El)} (h : AC w R G xs) (k : Nat) (hk : k < xs.length) (b : Bool) (v : El) (hg : good ⟨(at0 xs k).gen, b, v⟩) :
    AC (stE (w.setCell ⟨G, k * 8 + 2, none⟩ (.bool b)) G (k * 8 + 3) v) R G (xs.set k ⟨(at0 xs k).gen, b, v⟩) :=
  h.turned k hk _ (((h.sl k hk).held b).thing v) hg ((stE_block h.ne).trans (Below.heap_setCell _ _ _ _ h.ne)) (fun _ _ e ht => (ht.other (o := 2) (Ne.symm e) (by decide) _).otherE (Ne.symm e) v)
theorem AC.gen' {w : World} {R G : Nat} {xs : List (Sl El)} (h : AC w R G xs) (k : Nat) (hk : k < xs.length) (g : Nat) (hg : good ⟨g, (at0 xs k).held, (at0 xs k).x⟩) :
    AC (w.setCell ⟨G, k * 8 + 1, none⟩ (.int .i64 (g : Int))) R G (xs.set k ⟨g, (at0 xs k).held, (at0 xs k).x⟩) := by
  have hs := h.sl k hk
  have n : ∀ {a : Nat}, k * 8 + 1 ≠ a → (⟨G, k * 8 + 1, none⟩ : Addr) ≠ ⟨G, a, none⟩ := fun h => addr_ne_off h
  refine h.turned k hk _ ⟨setCell_other hs.c0 (n (by omega)), setCell_same hs.c1, setCell_other hs.c2 (n (by omega)), setCell_other hs.c3 (n (by omega)), setCell_other hs.c4 (n (by omega)), setCell_other hs.c5 (n (by omega)), setCell_other hs.c6 (n (by omega)), setCell_other hs.c7 (n (by omega)), fun o => by simpa using hs.f o⟩ hg
    (Below.heap_setCell _ _ _ _ h.ne) (fun j t e ht => ht.other (Ne.symm e) (by decide) _)

theorem free_any {w : World} {G k : Nat} {s : Sl El} (h : SC w G k s) :
    Calls Tryz.prog 99 #[.pointer (some ⟨G, k * 8, none⟩)] w fun e w' => e = .returned (.bool (isFree s)) ∧ w = w' := by
  have c1 := h.c1
  have c2 := h.c2
  clear h
  obtain ⟨g, b, x⟩ := s
  cases b
  all_goals
    go_enter Tryz.func99, Tryz.ntmps99
    go_wp2
    go_ret
    exact ⟨by simp [isFree], rfl⟩
end Go.Proofs.YtalhlopjaijhcaaGreat.aE

namespace Go.Proofs.YtalhlopjaijhcaaGreat
open Go.RowKit

/-- The contract of such a function. -/
def SeqP {α : Type} (F : Fence) (n : Nat) (P : Program) (g : Nat) (lb : Array Value) (encs : α → Array Value) (St Kp : World → World → Prop) (S Sp : List α → Prop) (w : World) : Prop :=
  ∀ (l : Nat) (J Jx : List α → World → Prop) (W : World), Below w.heap.size w W → (∀ s A B, J s A → St A B → J s B) →
    (∀ pre x W1, J pre W1 → Sp (pre ++ [x]) → YieldAt F (n - 1) P l (encs x) W1 fun e W' => (e = .returned (.bool true) ∧ J (pre ++ [x]) W' ∧ Kp W1 W') ∨ (e = .returned (.bool false) ∧ Jx (pre ++ [x]) W')) →
    J [] W → CallsIn F n P g (#[.func (.yield l) #[] #[]] ++ lb) W fun e W' => (∃ v, e = .returned v) ∧ ((∃ xs, S xs ∧ J xs W') ∨ (∃ pre, Sp pre ∧ Jx pre W'))

theorem wpIn_range_p {F : Fence} {n : Nat} {P : Program} {w : World} {α : Type} {g : Operand} {ps : Array Tmp} {assign body : Code} {Q : Exit → Act → World → Prop} {a : Act}
    (hro : F.round = none) (h1 : 1 ≤ n) {gf : Nat} {lb : Array Value} (hg : a.eval g = .func (.func gf) #[] lb) (hFg : F.fn gf) (eg : ∀ args w, (callFunc gf args).run P w = .ok (.enter gf args) w)
    {encs : α → Array Value} {St Kp : World → World → Prop} {S Sp : List α → Prop} (hseq : SeqP F (n - 1) P gf lb encs St Kp S Sp w)
    (hSt : ∀ A B, St A B → ∀ (k : Nat) (o : Obj), A.heap[k]? = some o → o.isCells = false → o.isWalk = false → B.heap[k]? = some o)
    (hKt : ∀ {A B C : World}, Kp A B → Kp B C → Kp A C) (hKb : ∀ (W : World) (l : Nat) (o o' : Obj), w.heap.size ≤ l → W.heap[l]? = some o → o.isCells = false → o.isWalk = false → o'.isCells = false → Kp W (W.putObj l o')) (hps : ∀ x, (encs x).size = ps.size)
    (I : List α → World → Prop) (Ix : Code → List α → World → Prop) (hI : OwnFrom w.heap.size I) (hIs : ∀ s A B, I s A → St A B → I s B) (hIx : ∀ c, OwnFrom w.heap.size (Ix c)) (h0 : I [] w) (a₁ : α → Act)
    (hassign : ∀ (l : Nat) (x : α) (W : World) (K : Act → World → Prop), K (a₁ x) W → assign.wpIn (F.inRound l) (n - 1 - 1) P (Exit.then K (fun _ _ _ => False)) { tmps := (ps.zip (encs x)).foldl (fun t (p, v) => t.setIfInBounds p v) a.tmps, defers := [] } W)
    (hbody : ∀ (l : Nat) (pre : List α) (x : α) (W : World), I pre W → Sp (pre ++ [x]) → body.wpIn (F.inRound l) (n - 1 - 1) P (ownPostG w.heap.size Kp I Ix (pre ++ [x]) W) (a₁ x) W)
    (hdone : ∀ (D : Nat) (xs : List α) (W : World), w.heap.size ≤ D → S xs → I xs W → W.heap[D]? = some (.deferred (some [])) → Q .normal { a with defers := { target := .collected D, args := #[] } :: a.defers } W)
    (hstop : ∀ (D : Nat) (c : Code) (pre : List α) (W : World), w.heap.size ≤ D → Sp pre → Ix c pre W → W.heap[D]? = some (.deferred (some [])) → c.wpIn F n P Q { a with defers := { target := .collected D, args := #[] } :: a.defers } W) :
    (Code.rangeFunc g ps assign body).wpIn F n P Q a w := by
  refine wpIn_rangeFunc fun fn hfn => ?_
  rw [hro]
  obtain ⟨rec, hrec⟩ : ∃ rec : LoopState → Option Code → Loop, rec = fun st pe => { state := st, pending := pe, fn, tmps := a.tmps, params := ps, assign, body, defers := w.heap.size } := ⟨_, rfl⟩
  obtain ⟨d, hd⟩ : ∃ d, d = w.heap.size := ⟨_, rfl⟩
  obtain ⟨W1, hW1⟩ : ∃ W1, W1 = (w.alloc (.deferred (some []))).alloc (.loop (rec .ready none)) := ⟨_, rfl⟩
  have hL1 : W1.heap[d + 1]? = some (.loop (rec .ready none)) := by
    have := World.alloc_heap_new (w.alloc (.deferred (some []))) (.loop (rec .ready none))
    rwa [World.size_alloc, ← hd, ← hW1] at this
  have hK1 : W1.heap[d]? = some (.deferred (some [])) := by
    rw [hW1, hd]
    exact (Below.heap_alloc _ _ _ (by simp)).trans (World.alloc_heap_new w _)
  have hI1 : I [] W1 := by rw [hW1]; exact hI.alloc _ (hI.alloc _ h0)
  have hb1 : Below w.heap.size w W1 := by rw [hW1]; exact ((Below.refl _ w).alloc (Nat.le_refl _) _).alloc (by simp) _
  refine ⟨d + 1, [{ target := .collected d, args := #[] }], W1, { target := .fn (.func gf) lb, args := #[.func (.yield (d + 1)) #[] #[]] }, W1, gf, #[.func (.yield (d + 1)) #[] #[]] ++ lb, W1, ?_, ?_, ?_, ?_, fun _ => h1, ?_⟩
  · rw [hW1, hrec, hd]
    exact run_enterLoop_outer _ _ _ _ _
  · simp only [resolve, hg]
    simp [go_sem]
  · intro f' hf'
    simp [Target.leads] at hf'
    subst hf'
    exact hFg
  · simp [invoke, go_sem, eg]
  · refine (hseq (d + 1) (fun pre W => I pre W ∧ W.heap[d + 1]? = some (.loop (rec .ready none)) ∧ W.heap[d]? = some (.deferred (some []))) (fun pre W => ∃ c, Ix c pre W ∧ W.heap[d + 1]? = some (.loop (rec .done (some c))) ∧ W.heap[d]? = some (.deferred (some []))) W1 hb1
      (fun s A B hs hAB => ⟨hIs s A B hs.1 hAB, hSt A B hAB _ _ hs.2.1 rfl rfl, hSt A B hAB _ _ hs.2.2 rfl rfl⟩) ?_ ⟨hI1, hL1, hK1⟩).mono ?_
    · rintro pre x W ⟨hi, hl, hk⟩ hlen
      have hlt : d + 1 < W.heap.size := (Array.getElem?_eq_some_iff.1 hl).1
      have hy := run_yield (P := P) (args := encs x) hl (by rw [hrec]; exact hps x)
      rw [hrec] at hy
      refine ⟨fn, _, assign, body, hy, roundIn_of_wpIn hfn (hassign _ x W _ ?_)⟩
      refine ⟨_, run_beginRound hl (by rw [hrec]), ?_⟩
      obtain ⟨Wb, hWb⟩ : ∃ Wb, Wb = W.putObj (d + 1) (.loop { rec .ready none with state := .busy }) := ⟨_, rfl⟩
      have hl2 : Wb.heap[d + 1]? = some (.loop { rec .ready none with state := .busy }) := by rw [hWb]; exact World.putObj_heap_same hlt
      have hk2 : Wb.heap[d]? = some (.deferred (some [])) := by rw [hWb]; exact (World.putObj_heap_other (by omega)).trans hk
      have hi2 : I pre Wb := by rw [hWb]; exact hI.putObj _ hi (by omega) hl rfl
      have hw2 : Kp W Wb := by rw [hWb]; exact hKb _ _ _ _ (by omega) hl rfl rfl rfl
      rw [← hWb]
      refine wpIn_mono (hbody _ pre x Wb hi2 hlen) ?_
      have fin : ∀ (jump : Option Code) (W3 : World), KeepsFrom w.heap.size Wb W3 → ∃ W4, W4 = W3.putObj (d + 1) (.loop (rec (if jump.isNone then .ready else .done) jump)) ∧
          (Instr.endRound (d + 1) jump).run P W3 = .ok (.bool jump.isNone) W4 ∧ W3.heap[d + 1]? = some (.loop { rec .ready none with state := .busy }) ∧
          W4.heap[d + 1]? = some (.loop (rec (if jump.isNone then .ready else .done) jump)) ∧ W4.heap[d]? = some (.deferred (some [])) := fun jump W3 hk3 => by
        have hl3 := hk3.same _ _ (by omega) hl2 rfl
        refine ⟨_, rfl, ?_, hl3, World.putObj_heap_same (Array.getElem?_eq_some_iff.1 hl3).1, (World.putObj_heap_other (by omega)).trans (hk3.same _ _ (by omega) hk2 rfl)⟩
        have := run_endRound (P := P) jump hl3
        rw [hrec] at this ⊢
        exact this
      rintro e a3 W3 hp
      cases e with
      | normal =>
        obtain ⟨hk3, hkp3, hi3⟩ := hp
        obtain ⟨W4, e4, hr, hl3, hl4, hk4⟩ := fin none W3 hk3
        refine ⟨_, _, hr, .inl ⟨rfl, ⟨?_, hl4, hk4⟩, hKt hw2 (hKt hkp3 ?_)⟩⟩
        · rw [e4]; exact hI.putObj _ hi3 (by omega) hl3 rfl
        · rw [e4]; exact hKb _ _ _ _ (by omega) hl3 rfl rfl rfl
      | ret =>
        obtain ⟨hk3, hi3⟩ := hp
        obtain ⟨W4, e4, hr, hl3, hl4, hk4⟩ := fin (some .ret) W3 hk3
        exact ⟨_, _, hr, .inr ⟨rfl, .ret, by rw [e4]; exact (hIx _).putObj _ hi3 (by omega) hl3 rfl, hl4, hk4⟩⟩
      | exit id =>
        obtain ⟨hk3, hi3⟩ := hp
        obtain ⟨W4, e4, hr, hl3, hl4, hk4⟩ := fin (some (.exit id)) W3 hk3
        exact ⟨_, _, hr, .inr ⟨rfl, .exit id, by rw [e4]; exact (hIx _).putObj _ hi3 (by omega) hl3 rfl, hl4, hk4⟩⟩
      | goto t =>
        obtain ⟨hk3, hi3⟩ := hp
        obtain ⟨W4, e4, hr, hl3, hl4, hk4⟩ := fin (some (.goto t)) W3 hk3
        exact ⟨_, _, hr, .inr ⟨rfl, .goto t, by rw [e4]; exact (hIx _).putObj _ hi3 (by omega) hl3 rfl, hl4, hk4⟩⟩
      | panic ch => exact hp.elim
      | outgrown => exact hp.elim
    · rintro e W2 ⟨⟨v, rfl⟩, (⟨xs, hS, hi, hl, hk⟩ | ⟨pre, hSp, c, hi, hl, hk⟩)⟩
      · refine ⟨none, _, by have := run_endLoop (P := P) hl (by rw [hrec]; simp); rw [hrec] at this; exact this, ?_⟩
        have := hdone d xs (W2.putObj (d + 1) (.loop { rec .ready none with state := .exhausted })) (by omega) hS (hI.putObj _ hi (by omega) hl rfl) ((World.putObj_heap_other (by omega)).trans hk)
        rw [hrec] at this
        exact this
      · refine ⟨some c, _, by have := run_endLoop (P := P) hl (by rw [hrec]; simp); rw [hrec] at this; exact this, ?_⟩
        have := hstop d c pre (W2.putObj (d + 1) (.loop { rec .done (some c) with state := .exhausted })) (by omega) hSp ((hIx c).putObj _ hi (by omega) hl rfl) ((World.putObj_heap_other (by omega)).trans hk)
        rw [hrec] at this
        exact this

/-- Blocks of cells of a type are as they were. -/
def KpT (T : TypeId) (A B : World) : Prop := ∀ (k : Nat) (cs : Array Value) (fr : Nat × Nat), A.heap[k]? = some (.cells cs T fr) → B.heap[k]? = some (.cells cs T fr)
theorem KpT.trans {T : TypeId} {A B C : World} (h : KpT T A B) (g : KpT T B C) : KpT T A C := fun k cs fr hk => g k cs fr (h k cs fr hk)
theorem KpT.ch {T : TypeId} {A B : World} (h : Ch [] A B) : KpT T A B := fun k _ _ hk => (h.block k (Array.getElem?_eq_some_iff.1 hk).1 (by simp)).trans hk
theorem KpT.put {T : TypeId} (W : World) (l : Nat) (o o' : Obj) (h : W.heap[l]? = some o) (hc : o.isCells = false) : KpT T W (W.putObj l o') := fun k cs fr hk =>
  (World.putObj_heap_other (fun e => by subst e; rw [h] at hk; cases hk; cases hc)).trans hk
theorem KpT.set {T t : TypeId} {A W : World} {X : Nat} {v : Value} (h : KpT T A W) (hX : Boxed W X t v) (hne : t ≠ T) (u : Value) : KpT T A (W.setCell ⟨X, 0, none⟩ u) := fun k cs fr hk => by
  have h2 := h k cs fr hk
  rw [Below.heap_setCell _ ⟨X, 0, none⟩ u k (fun e => by
    subst e
    have h3 : W.heap[k]? = some (.cells #[v] t (0, 0)) := hX
    rw [h2] at h3
    cases h3
    exact hne rfl)]
  exact h2
theorem KpT.grown {T e : TypeId} {A W W' : World} {b s n : Nat} {v : Value} {xs : List Value} (h : KpT T A W) (hrow : W.ownsRow b e s v n xs) (hne : e ≠ T) (hg : W.grownBy W' v.ownBlock) : KpT T A W' := fun k cs fr hk => by
  have h2 := h k cs fr hk
  rw [hg.block k (Array.getElem?_eq_some_iff.1 h2).1 (fun e2 => ?_)]
  · exact h2
  · rcases hrow.2 with ⟨rfl, _⟩ | ⟨g, cap, cur, rfl, _, hgb, _⟩
    · cases e2
    · simp [Value.ownBlock] at e2
      subst e2
      rw [h2] at hgb
      cases hgb
      exact hne rfl
theorem own_kpT {T : TypeId} {A B : World} {b s n : Nat} {v : Value} {xs : List Value} (h : A.ownsRow b T s v n xs) (hk : KpT T A B) : B.ownsRow b T s v n xs := by
  obtain ⟨h1, h2⟩ := h
  refine ⟨h1, ?_⟩
  rcases h2 with h2 | ⟨g, cap, cur, rfl, hb, hg, r⟩
  · exact .inl h2
  · exact .inr ⟨g, cap, cur, rfl, hb, hk _ _ _ hg, r⟩
theorem Ch.grown0 {w w' : World} (h : Ch [] w w') : w.grownBy w' none := ⟨h.os, h.tape, h.output, h.size, fun k hk _ => h.block k hk (by simp)⟩
theorem ownFrom_pure {β : Type} (B : Nat) (p : β → Prop) : OwnFrom B (fun (s : β) (_ : World) => p s) := fun _ _ _ _ hs _ _ => hs
theorem ownFrom_ch {β : Type} {w : World} {B : Nat} (hB : w.heap.size ≤ B) : OwnFrom B (fun (_ : β) W => Ch [] w W) := fun _ _ _ _ hs hg hr => hs.kept hg (fun r e => Nat.le_trans hB (hr r e).1)
end Go.Proofs.YtalhlopjaijhcaaGreat

namespace Go.Proofs.YtalhlopjaijhcaaGreat

/-- A key with its value. -/
structure Ent (V : Type) where
  k : Nat
  v : V

/-- A key's bucket, of n; 0 if there are none. -/
def bk (n k : Nat) : Nat := if n = 0 then 0 else k * 11400714819323198485 % 18446744073709551616 / 4294967296 % n
theorem bk_lt {n : Nat} (h : 0 < n) (k : Nat) : bk n k < n := by
  unfold bk
  rw [if_neg (by omega)]
  exact Nat.mod_lt _ h

section
variable {V : Type}
/-- A bucket's chain. -/
def chn (n b : Nat) (L : List (Ent V)) : List (Ent V) := L.filter fun e => decide (bk n e.k = b)
def ksE (L : List (Ent V)) : List Nat := L.map (·.k)
def setE (L : List (Ent V)) (k : Nat) (v : V) : List (Ent V) := L.map fun e => if e.k = k then ⟨k, v⟩ else e
def delE (L : List (Ent V)) (k : Nat) : List (Ent V) := L.filter fun e => decide (e.k ≠ k)
/-- A key's value. -/
def valE (L : List (Ent V)) (k : Nat) : Option V := (L.find? fun e => decide (e.k = k)).map (·.v)
/-- All keys, bucket by bucket. -/
def keysE (n : Nat) (L : List (Ent V)) : List Nat := (List.range n).flatMap fun b => ksE (chn n b L)
/-- Put: behind it, was the key there, the error. -/
def putE (room : Nat) (L : List (Ent V)) (k : Nat) (v : V) : List (Ent V) × Bool × Nat :=
  if k ∈ ksE L then (setE L k v, true, 0) else if room ≤ L.length then (L, false, 3) else (⟨k, v⟩ :: L, false, 0)
/-- Del of several: behind it, how many. -/
def delsE (L : List (Ent V)) : List Nat → List (Ent V) × Nat
  | [] => (L, 0)
  | k :: r => ((delsE (delE L k) r).1, (if k ∈ ksE L then 1 else 0) + (delsE (delE L k) r).2)

/-- The chain at a number that may be no bucket's. -/
def chI (n : Nat) (L : List (Ent V)) (z : Int) : List (Ent V) := if 0 ≤ z ∧ z < n then chn n z.toNat L else []
theorem chI_in {n b : Nat} (hb : b < n) (L : List (Ent V)) : chI n L (b : Int) = chn n b L := by
  unfold chI
  rw [if_pos (by omega), Int.toNat_natCast]
theorem chI_out {n : Nat} {z : Int} (h : z < 0 ∨ (n : Int) ≤ z) (L : List (Ent V)) : chI n L z = [] := by
  unfold chI
  rw [if_neg (by omega)]
theorem chI_len (n : Nat) (L : List (Ent V)) (z : Int) : (chI n L z).length ≤ L.length := by
  unfold chI
  split
  · exact List.length_filter_le _ _
  · simp
theorem ksE_mem {L : List (Ent V)} {k : Nat} : k ∈ ksE L ↔ ∃ e ∈ L, e.k = k := by simp [ksE]
theorem ks_set (L : List (Ent V)) (k : Nat) (v : V) : ksE (setE L k v) = ksE L := by
  unfold ksE setE
  rw [List.map_map]
  apply List.map_congr_left
  intro e _
  show (if e.k = k then (⟨k, v⟩ : Ent V) else e).k = e.k
  split
  · rename_i h; exact h.symm
  · rfl
theorem set_len (L : List (Ent V)) (k : Nat) (v : V) : (setE L k v).length = L.length := by simp [setE]
theorem set_not {L : List (Ent V)} {k : Nat} (h : k ∉ ksE L) (v : V) : setE L k v = L := by
  unfold setE
  rw [← List.map_id L, List.map_map]
  apply List.map_congr_left
  intro e he
  show (if e.k = k then (⟨k, v⟩ : Ent V) else e) = e
  rw [if_neg (fun e1 => h (ksE_mem.2 ⟨e, he, e1⟩))]
theorem del_not {L : List (Ent V)} {k : Nat} (h : k ∉ ksE L) : delE L k = L := by
  unfold delE
  rw [List.filter_eq_self]
  intro e he
  exact decide_eq_true (fun e1 => h (ksE_mem.2 ⟨e, he, e1⟩))
theorem ks_del (L : List (Ent V)) (k : Nat) : ksE (delE L k) = (ksE L).filter fun x => decide (x ≠ k) := by
  unfold ksE delE
  rw [List.filter_map]
  rfl
theorem del_nodup {L : List (Ent V)} (h : (ksE L).Nodup) (k : Nat) : (ksE (delE L k)).Nodup := by
  rw [ks_del]
  exact h.filter _
theorem del_len_le (L : List (Ent V)) (k : Nat) : (delE L k).length ≤ L.length := List.length_filter_le _ _
theorem del_gone (L : List (Ent V)) (k : Nat) : k ∉ ksE (delE L k) := by
  rw [ks_del]
  simp
theorem del_len {L : List (Ent V)} (h : (ksE L).Nodup) {k : Nat} (hk : k ∈ ksE L) : (delE L k).length + 1 = L.length := by
  induction L with
  | nil => simp [ksE] at hk
  | cons e r ih =>
    have h' := h
    simp only [ksE, List.map_cons, List.nodup_cons] at h'
    by_cases e1 : e.k = k
    · subst e1
      have : delE (e :: r) e.k = delE r e.k := by simp [delE]
      rw [this, del_not (by simpa [ksE] using h'.1)]
      rfl
    · have hk2 : k ∈ ksE r := by
        simp only [ksE, List.map_cons, List.mem_cons] at hk
        rcases hk with hk | hk
        · exact absurd hk.symm e1
        · exact hk
      have : delE (e :: r) k = e :: delE r k := by simp [delE, e1]
      rw [this]
      have := ih h'.2 hk2
      simp
      omega
/-- A list about a key's place. -/
theorem at_parts {L : List (Ent V)} (h : (ksE L).Nodup) {p : Nat} {e : Ent V} (hp : L[p]? = some e) : ∃ A B, L = A ++ e :: B ∧ A.length = p ∧ e.k ∉ ksE A ∧ e.k ∉ ksE B := by
  obtain ⟨hlt, he⟩ := List.getElem?_eq_some_iff.1 hp
  refine ⟨L.take p, L.drop (p + 1), ?_, by simp; omega, ?_, ?_⟩
  · rw [← he, ← List.drop_eq_getElem_cons hlt, List.take_append_drop]
  all_goals
    have e1 : L = L.take p ++ e :: L.drop (p + 1) := by rw [← he, ← List.drop_eq_getElem_cons hlt, List.take_append_drop]
    rw [e1] at h
    simp only [ksE, List.map_append, List.map_cons, List.nodup_append, List.nodup_cons] at h
    intro hm
  · exact h.2.2 _ hm _ (by simp) rfl
  · exact h.2.1.1 hm
theorem set_at {A B : List (Ent V)} {e : Ent V} (hA : e.k ∉ ksE A) (hB : e.k ∉ ksE B) (v : V) : setE (A ++ e :: B) e.k v = A ++ ⟨e.k, v⟩ :: B := by
  have h1 := set_not hA v
  have h2 := set_not hB v
  unfold setE at *
  rw [List.map_append, List.map_cons, h1, h2, if_pos rfl]
theorem del_at {A B : List (Ent V)} {e : Ent V} (hA : e.k ∉ ksE A) (hB : e.k ∉ ksE B) : delE (A ++ e :: B) e.k = A ++ B := by
  have h1 := del_not hA
  have h2 := del_not hB
  unfold delE at *
  rw [List.filter_append, List.filter_cons, h1, h2]
  simp

theorem val_not {L : List (Ent V)} {k : Nat} (h : k ∉ ksE L) : valE L k = none := by
  unfold valE
  rw [List.find?_eq_none.2 (fun e he h2 => h (ksE_mem.2 ⟨e, he, of_decide_eq_true h2⟩))]
  rfl
theorem key_eq {L : List (Ent V)} (h : (ksE L).Nodup) {a b : Ent V} (ha : a ∈ L) (hb : b ∈ L) (e : a.k = b.k) : a = b := by
  induction L with
  | nil => cases ha
  | cons x r ih =>
    have h' := h
    simp only [ksE, List.map_cons, List.nodup_cons] at h'
    rcases List.mem_cons.1 ha with rfl | ha'
    · rcases List.mem_cons.1 hb with rfl | hb'
      · rfl
      · exact absurd (List.mem_map.2 ⟨b, hb', e.symm⟩) h'.1
    · rcases List.mem_cons.1 hb with rfl | hb'
      · exact absurd (List.mem_map.2 ⟨a, ha', e⟩) h'.1
      · exact ih h'.2 ha' hb'
theorem val_in {L : List (Ent V)} (h : (ksE L).Nodup) {x : Ent V} (hx : x ∈ L) : valE L x.k = some x.v := by
  unfold valE
  cases hf : L.find? fun e => decide (e.k = x.k) with
  | none =>
    have := List.find?_eq_none.1 hf x hx
    simp at this
  | some y =>
    have h1 := List.mem_of_find?_eq_some hf
    have h2 := List.find?_some hf
    rw [key_eq h h1 hx (of_decide_eq_true h2)]
    rfl
theorem chn_mem {n b : Nat} {L : List (Ent V)} {e : Ent V} : e ∈ chn n b L ↔ e ∈ L ∧ bk n e.k = b := by simp [chn]
theorem chn_nodup {L : List (Ent V)} (h : (ksE L).Nodup) (n b : Nat) : (ksE (chn n b L)).Nodup := by
  have : (ksE (chn n b L)).Sublist (ksE L) := List.Sublist.map _ List.filter_sublist
  exact this.nodup h
theorem chn_len (n b : Nat) (L : List (Ent V)) : (chn n b L).length ≤ L.length := List.length_filter_le _ _
theorem chn_key {n k : Nat} {L : List (Ent V)} : k ∈ ksE (chn n (bk n k) L) ↔ k ∈ ksE L := by
  rw [ksE_mem, ksE_mem]
  constructor
  · rintro ⟨e, he, rfl⟩; exact ⟨e, (chn_mem.1 he).1, rfl⟩
  · rintro ⟨e, he, rfl⟩; exact ⟨e, chn_mem.2 ⟨he, rfl⟩, rfl⟩
theorem chn_other {n k b : Nat} (hb : b ≠ bk n k) (L : List (Ent V)) : k ∉ ksE (chn n b L) := fun hm => by
  obtain ⟨e, he, rfl⟩ := ksE_mem.1 hm
  exact hb (chn_mem.1 he).2.symm
theorem chn_set (n b k : Nat) (v : V) (L : List (Ent V)) : chn n b (setE L k v) = setE (chn n b L) k v := by
  have hk : ∀ e : Ent V, (if e.k = k then (⟨k, v⟩ : Ent V) else e).k = e.k := fun e => by
    split
    · rename_i h; exact h.symm
    · rfl
  unfold chn setE
  rw [List.filter_map]
  have h2 : List.filter ((fun e : Ent V => decide (bk n e.k = b)) ∘ fun e => if e.k = k then (⟨k, v⟩ : Ent V) else e) L = List.filter (fun e => decide (bk n e.k = b)) L := by
    apply List.filter_congr
    intro e _
    rw [Function.comp_apply, hk]
  rw [h2]
theorem chn_del (n b k : Nat) (L : List (Ent V)) : chn n b (delE L k) = delE (chn n b L) k := by
  unfold chn delE
  rw [List.filter_filter, List.filter_filter]
  apply List.filter_congr
  intro e _
  exact Bool.and_comm _ _
theorem chn_set_other {n b k : Nat} (hb : b ≠ bk n k) (v : V) (L : List (Ent V)) : chn n b (setE L k v) = chn n b L := by rw [chn_set, set_not (chn_other hb L)]
theorem chn_del_other {n b k : Nat} (hb : b ≠ bk n k) (L : List (Ent V)) : chn n b (delE L k) = chn n b L := by rw [chn_del, del_not (chn_other hb L)]
theorem chn_cons {n : Nat} (e : Ent V) (L : List (Ent V)) : chn n (bk n e.k) (e :: L) = e :: chn n (bk n e.k) L := by
  unfold chn
  rw [List.filter_cons, if_pos (decide_eq_true rfl)]
theorem chn_cons_other {n b : Nat} {e : Ent V} (hb : b ≠ bk n e.k) (L : List (Ent V)) : chn n b (e :: L) = chn n b L := by
  unfold chn
  rw [List.filter_cons, if_neg (by simp; exact fun h => hb h.symm)]
/-- How many stand in the first m chains. -/
def lenE (n : Nat) (L : List (Ent V)) : Nat → Nat
  | 0 => 0
  | m + 1 => lenE n L m + (chn n m L).length
theorem lenE_cons (n : Nat) (e : Ent V) (L : List (Ent V)) : ∀ m, lenE n (e :: L) m = lenE n L m + if bk n e.k < m then 1 else 0
  | 0 => by simp [lenE]
  | m + 1 => by
    unfold lenE
    rw [lenE_cons n e L m]
    by_cases h : m = bk n e.k
    · subst h
      rw [chn_cons, if_neg (by omega), if_pos (by omega), List.length_cons]
      omega
    · rw [chn_cons_other h]
      by_cases h2 : bk n e.k < m
      · rw [if_pos h2, if_pos (by omega)]; omega
      · rw [if_neg h2, if_neg (by omega)]; omega
theorem lenE_nil (n : Nat) : ∀ m, lenE n ([] : List (Ent V)) m = 0
  | 0 => rfl
  | m + 1 => by
    unfold lenE
    rw [lenE_nil n m]
    rfl
theorem lenE_all {n : Nat} (h : 0 < n) : ∀ L : List (Ent V), lenE n L n = L.length
  | [] => lenE_nil n n
  | e :: L => by
    rw [lenE_cons, if_pos (bk_lt h e.k), lenE_all h L]
    rfl
theorem lenE_le {n : Nat} (L : List (Ent V)) {m : Nat} (d : Nat) : lenE n L m ≤ lenE n L (m + d) := by
  induction d with
  | zero => exact Nat.le_refl _
  | succ d ih => exact Nat.le_trans ih (Nat.le_add_right _ _)
theorem keys_len (n : Nat) (L : List (Ent V)) : ∀ m, ((List.range m).flatMap fun b => ksE (chn n b L)).length = lenE n L m
  | 0 => rfl
  | m + 1 => by
    rw [List.range_succ, List.flatMap_append, List.length_append, keys_len n L m]
    simp [lenE, ksE]
theorem range_snoc' {k m : Nat} (h : k < m) : List.range k ++ [k] <+: List.range m := by
  rw [← List.range_succ, show List.range (k + 1) = (List.range m).take (k + 1) by rw [List.take_range, Nat.min_eq_left (by omega)]]
  exact List.take_prefix _ _
theorem range_pre {pre : List Nat} {m : Nat} (h : pre <+: List.range m) : pre = List.range pre.length ∧ pre.length ≤ m := by
  have hl := h.length_le
  rw [List.length_range] at hl
  refine ⟨?_, hl⟩
  have := List.prefix_iff_eq_take.1 h
  rw [this, List.take_range]
  simp [Nat.min_eq_left hl]
/-- The keys of the first m chains. -/
def keysN (n : Nat) (L : List (Ent V)) (m : Nat) : List Nat := (List.range m).flatMap fun b => ksE (chn n b L)
theorem keysN_succ (n : Nat) (L : List (Ent V)) (m : Nat) : keysN n L (m + 1) = keysN n L m ++ ksE (chn n m L) := by
  unfold keysN
  rw [List.range_succ, List.flatMap_append]
  simp
theorem keysN_len (n : Nat) (L : List (Ent V)) (m : Nat) : (keysN n L m).length = lenE n L m := keys_len n L m
theorem keysE_len {n : Nat} (h : 0 < n) (L : List (Ent V)) : (keysE n L).length = L.length := by
  unfold keysE
  rw [keys_len, lenE_all h]
theorem putE_nodup {room : Nat} {L : List (Ent V)} (h : (ksE L).Nodup) (k : Nat) (v : V) : (ksE (putE room L k v).1).Nodup := by
  unfold putE
  split
  · rw [ks_set]; exact h
  · split
    · exact h
    · rename_i h1 _
      exact List.nodup_cons.2 ⟨h1, h⟩
theorem putE_len {room : Nat} {L : List (Ent V)} (h : L.length ≤ room) (k : Nat) (v : V) : (putE room L k v).1.length ≤ room := by
  unfold putE
  split
  · rw [set_len]; exact h
  · split
    · exact h
    · simp; omega
theorem delsE_nodup : ∀ (l : List Nat) {L : List (Ent V)}, (ksE L).Nodup → (ksE (delsE L l).1).Nodup
  | [], _, h => h
  | k :: r, _, h => delsE_nodup r (del_nodup h k)
end

theorem delsE_step {V : Type} {L L0 : List (Ent V)} {zs : List Nat} {i k c : Nat} (hk : zs[i]? = some k) (h : delsE L0 zs = ((delsE L (zs.drop i)).1, c + (delsE L (zs.drop i)).2)) :
    delsE L0 zs = ((delsE (delE L k) (zs.drop (i + 1))).1, (c + if k ∈ ksE L then 1 else 0) + (delsE (delE L k) (zs.drop (i + 1))).2) := by
  obtain ⟨hlt, he⟩ := List.getElem?_eq_some_iff.1 hk
  rw [h, List.drop_eq_getElem_cons hlt, he]
  show ((delsE (delE L k) (zs.drop (i + 1))).1, c + ((if k ∈ ksE L then 1 else 0) + (delsE (delE L k) (zs.drop (i + 1))).2)) = _
  rw [Nat.add_assoc]
theorem delsE_end {V : Type} {L L0 : List (Ent V)} {zs : List Nat} {c : Nat} (h : delsE L0 zs = ((delsE L (zs.drop zs.length)).1, c + (delsE L (zs.drop zs.length)).2)) : delsE L0 zs = (L, c) := by
  rw [h, List.drop_length]
  rfl
theorem delsE_le {V : Type} : ∀ (zs : List Nat) (L : List (Ent V)), (delsE L zs).2 ≤ zs.length
  | [], _ => Nat.le_refl _
  | k :: r, L => by
    have := delsE_le r (delE L k)
    show (if k ∈ ksE L then 1 else 0) + (delsE (delE L k) r).2 ≤ r.length + 1
    split <;> omega
/-- Cells laid over others, from o on. -/
def spl (c : Array Value) : Nat → List Value → Array Value
  | _, [] => c
  | o, v :: r => spl (c.setIfInBounds o v) (o + 1) r
theorem spl_size : ∀ (vs : List Value) (c : Array Value) (o : Nat), (spl c o vs).size = c.size
  | [], _, _ => rfl
  | v :: r, c, o => by rw [spl, spl_size r, Array.size_setIfInBounds]
theorem spl_list : ∀ (vs : List Value) (c : Array Value) (o : Nat), o + vs.length ≤ c.size → (spl c o vs).toList = c.toList.take o ++ vs ++ c.toList.drop (o + vs.length)
  | [], c, o, _ => by simp [spl]
  | v :: r, c, o, h => by
    have h2 : o + 1 + r.length ≤ (c.setIfInBounds o v).size := by rw [Array.size_setIfInBounds]; simp at h; omega
    have ho : o < c.toList.length := by simp at h ⊢; omega
    rw [spl, spl_list r _ _ h2, Array.toList_setIfInBounds, List.take_set, List.drop_set, if_pos (by omega), List.take_succ_eq_append_getElem ho, List.set_append_right _ _ (by rw [List.length_take]; exact Nat.min_le_left _ _), List.length_take,
      show o - min o c.toList.length = 0 by omega, List.length_cons, show o + 1 + r.length = o + (r.length + 1) by omega]
    simp
/-- A row moved on by two cells, two cells laid ahead of it. -/
theorem shift_list (l c q : List Value) (hq : q.length = 2) (hl : c.length + 2 ≤ l.length) (N : Nat) (hN : N = 2 + c.length) :
    (((l.take 2 ++ c ++ l.drop (2 + c.length)).take 0 ++ q ++ (l.take 2 ++ c ++ l.drop (2 + c.length)).drop (0 + q.length)).take N) = q ++ c := by
  have h1 : (l.take 2 ++ c ++ l.drop (2 + c.length)).drop (0 + q.length) = c ++ l.drop (2 + c.length) := by
    rw [hq, List.append_assoc]
    exact List.drop_left' (by rw [List.length_take]; omega)
  rw [h1, List.take_zero, List.nil_append, ← List.append_assoc]
  exact List.take_left' (by rw [List.length_append, hq, hN])
/-- Two cells ahead of a row, in new cells. -/
theorem fresh_list (l c q : List Value) (hq : q.length = 2) (_ : c.length + 2 ≤ l.length) (N : Nat) (hN : N = 2 + c.length) :
    (((l.take 0 ++ q ++ l.drop (0 + q.length)).take 2 ++ c ++ (l.take 0 ++ q ++ l.drop (0 + q.length)).drop (2 + c.length)).take N) = q ++ c := by
  have h1 : (l.take 0 ++ q ++ l.drop (0 + q.length)).take 2 = q := by
    rw [List.take_zero, List.nil_append]
    exact List.take_left' hq
  rw [h1]
  exact List.take_left' (by rw [List.length_append, hq, hN])
/-- A row without two cells in its middle. -/
theorem cut_list (A Y Z R z : List Value) (_ : Y.length = 2) (_ : z.length = 2) (N : Nat) (hN : N = A.length + Z.length) :
    ((((A ++ Y ++ Z ++ R).take A.length ++ Z ++ (A ++ Y ++ Z ++ R).drop (A.length + Z.length)).take (A.length + Z.length) ++ z ++ ((A ++ Y ++ Z ++ R).take A.length ++ Z ++ (A ++ Y ++ Z ++ R).drop (A.length + Z.length)).drop (A.length + Z.length + z.length)).take N) = A ++ Z := by
  have h1 : (A ++ Y ++ Z ++ R).take A.length = A := by
    rw [List.append_assoc, List.append_assoc]
    exact List.take_left' rfl
  have h2 : (A ++ Z ++ (A ++ Y ++ Z ++ R).drop (A.length + Z.length)).take (A.length + Z.length) = A ++ Z := List.take_left' (by rw [List.length_append])
  rw [h1, h2, List.append_assoc (A ++ Z)]
  exact List.take_left' (by rw [List.length_append, hN])
end Go.Proofs.YtalhlopjaijhcaaGreat

namespace Go.Proofs.YtalhlopjaijhcaaGreat
open Go.RowKit Go.Shelf

attribute [local go_sem] Oper.semAt_some

/-- The marks that rounds have left: each its own block, between n₀ and B, with nothing handed over. -/
def Marks (n₀ B : Nat) (w : World) : List Deferred → Prop
  | [] => True
  | d :: ds => (∃ D, d = { target := .collected D, args := #[] } ∧ n₀ ≤ D ∧ D < B ∧ w.heap[D]? = some (.deferred (some [])) ∧ ∀ d' ∈ ds, d'.target ≠ .collected D) ∧ Marks n₀ B w ds
theorem Marks.keep {n₀ B B' : Nat} {w w' : World} (hB : B ≤ B') (h : ∀ D, n₀ ≤ D → D < B → w.heap[D]? = some (.deferred (some [])) → w'.heap[D]? = some (.deferred (some []))) : ∀ {ds : List Deferred}, Marks n₀ B w ds → Marks n₀ B' w' ds
  | [], _ => trivial
  | _ :: _, ⟨⟨D, h1, h2, h3, h4, h5⟩, h6⟩ => ⟨⟨D, h1, h2, by omega, h D h2 h3 h4, h5⟩, Marks.keep hB h h6⟩
theorem Marks.lt {n₀ B : Nat} {w : World} : ∀ {ds : List Deferred}, Marks n₀ B w ds → ∀ d ∈ ds, ∃ D, d.target = .collected D ∧ D < B
  | [], _, _, hd => by cases hd
  | _ :: _, ⟨⟨D, h1, _, h3, _⟩, h6⟩, d, hd => by
    rcases List.mem_cons.1 hd with rfl | hd
    · exact ⟨D, by rw [h1], h3⟩
    · exact h6.lt d hd
theorem Marks.ch {n₀ B : Nat} {S : List Nat} {w w' : World} {ds : List Deferred} (h : Marks n₀ B w ds) (hc : Ch S w w') (hS : ∀ k ∈ S, ∃ o, w.heap[k]? = some o ∧ o.isCells = true) : Marks n₀ B w' ds :=
  h.keep (Nat.le_refl _) fun D _ _ hD => (hc.block D (Array.getElem?_eq_some_iff.1 hD).1 (fun hm => by
    obtain ⟨o, h1, h2⟩ := hS D hm
    rw [hD] at h1
    cases h1
    cases h2)).trans hD
theorem Marks.own {n₀ B : Nat} {ds : List Deferred} {β : Type} : OwnFrom B (fun (_ : β) W => Marks n₀ B W ds) := fun _ W W' row h hg hr =>
  h.keep (Nat.le_refl _) fun D _ hlt hD => (hg.block D (Array.getElem?_eq_some_iff.1 hD).1 (fun e => by have := (hr D e.symm).1; omega)).trans hD
/-- The marks are taken over one behind the other. -/
theorem leaves_marks {F : Fence} {n : Nat} {P : Program} {fn : Func} {tmps : Array Value} {R : Ending → World → Prop} {n₀ B : Nat} {w0 : World} {v : Value} (hres : ∀ W, (results fn tmps).run P W = .ok v W) (hR : ∀ W, Below n₀ w0 W → R (.returned v) W) :
    ∀ (ds : List Deferred) (w : World), Marks n₀ B w ds → Below n₀ w0 w → LeavesInM F n P fn tmps R ds .returning w
  | [], w, _, hb => ⟨v, hres w, hR w hb⟩
  | d :: ds, w, ⟨⟨D, h1, h2, h3, h4, h5⟩, h6⟩, hb => by
    have hlt := (Array.getElem?_eq_some_iff.1 h4).1
    refine ⟨by simp, .inl ⟨D, _, by rw [h1], run_takeDeferred h4, ?_⟩⟩
    refine leaves_marks (B := B) hres hR ds _ ?_ (hb.trans ((Below.refl n₀ w).grown (grownBy_putObj' w D _) (by omega) (fun k e => by cases e; omega)))
    have key : ∀ (es : List Deferred), (∀ d' ∈ es, d'.target ≠ .collected D) → Marks n₀ B w es → Marks n₀ B (w.putObj D (.deferred none)) es := by
      intro es
      induction es with
      | nil => exact fun _ _ => trivial
      | cons e es ih =>
        rintro hne ⟨⟨D', g1, g2, g3, g4, g5⟩, g6⟩
        refine ⟨⟨D', g1, g2, g3, ?_, g5⟩, ih (fun d' hd' => hne d' (List.mem_cons_of_mem _ hd')) g6⟩
        have : D' ≠ D := fun e2 => hne e (by simp) (by rw [g1, e2])
        exact (World.putObj_heap_other this).trans g4
    exact key ds h5 h6

/-- Blocks of cells are as they were. -/
def CK (A B : World) : Prop := ∀ (k : Nat) (cs : Array Value) (t : TypeId) (fr : Nat × Nat), A.heap[k]? = some (.cells cs t fr) → B.heap[k]? = some (.cells cs t fr)
theorem CK.refl (A : World) : CK A A := fun _ _ _ _ h => h
theorem CK.trans {A B C : World} (h : CK A B) (g : CK B C) : CK A C := fun k cs t fr hk => g k cs t fr (h k cs t fr hk)
theorem CK.put (W : World) (l : Nat) (o o' : Obj) (h : W.heap[l]? = some o) (hc : o.isCells = false) : CK W (W.putObj l o') := fun k cs t fr hk =>
  (World.putObj_heap_other (fun e => by subst e; rw [h] at hk; cases hk; cases hc)).trans hk
theorem CK.grown {W W' : World} {row : Option Nat} (hg : W.grownBy W' row) (hr : ∀ r, row = some r → ∃ o, W.heap[r]? = some o ∧ o.isCells = false) : CK W W' := fun k cs t fr hk =>
  (hg.block k (Array.getElem?_eq_some_iff.1 hk).1 (fun e => by
    obtain ⟨o, h1, h2⟩ := hr k e.symm
    rw [hk] at h1
    cases h1
    cases h2)).trans hk
theorem CK.row {A B : World} (hk : CK A B) {b t s n : Nat} {v : Value} {xs : List Value} (h : A.ownsRow b t s v n xs) : B.ownsRow b t s v n xs := by
  obtain ⟨h1, h2⟩ := h
  refine ⟨h1, ?_⟩
  rcases h2 with h2 | ⟨g, cap, cur, rfl, hb, hg, r⟩
  · exact .inl h2
  · exact .inr ⟨g, cap, cur, rfl, hb, hk _ _ _ _ hg, r⟩
/-- The marks are taken over one behind the other; what lay in cells stays. -/
theorem leaves_marks_ck {F : Fence} {n : Nat} {P : Program} {fn : Func} {tmps : Array Value} {R : Ending → World → Prop} {n₀ B : Nat} {w0 : World} {v : Value} (hres : ∀ W, (results fn tmps).run P W = .ok v W) (hR : ∀ W, Below n₀ w0 W → CK w0 W → R (.returned v) W) :
    ∀ (ds : List Deferred) (w : World), Marks n₀ B w ds → Below n₀ w0 w → CK w0 w → LeavesInM F n P fn tmps R ds .returning w
  | [], w, _, hb, hk => ⟨v, hres w, hR w hb hk⟩
  | d :: ds, w, ⟨⟨D, h1, h2, h3, h4, h5⟩, h6⟩, hb, hk => by
    have hlt := (Array.getElem?_eq_some_iff.1 h4).1
    refine ⟨by simp, .inl ⟨D, _, by rw [h1], run_takeDeferred h4, ?_⟩⟩
    refine leaves_marks_ck (B := B) hres hR ds _ ?_ (hb.trans ((Below.refl n₀ w).grown (grownBy_putObj' w D _) (by omega) (fun k e => by cases e; omega))) (hk.trans (CK.put w D _ _ h4 rfl))
    have key : ∀ (es : List Deferred), (∀ d' ∈ es, d'.target ≠ .collected D) → Marks n₀ B w es → Marks n₀ B (w.putObj D (.deferred none)) es := by
      intro es
      induction es with
      | nil => exact fun _ _ => trivial
      | cons e es ih =>
        rintro hne ⟨⟨D', g1, g2, g3, g4, g5⟩, g6⟩
        refine ⟨⟨D', g1, g2, g3, ?_, g5⟩, ih (fun d' hd' => hne d' (List.mem_cons_of_mem _ hd')) g6⟩
        have : D' ≠ D := fun e2 => hne e (by simp) (by rw [g1, e2])
        exact (World.putObj_heap_other this).trans g4
    exact key ds h5 h6

/-- An operation that is no defer statement. -/
def plainOp (o : Oper) : Bool := match o.op with
  | .defer _ => false
  | _ => true
theorem plainOp_spec {o : Oper} (h : plainOp o = true) : ∀ c, o.op ≠ .defer c := by
  intro c e
  unfold plainOp at h
  rw [e] at h
  cases h
theorem opIn_round {l n : Nat} {P : Program} {o : Oper} {a : Act} {w : World} {K : Act → World → Prop} {Q : Exit → Act → World → Prop} (hp : plainOp o = true) (h : o.wp P a w K Q) : o.wpIn (Fence.wide.inRound l) n P a w K Q := by
  have hd := plainOp_spec hp
  unfold Oper.wpIn
  refine ⟨fun _ _ => trivial, ?_⟩
  rw [show (Fence.wide.inRound l).round = some l from rfl, Oper.semAt_some l _ _ hd]
  unfold Oper.wp at h
  generalize (execOp a.eval o).run P w = r at *
  cases r with
  | ok x w' =>
    cases x
    case enter f args =>
      rw [Oper.upon_enter] at h
      rw [Oper.uponIn_enter]
      refine ⟨fun e => (by cases e), ?_⟩
      refine (CallsIn.inRound l (callsIn_wide.2 h)).mono ?_
      intro e w2 he
      cases e <;> exact he
    case row row args =>
      rw [Oper.upon_row] at h
      rw [Oper.uponIn_row]
      refine ⟨fun e => (by cases e), ?_⟩
      intro c cs _
      obtain ⟨v, w2, r, s⟩ := h c cs
      exact ⟨v, w2, r, stepsIn_wide.2 s⟩
    all_goals first | exact h | exact h.elim
  | halt x w' => cases x <;> exact h
theorem wpOps_round {l n : Nat} {P : Program} {ops : Array Oper} {Q : Exit → Act → World → Prop} (hp : ∀ (j : Nat) (o : Oper), ops[j]? = some o → plainOp o = true) (hL : ¬ LetsOut Q) :
    ∀ (is : List Nat) (a : Act) (w : World), wpOps P ops Q is a w → wpOpsIn (Fence.wide.inRound l) n P ops Q is a w
  | [], _, _, h => h
  | i :: rest, a, w, h => by
    unfold wpOps at h
    unfold wpOpsIn
    cases ho : ops[i]? with
    | none =>
      rw [ho] at h
      exact wpOps_round hp hL rest a w h
    | some o =>
      rw [ho] at h
      simp only at h ⊢
      split
      · rename_i hw
        rw [if_pos hw] at h
        rcases h with h | ⟨_, h⟩
        · exact Oper.wpIn_mono (fun a w => wpOps_round hp hL rest a w) (opIn_round (hp i o ho) h)
        · exact absurd h hL
      · rename_i hw
        rw [if_neg hw] at h
        exact ⟨fun _ _ => trivial, wpOps_round hp hL rest _ w h⟩
/-- A region that draws its order, in a round: whatever is held, by the moves of a plain one. -/
theorem wpIn_region_round {l n : Nat} {P : Program} {S : World → Prop} {id : Nat} {ops : Array Oper} {Q : Exit → Act → World → Prop} {a : Act} {w : World} (hm : P.follows .mixedOrders = true) (hp : ops.all plainOp = true) (hL : ¬ LetsOut Q) (hS : S w.drew)
    (h : S w.drew → wpAnyH P .any ops Q S ops.size (Array.replicate ops.size false) a w.drew) : (Code.region id ops true).wpIn (Fence.wide.inRound l) n P Q a w :=
  wpIn_region_draw fun t => by
    simp only [Region.schedule, hm, Bool.true_or, if_true]
    refine wpOps_round (fun j o ho => ?_) hL _ _ _ (wpAny_sound ops.size t _ a _ (wpAny_of_held _ _ _ _ (h hS)))
    obtain ⟨hlt, rfl⟩ := Array.getElem?_eq_some_iff.1 ho
    exact (Array.all_eq_true.1 hp) j hlt

/-- The others first, then the last, which waits for all of them: as what a region asks. -/
theorem wpAny_region_last {P : Program} {Q : Exit → Act → World → Prop} {hd : List Oper} {z : Oper} {a : Act} {w : World} 
    (hb : ((List.range hd.length).all fun i => (z.after.any fun e => Region.binds .any e && e.on == i) || (List.range hd.length).any fun j => decide (i < j) && match hd[j]? with | some o => o.after.any fun e => Region.binds .any e && e.on == i | none => false) && (z.after.all fun e => decide (e.on < hd.length)) && ((List.range hd.length).all fun i => match hd[i]? with | some o => o.guard.isNone && o.after.all fun e => decide (e.on < i) | none => true) && z.guard.isNone = true)
    (S : World → Prop) (hS : S w.drew) (h : S w.drew → wpAnyH P .any hd.toArray (lastPost P z Q) S hd.length (Array.replicate hd.length false) a w.drew) : wpAny P .any (hd ++ [z]).toArray Q (hd ++ [z]).toArray.size (Array.replicate (hd ++ [z]).toArray.size false) a w.drew := by
  simp only [Bool.and_eq_true] at hb
  obtain ⟨⟨⟨b1, b2⟩, b3⟩, b4⟩ := hb
  have c3 : ∀ (i : Nat) (o : Oper), hd.toArray[i]? = some o → o.guard = none ∧ ∀ e ∈ o.after, e.on < i := fun i o ho => by
    have hs : i < hd.length := by simpa using (Array.getElem?_eq_some_iff.1 ho).1
    have := List.all_eq_true.1 b3 i (List.mem_range.2 hs)
    rw [show hd[i]? = some o by simpa using ho] at this
    simp only [Bool.and_eq_true, Option.isNone_iff_eq_none] at this
    refine ⟨this.1, fun e he => ?_⟩
    have := Array.all_eq_true'.1 this.2 e he
    simpa using this
  have key := wpAny_last (P := P) (Q := Q) (S := S) (hd := hd.toArray) (z := z) (fun i hi => by
      have := List.all_eq_true.1 b1 i (List.mem_range.2 (by simpa using hi))
      rw [Bool.or_eq_true] at this
      rcases this with this | this
      · obtain ⟨e, he, h2⟩ := Array.any_eq_true'.1 this
        simp only [Bool.and_eq_true, beq_iff_eq] at h2
        exact .inl ⟨e, he, h2.1, h2.2⟩
      · obtain ⟨j, hj, h2⟩ := List.any_eq_true.1 this
        rw [Bool.and_eq_true] at h2
        obtain ⟨h3, h4⟩ := h2
        have hj := List.mem_range.1 hj
        have ho : hd[j]? = some hd[j] := by simp [hj]
        rw [ho] at h4
        obtain ⟨e, he, h5⟩ := Array.any_eq_true'.1 h4
        simp only [Bool.and_eq_true, beq_iff_eq] at h5
        exact .inr ⟨j, hd[j], by simpa using h3, by simp, e, he, h5.1, h5.2⟩) (fun e he => by have := Array.all_eq_true'.1 b2 e he; simpa using this) (fun i o ho => (c3 i o ho).2) (fun i o ho => (c3 i o ho).1) (by simpa using b4)
    hd.length (Array.replicate hd.length false) a w.drew (by simp) (fun j o ho hj => by
      exfalso
      have : j < hd.length := by simpa using (Array.getElem?_eq_some_iff.1 ho).1
      simp [this] at hj) (h hS)
  have e1 : (hd ++ [z]).toArray = hd.toArray.push z := by simp
  have e2 : Array.replicate (hd.toArray.push z).size false = (Array.replicate hd.length false).push false := by simp [Array.replicate_succ]
  rw [e1, e2, show (hd.toArray.push z).size = hd.length + 1 by simp]
  exact key
/-- A region that draws its order and whose last operation waits for all others, in a round. -/
theorem wpIn_region_roundL {l n : Nat} {P : Program} {id : Nat} {ops : List Oper} {Q : Exit → Act → World → Prop} {a : Act} {w : World} (z : Oper) (hm : P.follows .mixedOrders = true) (hp : ops.toArray.all plainOp = true) (hL : ¬ LetsOut Q) (hl : ops = ops.dropLast ++ [z])
    (hb : ((List.range ops.dropLast.length).all fun i => (z.after.any fun e => Region.binds .any e && e.on == i) || (List.range ops.dropLast.length).any fun j => decide (i < j) && match ops.dropLast[j]? with | some o => o.after.any fun e => Region.binds .any e && e.on == i | none => false) && (z.after.all fun e => decide (e.on < ops.dropLast.length)) && ((List.range ops.dropLast.length).all fun i => match ops.dropLast[i]? with | some o => o.guard.isNone && o.after.all fun e => decide (e.on < i) | none => true) && z.guard.isNone = true)
    (S : World → Prop) (hS : S w.drew) (h : S w.drew → wpAnyH P .any ops.dropLast.toArray (lastPost P z Q) S ops.dropLast.length (Array.replicate ops.dropLast.length false) a w.drew) : (Code.region id ops.toArray true).wpIn (Fence.wide.inRound l) n P Q a w :=
  wpIn_region_draw fun t => by
    simp only [Region.schedule, hm, Bool.true_or, if_true]
    have key := wpAny_region_last (Q := Q) hb S hS h
    rw [← hl] at key
    refine wpOps_round (fun j o ho => ?_) hL _ _ _ (wpAny_sound ops.toArray.size t _ a _ key)
    obtain ⟨hlt, rfl⟩ := Array.getElem?_eq_some_iff.1 ho
    exact (Array.all_eq_true.1 hp) j hlt

/-- What a block holds behind cells that are laid. -/
theorem heap_setCell_same (w : World) (b k : Nat) (cur : Array Value) (t : TypeId) (v : Value) (h : w.heap[b]? = some (.cells cur t (0, 0))) : (w.setCell ⟨b, k, none⟩ v).heap[b]? = some (.cells (cur.setIfInBounds k v) t (0, 0)) := by
  obtain ⟨hlt, hk⟩ := Array.getElem?_eq_some_iff.1 h
  show (w.heap.modify b _)[b]? = _
  rw [Array.getElem?_eq_getElem (by rw [Array.size_modify]; exact hlt), Array.getElem_modify_self, hk]
  rfl
theorem heap_setCells : ∀ (vs : List Value) (w : World) (b o : Nat) (cur : Array Value) (t : TypeId), w.heap[b]? = some (.cells cur t (0, 0)) → (w.setCells b o vs).heap[b]? = some (.cells (spl cur o vs) t (0, 0))
  | [], _, _, _, _, _, h => h
  | v :: r, w, b, o, cur, t, h => by
    rw [World.setCells, spl]
    exact heap_setCells r _ b (o + 1) _ t (heap_setCell_same w b o cur t v h)
theorem ch_setCells {S : List Nat} {a : World} (b : Nat) (hb : b ∈ S ∨ a.heap.size ≤ b) : ∀ (vs : List Value) (o : Nat) {w : World}, Ch S a w → Ch S a (w.setCells b o vs)
  | [], _, _, h => h
  | v :: r, o, _, h => by
    rw [World.setCells]
    exact ch_setCells b hb r (o + 1) (h.setCell2 (p := ⟨b, o, none⟩) hb v)
/-- Cells of a plain block. -/
theorem cell_plain {w : World} {b : Nat} {cur : Array Value} {t : TypeId} (h : w.heap[b]? = some (.cells cur t (0, 0))) (j : Nat) : w.cell? ⟨b, j, none⟩ = cur[j]? ∧ w.frozen? ⟨b, j, none⟩ = false := by
  refine ⟨by simp [World.cell?, h], by simp [World.frozen?, h]⟩
end Go.Proofs.YtalhlopjaijhcaaGreat

namespace Go.Proofs.YtalhlopjaijhcaaGreat
open Go.RowKit

attribute [local go_sem] Oper.semAt_some

theorem may_any (m : Int) (w : World) : Calls Tryz.prog 69 #[.int .i64 m] w fun e w' => e = .returned (.bool (decide (1 ≤ m ∧ m ≤ 64))) ∧ w' = w := by
  by_cases h1 : 1 ≤ m
  · by_cases h2 : m ≤ 64
    · have hd : decide (1 ≤ m ∧ m ≤ 64) = true := decide_eq_true ⟨h1, h2⟩
      rw [hd]
      clear hd
      go_enter Tryz.func69, Tryz.ntmps69
      go_wp2
      go_ret
      exact ⟨rfl, rfl⟩
    · have hd : decide (1 ≤ m ∧ m ≤ 64) = false := decide_eq_false (fun h => h2 h.2)
      rw [hd]
      clear hd
      go_enter Tryz.func69, Tryz.ntmps69
      go_wp2
      go_ret
      exact ⟨rfl, rfl⟩
  · have hd : decide (1 ≤ m ∧ m ≤ 64) = false := decide_eq_false (fun h => h1 h.1)
    rw [hd]
    clear hd
    go_enter Tryz.func69, Tryz.ntmps69
    go_wp2
    go_ret
    exact ⟨rfl, rfl⟩

/-- Words as the elements of a slice. -/
def u64s (l : List Nat) : List Value := l.map fun (i : Nat) => Value.int .u64 (i : Int)
theorem u64s_one (l : List Nat) : ∀ v ∈ u64s l, v.oneCell' = true := by intro v hv; obtain ⟨k, _, rfl⟩ := List.mem_map.1 hv; rfl
theorem u64s_append (a b : List Nat) : u64s (a ++ b) = u64s a ++ u64s b := List.map_append
theorem u64s_len (l : List Nat) : (u64s l).length = l.length := List.length_map _
theorem infoU : (Tryz.prog.info? 40).map (fun i => (i.zero, i.size, i.bytes)) = some (some (.int .u64 0), 1, 8) := by kernel_rfl
end Go.Proofs.YtalhlopjaijhcaaGreat

namespace Go.Proofs.YtalhlopjaijhcaaGreat
open Go.RowKit

theorem run_copy_k {P : Program} (w : World) (dT sT ty elem : TypeId) (size b o dLen dCap : Nat) (a : Addr) (sLen sCap : Nat) (cs : List Value) (hu : P.underlying dT = some (.slice elem)) (hs : (P.info? elem).map (·.size) = some size)
    (hn : cs.length = Nat.min sLen dLen * size) (hsrc : ∀ j v, cs[j]? = some v → w.cell? (a.add j) = some v) (hc : ∀ j, j < cs.length → (w.cell? ⟨b, o + j, none⟩).isSome = true) (hf : ∀ j, j < cs.length → w.frozen? ⟨b, o + j, none⟩ = false) (h1 : ∀ v ∈ cs, v.oneCell' = true) :
    (Builtin.copy_ #[dT, sT] ty #[.slice (some ⟨b, o, none⟩) dLen dCap, .slice (some a) sLen sCap]).run P w = .ok (goInt (Nat.min sLen dLen)) (w.setCells b o cs) := by
  have hl := run_loadCells_list (P := P) w a cs hsrc
  have hst := run_storeCells_cells (P := P) b o cs 0 w (by simpa using hc) (by simpa using hf) h1
  cases hq : P.info? elem with
  | none => simp [hq] at hs
  | some i =>
    have hi : i.size = size := by simpa [hq] using hs
    rw [hn] at hl
    simp only [Nat.add_zero] at hst
    simp [Builtin.copy_, run_underlying hu, Builtin.lenOf, Builtin.firstCells, sizeOf, typeInfo, hq, hi, hl, hst]
/-- The same over a plain block, from anywhere. -/
theorem run_copy_blk {P : Program} (w : World) (dT sT ty elem : TypeId) (size b o dLen dCap : Nat) (a : Addr) (sLen sCap : Nat) (cs : List Value) {cur : Array Value} {t : TypeId} (hu : P.underlying dT = some (.slice elem)) (hs : (P.info? elem).map (·.size) = some size)
    (hb : w.heap[b]? = some (.cells cur t (0, 0))) (hfit : o + cs.length ≤ cur.size) (hn : cs.length = Nat.min sLen dLen * size) (hsrc : ∀ j v, cs[j]? = some v → w.cell? (a.add j) = some v) (h1 : ∀ v ∈ cs, v.oneCell' = true) :
    (Builtin.copy_ #[dT, sT] ty #[.slice (some ⟨b, o, none⟩) dLen dCap, .slice (some a) sLen sCap]).run P w = .ok (goInt (Nat.min sLen dLen)) (w.setCells b o cs) :=
  run_copy_k w dT sT ty elem size b o dLen dCap a sLen sCap cs hu hs hn hsrc (fun j hj => by rw [(cell_plain hb _).1, Array.getElem?_eq_getElem (by omega)]; rfl) (fun j _ => (cell_plain hb _).2) h1
end Go.Proofs.YtalhlopjaijhcaaGreat

namespace Go.Proofs.YtalhlopjaijhcaaGreat

/-- A key with its touch. -/
structure Tch (α : Type) where
  k : α
  t : Nat

section
variable {α : Type} [DecidableEq α]

/-- Without a key. -/
def drp (L : List α) (k : α) : List α := L.filter fun x => decide (x ≠ k)
def wo (L : List (Tch α)) (k : α) : List (Tch α) := L.filter fun x => decide (x.k ≠ k)
def ks (L : List (Tch α)) : List α := L.map (·.k)
theorem mem_drp {L : List α} {k x : α} : x ∈ drp L k ↔ x ∈ L ∧ x ≠ k := by simp [drp]
theorem mem_wo {L : List (Tch α)} {k : α} {x : Tch α} : x ∈ wo L k ↔ x ∈ L ∧ x.k ≠ k := by simp [wo]
theorem ks_wo (L : List (Tch α)) (k : α) : ks (wo L k) = drp (ks L) k := by
  unfold ks wo drp
  rw [List.filter_map]
  rfl
theorem drp_not {L : List α} {k : α} (h : k ∉ L) : drp L k = L := List.filter_eq_self.2 (fun x hx => by simp; exact fun e => h (e ▸ hx))
theorem wo_not {L : List (Tch α)} {k : α} (h : ∀ e ∈ L, e.k ≠ k) : wo L k = L := List.filter_eq_self.2 (fun x hx => by simpa using h x hx)
theorem drp_nodup {L : List α} (h : L.Nodup) (k : α) : (drp L k).Nodup := h.filter _
theorem drp_parts {A B : List α} {k : α} (h : (A ++ k :: B).Nodup) : drp (A ++ k :: B) k = A ++ B := by
  rw [List.nodup_append, List.nodup_cons] at h
  obtain ⟨_, ⟨h2, _⟩, h4⟩ := h
  have hA : k ∉ A := fun hm => h4 k hm k (by simp) rfl
  unfold drp
  rw [List.filter_append, List.filter_cons_of_neg (by simp)]
  have e1 := drp_not hA
  have e2 := drp_not h2
  unfold drp at e1 e2
  rw [e1, e2]
theorem drp_len {L : List α} (h : L.Nodup) {k : α} (hk : k ∈ L) : (drp L k).length + 1 = L.length := by
  obtain ⟨A, B, rfl⟩ := List.append_of_mem hk
  rw [drp_parts h]
  simp
  omega
theorem drp_le (L : List α) (k : α) : (drp L k).length ≤ L.length := List.length_filter_le _ _
theorem wo_nodup {L : List (Tch α)} (h : (L.map (·.k)).Nodup) (k : α) : ((wo L k).map (·.k)).Nodup := by
  have := drp_nodup h k
  rwa [show (wo L k).map (·.k) = drp (L.map (·.k)) k from ks_wo L k]
theorem wo_in {L : List (Tch α)} (h : (L.map (·.k)).Nodup) {e : Tch α} (he : e ∈ L) : (wo L e.k).length + 1 = L.length := by
  have := drp_len h (k := e.k) (List.mem_map.2 ⟨e, he, rfl⟩)
  rw [← show (wo L e.k).map (·.k) = drp (L.map (·.k)) e.k from ks_wo L e.k, List.length_map, List.length_map] at this
  exact this
theorem wo_snoc_nodup {L : List (Tch α)} (h : (L.map (·.k)).Nodup) (e : Tch α) : ((wo L e.k ++ [e]).map (·.k)).Nodup := by
  rw [List.map_append, List.nodup_append]
  refine ⟨wo_nodup h e.k, by simp, fun a ha b hb e1 => ?_⟩
  obtain ⟨x, hx, rfl⟩ := List.mem_map.1 ha
  obtain rfl : b = e.k := by simpa using hb
  exact (mem_wo.1 hx).2 e1

/-- Touches rise, and none is above n. -/
structure Ris (n : Nat) (L : List (Tch α)) : Prop where
  up : L.Pairwise fun a b => a.t < b.t
  top : ∀ e ∈ L, e.t ≤ n
omit [DecidableEq α] in
theorem Ris.nil (n : Nat) : Ris n ([] : List (Tch α)) := ⟨List.Pairwise.nil, by simp⟩
theorem Ris.wo {n : Nat} {L : List (Tch α)} (h : Ris n L) (k : α) : Ris n (wo L k) := ⟨h.up.filter _, fun e he => h.top e (mem_wo.1 he).1⟩
theorem Ris.put {n : Nat} {L : List (Tch α)} (h : Ris n L) (k : α) : Ris (n + 1) (Proofs.YtalhlopjaijhcaaGreat.wo L k ++ [⟨k, n + 1⟩]) := by
  refine ⟨List.pairwise_append.2 ⟨(h.wo k).up, by simp, fun a ha b hb => ?_⟩, fun e he => ?_⟩
  · obtain rfl : b = ⟨k, n + 1⟩ := by simpa using hb
    have := (h.wo k).top a ha
    simp only
    omega
  · rcases List.mem_append.1 he with he | he
    · have := (h.wo k).top e he
      omega
    · obtain rfl : e = ⟨k, n + 1⟩ := by simpa using he
      exact Nat.le_refl _
omit [DecidableEq α] in
/-- Rising lists of the same touches are the same. -/
theorem rising_eq {A B : List (Tch α)} (h : A.Perm B) (hA : A.Pairwise fun a b => a.t ≤ b.t) (hB : B.Pairwise fun a b => a.t < b.t) : A = B := by
  induction A generalizing B with
  | nil => exact (List.nil_perm.1 h).symm
  | cons a r ih =>
    cases B with
    | nil => cases List.perm_nil.1 h
    | cons b s =>
      rw [List.pairwise_cons] at hA hB
      have e : a = b := by
        rcases List.mem_cons.1 (h.mem_iff.1 (List.mem_cons_self ..)) with e | hm
        · exact e
        · rcases List.mem_cons.1 (h.mem_iff.2 (List.mem_cons_self ..)) with e2 | hm2
          · exact e2.symm
          · have h1 := hB.1 a hm
            have h2 := hA.1 b hm2
            omega
      subst e
      rw [ih (List.perm_cons a |>.1 h) hA.2 hB.2]

/-- A touch: what is held behind it, from the oldest on; the error. -/
def tch (room : Nat) (L : List α) (k : α) : List α × Nat := if k ∈ L ∨ L.length < room then (drp L k ++ [k], 0) else (L, 3)
/-- Several, one behind the other. -/
def tchs (room : Nat) : List α → List α → List α × Nat
  | L, [] => (L, 0)
  | L, k :: r => if (tch room L k).2 = 0 then tchs room (tch room L k).1 r else tch room L k
theorem tch_nodup {room : Nat} {L : List α} (h : L.Nodup) (k : α) : (tch room L k).1.Nodup := by
  unfold tch
  split
  · rw [List.nodup_append]
    refine ⟨drp_nodup h k, by simp, fun a ha b hb e => ?_⟩
    obtain rfl : b = k := by simpa using hb
    exact (mem_drp.1 ha).2 e
  · exact h
theorem tch_len {room : Nat} {L : List α} (h : L.Nodup) (hl : L.length ≤ room) (k : α) : (tch room L k).1.length ≤ room := by
  unfold tch
  split
  · rename_i hc
    rcases hc with hc | hc
    · have := drp_len h hc
      simp
      omega
    · have := drp_le L k
      simp
      omega
  · exact hl
end
end Go.Proofs.YtalhlopjaijhcaaGreat
