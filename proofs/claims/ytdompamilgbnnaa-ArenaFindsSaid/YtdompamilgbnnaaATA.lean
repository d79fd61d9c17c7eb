/-
  An arena of Thing: how it lies; free, holds.
-/
import Derived.WalkKit
import Derived.BigQuiet
import Derived.BigRegion
import Derived.RegionTactic
import Derived.Deep.QuietTactic
import Derived.Deep.DeepMust
import Derived.Deep.RegionWith
import Derived.Outline
import Derived.Test.YtdompamilgbnnaaAP
import Derived.Test.YtdompamilgbnnaaAL
namespace Go.Proofs.Ytdompamilgbnnaa.aT
open Go.RowKit

attribute [local go_sem] Oper.semAt_some

/-- A slot of number k in the block G. -/
structure SC (w : World) (G k : Nat) (s : Sl Th) : Prop where
  c0 : w.cell? ⟨G, k * 5, none⟩ = some (.int .i64 (k : Int))
  c1 : w.cell? ⟨G, k * 5 + 1, none⟩ = some (.int .i64 (s.gen : Int))
  c2 : w.cell? ⟨G, k * 5 + 2, none⟩ = some (.bool s.held)
  c3 : w.cell? ⟨G, k * 5 + 3, none⟩ = some (.int .i64 s.x.1)
  c4 : w.cell? ⟨G, k * 5 + 3 + 1, none⟩ = some (.string s.x.2)
  f1 : w.frozen? ⟨G, k * 5 + 1, none⟩ = false
  f2 : w.frozen? ⟨G, k * 5 + 2, none⟩ = false
  f3 : w.frozen? ⟨G, k * 5 + 3, none⟩ = false
  f4 : w.frozen? ⟨G, k * 5 + 3 + 1, none⟩ = false
theorem SC.lt {w : World} {G k : Nat} {s : Sl Th} (h : SC w G k s) : G < w.heap.size := cell_lt h.c0
theorem SC.drewN {w : World} {G k : Nat} {s : Sl Th} (h : SC w G k s) (n : Nat) : SC (w.drewN n) G k s := ⟨h.c0, h.c1, h.c2, h.c3, h.c4, h.f1, h.f2, h.f3, h.f4⟩
theorem SC.block {w w' : World} {G k : Nat} {s : Sl Th} (h : SC w G k s) (hb : w'.heap[G]? = w.heap[G]?) : SC w' G k s :=
  have c : ∀ o, w'.cell? ⟨G, o, none⟩ = w.cell? ⟨G, o, none⟩ := fun o => World.cell?_of_block (w := w) (a := ⟨G, o, none⟩) hb
  have f : ∀ o, w'.frozen? ⟨G, o, none⟩ = w.frozen? ⟨G, o, none⟩ := fun o => World.frozen?_of_block (w := w) (a := ⟨G, o, none⟩) hb
  ⟨(c _).trans h.c0, (c _).trans h.c1, (c _).trans h.c2, (c _).trans h.c3, (c _).trans h.c4, (f _).trans h.f1, (f _).trans h.f2, (f _).trans h.f3, (f _).trans h.f4⟩
theorem SC.ne {w : World} {G k : Nat} {s : Sl Th} (h : SC w G k s) {p : Addr} (hp : ∀ o, o < 5 → p ≠ ⟨G, k * 5 + o, none⟩) (u : Value) : SC (w.setCell p u) G k s :=
  ⟨setCell_other h.c0 (hp 0 (by decide)), setCell_other h.c1 (hp 1 (by decide)), setCell_other h.c2 (hp 2 (by decide)), setCell_other h.c3 (hp 3 (by decide)), setCell_other h.c4 (hp 4 (by decide)), by simpa using h.f1, by simpa using h.f2, by simpa using h.f3, by simpa using h.f4⟩
theorem SC.far {w : World} {G k : Nat} {s : Sl Th} (h : SC w G k s) {p : Addr} (hp : p.block ≠ G) (u : Value) : SC (w.setCell p u) G k s :=
  h.ne (fun o _ e => hp (by rw [e])) u
theorem SC.other {w : World} {G k : Nat} {s : Sl Th} (h : SC w G k s) {j o : Nat} (hj : j ≠ k) (ho : o < 5) (u : Value) : SC (w.setCell ⟨G, j * 5 + o, none⟩ u) G k s :=
  h.ne (fun i hi => addr_ne_off (by omega)) u

/-- An arena in the blocks R (its part) and G (its slots). -/
structure AC (w : World) (R G : Nat) (xs : List (Sl Th)) : Prop where
  ne : R ≠ G
  n1 : 1 ≤ xs.length
  n2 : xs.length ≤ 64
  c : w.cell? ⟨R, 0, none⟩ = some (.slice (some ⟨G, 0, none⟩) xs.length xs.length)
  sl : ∀ k, k < xs.length → SC w G k (at0 xs k)
  gb : ∀ k, k < xs.length → good (at0 xs k)
theorem AC.lt {w : World} {R G : Nat} {xs : List (Sl Th)} (h : AC w R G xs) : R < w.heap.size ∧ G < w.heap.size := ⟨cell_lt h.c, (h.sl 0 h.n1).lt⟩
theorem AC.drewN {w : World} {R G : Nat} {xs : List (Sl Th)} (h : AC w R G xs) (n : Nat) : AC (w.drewN n) R G xs := ⟨h.ne, h.n1, h.n2, h.c, fun k hk => (h.sl k hk).drewN n, h.gb⟩
theorem AC.blocks {w w' : World} {R G : Nat} {xs : List (Sl Th)} (h : AC w R G xs) (hR : w'.heap[R]? = w.heap[R]?) (hG : w'.heap[G]? = w.heap[G]?) : AC w' R G xs :=
  ⟨h.ne, h.n1, h.n2, (World.cell?_of_block (w := w) (a := ⟨R, 0, none⟩) hR).trans h.c, fun k hk => (h.sl k hk).block hG, h.gb⟩
theorem AC.ch {w w' : World} {S : List Nat} {R G : Nat} {xs : List (Sl Th)} (h : AC w R G xs) (hc : Ch S w w') (hR : R ∉ S) (hG : G ∉ S) : AC w' R G xs :=
  h.blocks (hc.block R h.lt.1 hR) (hc.block G h.lt.2 hG)
theorem AC.below {n₀ : Nat} {w w' : World} {R G : Nat} {xs : List (Sl Th)} (h : AC w R G xs) (hB : Below n₀ w w') (hR : R < n₀) (hG : G < n₀) : AC w' R G xs :=
  h.blocks (hB.block R hR) (hB.block G hG)
theorem AC.far {w : World} {R G : Nat} {xs : List (Sl Th)} (h : AC w R G xs) {p : Addr} (hR : p.block ≠ R) (hG : p.block ≠ G) (u : Value) : AC (w.setCell p u) R G xs :=
  h.blocks (Below.heap_setCell _ _ _ _ (fun e => hR e.symm)) (Below.heap_setCell _ _ _ _ (fun e => hG e.symm))
/-- One slot turned. -/
theorem AC.turned {w w' : World} {R G : Nat} {xs : List (Sl Th)} (h : AC w R G xs) (k : Nat) (_ : k < xs.length) (s : Sl Th) (hs : SC w' G k s) (hg : good s) (hR : w'.heap[R]? = w.heap[R]?)
    (ho : ∀ j t, j ≠ k → SC w G j t → SC w' G j t) : AC w' R G (xs.set k s) := by
  refine ⟨h.ne, by simpa using h.n1, by simpa using h.n2, ?_, fun j hj => ?_, fun j hj => ?_⟩
  · rw [List.length_set]; exact (World.cell?_of_block (w := w) (a := ⟨R, 0, none⟩) hR).trans h.c
  · rw [List.length_set] at hj
    by_cases e : j = k
    · subst e; rw [at0_set_same _ _ _ hj]; exact hs
    · rw [at0_set_other _ _ _ _ e]; exact ho j _ e (h.sl j hj)
  · rw [List.length_set] at hj
    by_cases e : j = k
    · subst e; rw [at0_set_same _ _ _ hj]; exact hg
    · rw [at0_set_other _ _ _ _ e]; exact h.gb j hj
theorem AC.held' {w : World} {R G : Nat} {xs : List (Sl Th)} (h : AC w R G xs) (k : Nat) (hk : k < xs.length) (b : Bool) (v : Th) (hg : good ⟨(at0 xs k).gen, b, v⟩) :
    AC (((w.setCell ⟨G, k * 5 + 2, none⟩ (.bool b)).setCell ⟨G, k * 5 + 3, none⟩ (.int .i64 v.1)).setCell ⟨G, k * 5 + 3 + 1, none⟩ (.string v.2)) R G (xs.set k ⟨(at0 xs k).gen, b, v⟩) := by
  have hs := h.sl k hk
  refine h.turned k hk _ ⟨?_, ?_, ?_, ?_, ?_, by simpa using hs.f1, by simpa using hs.f2, by simpa using hs.f3, by simpa using hs.f4⟩ hg ?_ (fun j t e ht => ((ht.other (o := 2) (Ne.symm e) (by decide) _).other (o := 3) (Ne.symm e) (by decide) _).other (o := 4) (Ne.symm e) (by decide) _)
  · exact setCell_other (setCell_other (setCell_other hs.c0 (addr_ne_off (by omega))) (addr_ne_off (by omega))) (addr_ne_off (by omega))
  · exact setCell_other (setCell_other (setCell_other hs.c1 (addr_ne_off (by omega))) (addr_ne_off (by omega))) (addr_ne_off (by omega))
  · exact setCell_other (setCell_other (setCell_same hs.c2) (addr_ne_off (by omega))) (addr_ne_off (by omega))
  · exact setCell_other (setCell_same (setCell_other hs.c3 (addr_ne_off (by omega)))) (addr_ne_off (by omega))
  · exact setCell_same (setCell_other (setCell_other hs.c4 (addr_ne_off (by omega))) (addr_ne_off (by omega)))
  · exact (Below.heap_setCell _ _ _ _ h.ne).trans ((Below.heap_setCell _ _ _ _ h.ne).trans (Below.heap_setCell _ _ _ _ h.ne))
theorem AC.gen' {w : World} {R G : Nat} {xs : List (Sl Th)} (h : AC w R G xs) (k : Nat) (hk : k < xs.length) (g : Nat) (hg : good ⟨g, (at0 xs k).held, (at0 xs k).x⟩) :
    AC (w.setCell ⟨G, k * 5 + 1, none⟩ (.int .i64 (g : Int))) R G (xs.set k ⟨g, (at0 xs k).held, (at0 xs k).x⟩) := by
  have hs := h.sl k hk
  refine h.turned k hk _ ⟨setCell_other hs.c0 (addr_ne_off (by omega)), setCell_same hs.c1, setCell_other hs.c2 (addr_ne_off (by omega)), setCell_other hs.c3 (addr_ne_off (by omega)), setCell_other hs.c4 (addr_ne_off (by omega)), by simpa using hs.f1, by simpa using hs.f2, by simpa using hs.f3, by simpa using hs.f4⟩ hg
    (Below.heap_setCell _ _ _ _ h.ne) (fun j t e ht => ht.other (Ne.symm e) (by decide) _)

theorem free_any {w : World} {G k : Nat} {s : Sl Th} (h : SC w G k s) :
    Calls Try.prog 34 #[.pointer (some ⟨G, k * 5, none⟩)] w fun e w' => e = .returned (.bool (isFree s)) ∧ w = w' := by
  have c1 := h.c1
  have c2 := h.c2
  clear h
  obtain ⟨g, b, x⟩ := s
  cases b
  all_goals
    go_enter Try.func34, Try.ntmps34
    go_wp2
    go_ret
    exact ⟨by simp [isFree], rfl⟩
end Go.Proofs.Ytdompamilgbnnaa.aT
