/-
  Several texts in one: An arena of elements: holds, empty, at. · An arena of element: the iterator over such slots. · An arena of element: at. · An arena of element: count, Len, Room. · An arena of elements: Put. · An arena of elements: Get, Set. · An arena of element: Free. · An arena of elements: New.
-/
import Derived.Test.YtalhlopjaijhcaaGreatBaseZ
import Derived.Test.YtalhlopjaijhcaaGreatMgA
import Derived.RangeFuncNested
import Derived.RangeFuncBound
import Derived.RangeFuncBox
import Derived.RangeFuncCalls
import Derived.RangeFuncLeaves
import Derived.Shelf.Abstract
import Derived.Shelf.RegionOpen
import Derived.OwnWalkIn
import Derived.TacticsInMore
import Derived.LoopNIn
import Derived.LoopIn
import Derived.Maps.AppendAt
import Derived.Laws.MakeOwn
import Derived.OwnWalk
namespace Go.Proofs.YtalhlopjaijhcaaGreat.aE
open Go.RowKit

attribute [local go_sem] Oper.semAt_some

theorem holds_any {w : World} {G k : Nat} {s : Sl El} (h : SC w G k s) :
    Calls Tryz.prog 83 #[.pointer (some ⟨G, k * 8, none⟩)] w fun e w' => e = .returned (.bool (isHeld s)) ∧ w = w' := by
  have c2 := h.c2
  clear h
  obtain ⟨g, b, x⟩ := s
  go_enter Tryz.func83, Tryz.ntmps83
  go_wp2
  go_ret
  exact ⟨rfl, rfl⟩

/-- A box of an element, of the call's own. -/
structure BxE (w : World) (B : Nat) (e : El) : Prop where
  b0 : w.cell? ⟨B, 0, none⟩ = some (.int .u64 (e.k : Int))
  b1 : w.cell? ⟨B, 1, none⟩ = some (.int .u64 (e.v 0 : Int))
  b2 : w.cell? ⟨B, 2, none⟩ = some (.int .u64 (e.v 1 : Int))
  b3 : w.cell? ⟨B, 3, none⟩ = some (.int .u64 (e.v 2 : Int))
  b4 : w.cell? ⟨B, 4, none⟩ = some (.int .u64 (e.v 3 : Int))
  f : ∀ o, w.frozen? ⟨B, o, none⟩ = false
abbrev elC (e : El) : Array Value := #[.int .u64 (e.k : Int), .int .u64 (e.v 0 : Int), .int .u64 (e.v 1 : Int), .int .u64 (e.v 2 : Int), .int .u64 (e.v 3 : Int)]
theorem BxE.new (w : World) (e : El) (t : TypeId) : BxE (w.alloc (.cells (elC e) t)) w.heap.size e :=
  ⟨by rw [World.cell?_alloc_at _ _ _ _ rfl]; rfl, by rw [World.cell?_alloc_at _ _ _ _ rfl]; rfl, by rw [World.cell?_alloc_at _ _ _ _ rfl]; rfl, by rw [World.cell?_alloc_at _ _ _ _ rfl]; rfl, by rw [World.cell?_alloc_at _ _ _ _ rfl]; rfl, fun _ => World.frozen?_alloc_new w _ _ _⟩
theorem BxE.lt {w : World} {B : Nat} {e : El} (h : BxE w B e) : B < w.heap.size := cell_lt h.b0
theorem BxE.ch {S : List Nat} {w w' : World} {B : Nat} {e : El} (h : BxE w B e) (hc : Ch S w w') (hB : B ∉ S) : BxE w' B e :=
  ⟨(hc.cell (p := ⟨B, 0, none⟩) h.lt hB).trans h.b0, (hc.cell (p := ⟨B, 1, none⟩) h.lt hB).trans h.b1, (hc.cell (p := ⟨B, 2, none⟩) h.lt hB).trans h.b2, (hc.cell (p := ⟨B, 3, none⟩) h.lt hB).trans h.b3, (hc.cell (p := ⟨B, 4, none⟩) h.lt hB).trans h.b4, fun o => (hc.frozen (p := ⟨B, o, none⟩) h.lt hB).trans (h.f o)⟩
theorem BxE.far {w : World} {B : Nat} {e : El} (h : BxE w B e) {p : Addr} (hp : p.block ≠ B) (u : Value) : BxE (w.setCell p u) B e :=
  have n : ∀ o, p ≠ ⟨B, o, none⟩ := fun o e => hp (by rw [e])
  ⟨setCell_other h.b0 (n _), setCell_other h.b1 (n _), setCell_other h.b2 (n _), setCell_other h.b3 (n _), setCell_other h.b4 (n _), fun o => by simpa using h.f o⟩
theorem BxE.set {w : World} {B : Nat} {e : El} (h : BxE w B e) (e' : El) : BxE (stE w B 0 e') B e' := by
  have n : ∀ {a b : Nat}, a ≠ b → (⟨B, a, none⟩ : Addr) ≠ ⟨B, b, none⟩ := fun h => addr_ne_off h
  refine ⟨?_, ?_, ?_, ?_, ?_, fun o => by simpa [stE] using h.f o⟩
  · exact setCell_other (setCell_other (setCell_other (setCell_other (setCell_same h.b0) (n (by decide))) (n (by decide))) (n (by decide))) (n (by decide))
  · exact setCell_other (setCell_other (setCell_other (setCell_same (setCell_other h.b1 (n (by decide)))) (n (by decide))) (n (by decide))) (n (by decide))
  · exact setCell_other (setCell_other (setCell_same (setCell_other (setCell_other h.b2 (n (by decide))) (n (by decide)))) (n (by decide))) (n (by decide))
  · exact setCell_other (setCell_same (setCell_other (setCell_other (setCell_other h.b3 (n (by decide))) (n (by decide))) (n (by decide)))) (n (by decide))
  · exact setCell_same (setCell_other (setCell_other (setCell_other (setCell_other h.b4 (n (by decide))) (n (by decide))) (n (by decide))) (n (by decide)))
/-- The cells of an element, each while those ahead of it have been stored. -/
theorem stE_at {w : World} {G o : Nat} {e e' : El} (h : w.cell? ⟨G, o, none⟩ = some (.int .u64 (e.k : Int)) ∧ w.cell? ⟨G, o + 1, none⟩ = some (.int .u64 (e.v 0 : Int)) ∧ w.cell? ⟨G, o + 2, none⟩ = some (.int .u64 (e.v 1 : Int)) ∧ w.cell? ⟨G, o + 3, none⟩ = some (.int .u64 (e.v 2 : Int)) ∧ w.cell? ⟨G, o + 4, none⟩ = some (.int .u64 (e.v 3 : Int))) :
    (w.setCell ⟨G, o, none⟩ (.int .u64 (e'.k : Int))).cell? ⟨G, o + 1, none⟩ = some (.int .u64 (e.v 0 : Int)) ∧
    ((w.setCell ⟨G, o, none⟩ (.int .u64 (e'.k : Int))).setCell ⟨G, o + 1, none⟩ (.int .u64 (e'.v 0 : Int))).cell? ⟨G, o + 2, none⟩ = some (.int .u64 (e.v 1 : Int)) ∧
    (((w.setCell ⟨G, o, none⟩ (.int .u64 (e'.k : Int))).setCell ⟨G, o + 1, none⟩ (.int .u64 (e'.v 0 : Int))).setCell ⟨G, o + 2, none⟩ (.int .u64 (e'.v 1 : Int))).cell? ⟨G, o + 3, none⟩ = some (.int .u64 (e.v 2 : Int)) ∧
    ((((w.setCell ⟨G, o, none⟩ (.int .u64 (e'.k : Int))).setCell ⟨G, o + 1, none⟩ (.int .u64 (e'.v 0 : Int))).setCell ⟨G, o + 2, none⟩ (.int .u64 (e'.v 1 : Int))).setCell ⟨G, o + 3, none⟩ (.int .u64 (e'.v 2 : Int))).cell? ⟨G, o + 4, none⟩ = some (.int .u64 (e.v 3 : Int)) := by
  obtain ⟨h0, h1, h2, h3, h4⟩ := h
  have n : ∀ {a b : Nat}, a ≠ b → (⟨G, a, none⟩ : Addr) ≠ ⟨G, b, none⟩ := fun h => addr_ne_off h
  exact ⟨setCell_other h1 (n (by omega)), setCell_other (setCell_other h2 (n (by omega))) (n (by omega)), setCell_other (setCell_other (setCell_other h3 (n (by omega))) (n (by omega))) (n (by omega)), setCell_other (setCell_other (setCell_other (setCell_other h4 (n (by omega))) (n (by omega))) (n (by omega))) (n (by omega))⟩

set_option maxHeartbeats 1000000 in
theorem empty_any {w : World} {R G : Nat} {xs : List (Sl El)} (h : AC w R G xs) (k : Nat) (hk : k < xs.length) (hg : (at0 xs k).gen ≤ 255) :
    Calls Tryz.prog 93 #[.pointer (some ⟨G, k * 8, none⟩)] w fun e w' => (∃ v, e = .returned v) ∧ AC w' R G (xs.set k ⟨(at0 xs k).gen + 1, false, default⟩) ∧ Ch [G] w w' := by
  have hGl := h.lt.2
  have HB0 := Lib.hid (BxE.new w default 84)
  have HC0 := Lib.hid ((Ch.refl [] w).alloc (.cells (elC default) 84))
  have HA0 := Lib.hid (h.ch HC0.out (by simp) (by simp))
  clear h
  go_enter Tryz.func93, Tryz.ntmps93
  go_wp2
  obtain ⟨B, hB⟩ : ∃ B, B = w.heap.size := ⟨_, rfl⟩
  rw [← hB] at HB0 hGl ⊢
  clear hB
  generalize w.alloc (.cells (elC default) 84) = w1 at *
  have HNB := Lib.hid (show B ≠ G by omega)
  obtain ⟨c0, c1, c2, c3, c4, c5, c6, c7, ff⟩ := HA0.out.sl k hk
  have f2 := ff (k * 8 + 2)
  have HBx := Lib.hid (show BxE (w1.drew.setCell ⟨G, k * 8 + 2, none⟩ (.bool false)) B default from BxE.far (w := w1.drew) ⟨HB0.out.b0, HB0.out.b1, HB0.out.b2, HB0.out.b3, HB0.out.b4, HB0.out.f⟩ (Ne.symm HNB.out) _)
  refine wp_region_noPanic ?_
  refine wp_region_held_drew (S := fun w' => w'.cell? ⟨B, 0, none⟩ = some (.int .u64 0) ∧ w'.cell? ⟨B, 1, none⟩ = some (.int .u64 0) ∧ w'.cell? ⟨B, 2, none⟩ = some (.int .u64 0) ∧ w'.cell? ⟨B, 3, none⟩ = some (.int .u64 0) ∧ w'.cell? ⟨B, 4, none⟩ = some (.int .u64 0)) (by kernel_rfl) ⟨HB0.out.b0, HB0.out.b1, HB0.out.b2, HB0.out.b3, HB0.out.b4⟩ (fun hHeld => ?_)
  refine wpAnyH_take (i := 0) (oi := { dst := some 3, op := _, type := _, pos := _, after := _, guard := _ }) (v := ?v1_0) rfl (by kernel_rfl) (by kernel_rfl) (by kernel_rfl) (by intro _ _ _ h; first | exact h | exact nomatch h.1) (.inl ⟨by rfl, ?h1_0⟩) (by assumption) ?_
  case h1_0 => intro w hSw; obtain ⟨hs0, hs1, hs2, hs3, hs4⟩ := hSw; go_simp; (try with_reducible rfl)
  try simp only [Act.put, List.setIfInBounds_toArray, List.set_cons_zero, List.set_cons_succ]
  refine wpAnyH_take (i := 1) (oi := { dst := some 4, op := _, type := _, pos := _, after := _, guard := _ }) (v := ?v2_1) rfl (by kernel_rfl) (by kernel_rfl) (by kernel_rfl) (by intro _ _ _ h; first | exact h | exact nomatch h.1) (.inl ⟨by rfl, ?h2_1⟩) (by assumption) ?_
  case h2_1 => intro w hSw; obtain ⟨hs0, hs1, hs2, hs3, hs4⟩ := hSw; go_simp; (try with_reducible rfl)
  try simp only [Act.put, List.setIfInBounds_toArray, List.set_cons_zero, List.set_cons_succ]
  refine wpAnyH_take (i := 2) (oi := { dst := some 5, op := _, type := _, pos := _, after := _, guard := _ }) (v := ?v3_2) rfl (by kernel_rfl) (by kernel_rfl) (by kernel_rfl) (by intro _ _ _ h; first | exact h | exact nomatch h.1) (.inl ⟨by rfl, ?h3_2⟩) (by assumption) ?_
  case h3_2 => intro w hSw; obtain ⟨hs0, hs1, hs2, hs3, hs4⟩ := hSw; go_simp; (try with_reducible rfl)
  try simp only [Act.put, List.setIfInBounds_toArray, List.set_cons_zero, List.set_cons_succ]
  refine wpAnyH_take (i := 3) (oi := { dst := some 6, op := _, type := _, pos := _, after := _, guard := _ }) (v := ?v4_3) rfl (by kernel_rfl) (by kernel_rfl) (by kernel_rfl) (by intro _ _ _ h; first | exact h | exact nomatch h.1) (.inl ⟨by rfl, ?h4_3⟩) (by assumption) ?_
  case h4_3 => intro w hSw; obtain ⟨hs0, hs1, hs2, hs3, hs4⟩ := hSw; go_simp; (try with_reducible rfl)
  try simp only [Act.put, List.setIfInBounds_toArray, List.set_cons_zero, List.set_cons_succ]
  refine wpAnyH_take (i := 4) (oi := { dst := some 7, op := _, type := _, pos := _, after := _, guard := _ }) (v := ?v5_4) rfl (by kernel_rfl) (by kernel_rfl) (by kernel_rfl) (by intro _ _ _ h; first | exact h | exact nomatch h.1) (.inl ⟨by rfl, ?h5_4⟩) (by assumption) ?_
  case h5_4 => intro w hSw; obtain ⟨hs0, hs1, hs2, hs3, hs4⟩ := hSw; go_simp; (try with_reducible rfl)
  try simp only [Act.put, List.setIfInBounds_toArray, List.set_cons_zero, List.set_cons_succ]
  refine wpAnyH_ready (rs := [5]) (by kernel_rfl) (by simp) ?_
  refine AllReadyH.cons (o := { dst := none, op := _, type := _, pos := _, after := _, guard := _ }) rfl (fun K hK => ?_) AllReadyH.nil
  go_simp
  refine hK.out _ _ ⟨HBx.out.b0, HBx.out.b1, HBx.out.b2, HBx.out.b3, HBx.out.b4⟩ (fun hHeld => ?_)
  clear hK K
  try simp only [Act.put, List.setIfInBounds_toArray, List.set_cons_zero, List.set_cons_succ]
  refine wpAnyH_take (i := 6) (oi := { dst := some 8, op := _, type := _, pos := _, after := _, guard := _ }) (v := ?v6_6) rfl (by kernel_rfl) (by kernel_rfl) (by kernel_rfl) (by intro _ _ _ h; first | exact h | exact nomatch h.1) (.inl ⟨by rfl, ?h6_6⟩) (by assumption) ?_
  case h6_6 => intro w hSw; obtain ⟨hs0, hs1, hs2, hs3, hs4⟩ := hSw; go_simp; (try with_reducible rfl)
  try simp only [Act.put, List.setIfInBounds_toArray, List.set_cons_zero, List.set_cons_succ]
  refine wpAnyH_take (i := 7) (oi := { dst := some 9, op := _, type := _, pos := _, after := _, guard := _ }) (v := ?v7_7) rfl (by kernel_rfl) (by kernel_rfl) (by kernel_rfl) (by intro _ _ _ h; first | exact h | exact nomatch h.1) (.inl ⟨by rfl, ?h7_7⟩) (by assumption) ?_
  case h7_7 => intro w hSw; obtain ⟨hs0, hs1, hs2, hs3, hs4⟩ := hSw; go_simp; (try with_reducible rfl)
  try simp only [Act.put, List.setIfInBounds_toArray, List.set_cons_zero, List.set_cons_succ]
  have hA1 : AC (stE (w1.drew.setCell ⟨G, k * 8 + 2, none⟩ (.bool false)) G (k * 8 + 3) default) R G (xs.set k ⟨(at0 xs k).gen, false, default⟩) := AC.held' (w := w1.drew) (HA0.out.drewN 1) k hk false default ⟨by show (at0 xs k).gen ≤ 256; omega, fun e => by cases e⟩
  have HC1 := Lib.hid (show Ch [G] w (stE (w1.drew.setCell ⟨G, k * 8 + 2, none⟩ (.bool false)) G (k * 8 + 3) default) from ch_stE (((HC0.out.mono (T := [G]) (by simp)).drew).setCell (p := ⟨G, k * 8 + 2, none⟩) (by simp) (.bool false)) (.inl (by simp)) _ _)
  have HA1 := Lib.hid hA1
  clear hA1 c0 c1 c2 f2
  obtain ⟨w2, hw2⟩ : ∃ w2, w2 = w1.drew.setCell ⟨G, k * 8 + 2, none⟩ (.bool false) := ⟨_, rfl⟩
  have n : ∀ {a b : Nat}, a ≠ b → (⟨G, a, none⟩ : Addr) ≠ ⟨G, b, none⟩ := fun h => addr_ne_off h
  have g3 : w2.cell? ⟨G, k * 8 + 3, none⟩ = some (.int .u64 ((at0 xs k).x.k : Int)) := by rw [hw2]; exact setCell_other (w := w1.drew) c3 (n (by omega))
  have g4 : w2.cell? ⟨G, k * 8 + 3 + 1, none⟩ = some (.int .u64 ((at0 xs k).x.v 0 : Int)) := by rw [hw2]; exact setCell_other (w := w1.drew) c4 (n (by omega))
  have g5 : w2.cell? ⟨G, k * 8 + 3 + 2, none⟩ = some (.int .u64 ((at0 xs k).x.v 1 : Int)) := by rw [hw2]; exact setCell_other (w := w1.drew) c5 (n (by omega))
  have g6 : w2.cell? ⟨G, k * 8 + 3 + 3, none⟩ = some (.int .u64 ((at0 xs k).x.v 2 : Int)) := by rw [hw2]; exact setCell_other (w := w1.drew) c6 (n (by omega))
  have g7 : w2.cell? ⟨G, k * 8 + 3 + 4, none⟩ = some (.int .u64 ((at0 xs k).x.v 3 : Int)) := by rw [hw2]; exact setCell_other (w := w1.drew) c7 (n (by omega))
  have gf : ∀ o, w2.frozen? ⟨G, o, none⟩ = false := fun o => by rw [hw2]; simpa using ff o
  obtain ⟨g4', g5', g6', g7'⟩ := stE_at (e' := default) ⟨g3, g4, g5, g6, g7⟩
  have HBx2 := Lib.hid (show BxE (stE w2 G (k * 8 + 3) default) B default from hw2 ▸ HBx.out.ch (ch_stE (Ch.refl [G] _) (.inl (by simp)) _ _) (by simpa using HNB.out))
  have ff3 := gf (k * 8 + 3)
  have ff4 := gf (k * 8 + 3 + 1)
  have ff5 := gf (k * 8 + 3 + 2)
  have ff6 := gf (k * 8 + 3 + 3)
  have ff7 := gf (k * 8 + 3 + 4)
  change wpAnyH _ _ _ _ _ _ _ _ (w1.drew.setCell ⟨G, k * 8 + 2, none⟩ (.bool false))
  rw [← hw2] at HA1 HC1 ⊢
  clear hw2 c3 c4 c5 c6 c7 ff gf n hHeld
  refine wpAnyH_ready (rs := [8]) (by kernel_rfl) (by simp) ?_
  refine AllReadyH.cons (o := { dst := none, op := _, type := _, pos := _, after := _, guard := _ }) rfl (fun K hK => ?_) AllReadyH.nil
  go_simp
  refine hK.out _ _ ⟨HBx2.out.b0, HBx2.out.b1, HBx2.out.b2, HBx2.out.b3, HBx2.out.b4⟩ (fun hHeld => ?_)
  clear hK K
  try simp only [Act.put, List.setIfInBounds_toArray, List.set_cons_zero, List.set_cons_succ]
  refine wpAnyH_done (by kernel_rfl) ?_ _
  refine NoPanic.normal ?_
  clear g3 g4 g5 g6 g7 g4' g5' g6' g7' ff3 ff4 ff5 ff6 ff7 hHeld HBx HBx2 HB0
  change Exit.then _ _ _ _ (stE w2 G (k * 8 + 3) default)
  obtain ⟨w3, hw3⟩ : ∃ w3, w3 = stE w2 G (k * 8 + 3) default := ⟨_, rfl⟩
  rw [← hw3] at HA1 HC1 ⊢
  clear hw3
  have hB := HA1.out.gen' k (by simpa using hk) ((at0 xs k).gen + 1) ⟨by show (at0 xs k).gen + 1 ≤ 256; omega, fun e => by rw [at0_set_same _ _ _ hk] at e; cases e⟩
  rw [List.set_set, at0_set_same _ _ _ hk] at hB
  have d := HA1.out.sl k (by simpa using hk)
  rw [at0_set_same _ _ _ hk] at d
  have d1 := d.c1
  have e1 := d.f (k * 8 + 1)
  have HB := Lib.hid hB
  have HC2 := Lib.hid (HC1.out.setCell (p := ⟨G, k * 8 + 1, none⟩) (by simp) (.int .i64 (((at0 xs k).gen + 1 : Nat) : Int)))
  clear hB d hk
  simp only at d1
  go_wp2
  go_end0
  exact ⟨⟨_, rfl⟩, HB.out, HC2.out⟩
end Go.Proofs.YtalhlopjaijhcaaGreat.aE

namespace Go.Proofs.YtalhlopjaijhcaaGreat.aE
open Go.RowKit Go.Shelf

attribute [local go_sem] Oper.semAt_some

/-- An arena that is nil, or lies below n₀. -/
def LA (n₀ : Nat) (W : World) (p : Option Addr) (G : Nat) (xs : List (Sl El)) : Prop :=
  (p = none ∧ xs = []) ∨ ∃ R, p = some ⟨R, 0, none⟩ ∧ R < n₀ ∧ G < n₀ ∧ AC W R G xs
theorem LA.below {n₀ : Nat} {W W' : World} {p : Option Addr} {G : Nat} {xs : List (Sl El)} (h : LA n₀ W p G xs) (hB : Below n₀ W W') : LA n₀ W' p G xs := by
  rcases h with h | ⟨R, rfl, hR, hG, h⟩
  · exact .inl h
  · exact .inr ⟨R, rfl, hR, hG, h.below hB hR hG⟩
theorem LA.le {n₀ : Nat} {W : World} {p : Option Addr} {G : Nat} {xs : List (Sl El)} (h : LA n₀ W p G xs) : xs.length ≤ 64 := by
  rcases h with ⟨rfl, rfl⟩ | ⟨R, rfl, hR, hG, h⟩
  · simp
  · exact h.n2

/-- The number of a slot that is such. -/
abbrev Such (xs : List (Sl El)) (q : Sl El → Bool) := { k : Nat // k < xs.length ∧ q (at0 xs k) = true }
abbrev vals {xs : List (Sl El)} {q : Sl El → Bool} (l : List (Such xs q)) : List Nat := l.map (·.1)

/-- What a round keeps: all below n₀, and the two boxes. -/
def Kb (n₀ B1 B2 : Nat) (A A' : World) : Prop := Below n₀ A A' ∧ (∀ v, Boxed A B1 76 v → Boxed A' B1 76 v) ∧ ∀ v, Boxed A B2 156 v → Boxed A' B2 156 v
theorem kb_t {n₀ B1 B2 : Nat} {A B C : World} (h : Kb n₀ B1 B2 A B) (k : Kb n₀ B1 B2 B C) : Kb n₀ B1 B2 A C := ⟨h.1.trans k.1, fun v hv => k.2.1 v (h.2.1 v hv), fun v hv => k.2.2 v (h.2.2 v hv)⟩
theorem kb_r {n₀ B1 B2 : Nat} (A : World) : Kb n₀ B1 B2 A A := ⟨Below.refl _ _, fun _ h => h, fun _ h => h⟩
theorem kb_b {n₀ B1 B2 : Nat} {w : World} (hn : n₀ ≤ w.heap.size) (W : World) (l : Nat) (o o' : Obj) (hl : w.heap.size ≤ l) (h : W.heap[l]? = some o) (hc : o.isCells = false) (hw : o.isWalk = false) : Kb n₀ B1 B2 W (W.putObj l o') :=
  ⟨belowK_b hn W l o o' hl h hc hw, fun v hv => hv.kept (grownBy_putObj' W l o') (fun e => by
    cases e
    rw [show W.heap[B1]? = _ from hv] at h
    cases h
    cases hc), fun v hv => hv.kept (grownBy_putObj' W l o') (fun e => by
    cases e
    rw [show W.heap[B2]? = _ from hv] at h
    cases h
    cases hc)⟩

set_option maxRecDepth 100000 in
set_option maxHeartbeats 2000000 in
theorem those1_in (n : Nat) (F : Nat) (q : Sl El → Bool) (hFe : ∀ args w, (callFunc F args).run Tryz.prog w = .ok (.enter F args) w) (hF : ∀ W G k s, SC W G k s → Calls Tryz.prog F #[.pointer (some ⟨G, k * 8, none⟩)] W fun e w' => e = .returned (.bool (q s)) ∧ W = w')
    (l B1 B2 n₀ : Nat) (p : Option Addr) (G : Nat) (xs : List (Sl El)) (J Jx : List (Such xs q) → World → Prop) (hJ : ∀ pre W m, J pre W → J pre (W.drewN m))
    (hY : ∀ pre (x : Such xs q) W, J pre W → pre.length < xs.length → YieldAt Fence.wide (n - 1) Tryz.prog l #[.pointer (some ⟨G, x.1 * 8, none⟩)] W fun e W' =>
      (e = .returned (.bool true) ∧ J (pre ++ [x]) W' ∧ Kb n₀ B1 B2 W W') ∨ (e = .returned (.bool false) ∧ Jx (pre ++ [x]) W'))
    (W : World) (hb : Boxed W B1 76 (.pointer p)) (hb2 : Boxed W B2 156 (.func (.func F) #[] #[])) (hL : LA n₀ W p G xs) (h0 : J [] W) :
    CallsIn Fence.wide n Tryz.prog 122 #[.func (.yield l) #[] #[], .pointer (some ⟨B1, 0, none⟩), .pointer (some ⟨B2, 0, none⟩)] W fun e W' => (∃ v, e = .returned v) ∧
      ((∃ ys, vals ys = sel xs q ∧ J ys W') ∨ (∃ pre, vals pre <+: sel xs q ∧ Jx pre W')) := by
  have h64 := hL.le
  have HY := Lib.hid hY
  have HL := Lib.hid hL
  have HJ := Lib.hid hJ
  have HX := Lib.hid hb
  have HX2 := Lib.hid hb2
  have HF := Lib.hid hF
  have hc := hb.cell
  clear hY hL hJ hb hb2 hF
  have hw : ∀ f, Fence.wide.fn f := fun _ => trivial
  have hd : Fence.wide.depth = none := rfl
  rcases HL.out with ⟨rfl, rfl⟩ | ⟨R, rfl, hR, hG, hA⟩
  · refine callsIn_of_wp Tryz.func122 rfl trivial ?_ rfl
    simp only [Tryz.ntmps122, List.size_toArray, List.length_cons, List.length_nil, Nat.reduceAdd, Nat.reduceSub, Array.replicate_succ, Array.replicate_zero, List.push_toArray, List.append_toArray, List.nil_append, List.cons_append]
    gi_wp2
    refine bodyPost_ret (results_none rfl _ _ _) rfl ?_
    exact ⟨⟨_, rfl⟩, .inl ⟨[], rfl, h0⟩⟩
  have hc0 := hA.c
  have HR := Lib.hid hR
  have HG := Lib.hid hG
  have HA := Lib.hid hA
  clear hR hG hA HL
  refine callsIn_of_wp Tryz.func122 rfl trivial ?_ rfl
  simp only [Tryz.ntmps122, List.size_toArray, List.length_cons, List.length_nil, Nat.reduceAdd, Nat.reduceSub, Array.replicate_succ, Array.replicate_zero, List.push_toArray, List.append_toArray, List.nil_append, List.cons_append]
  gi_wp2
  gi_loopw [13] (fun r wr => ∃ (k : Nat) (ys : List (Such xs q)), k ≤ xs.length ∧ r = .int .i64 (k : Int) ∧ vals ys = selTo xs q k ∧ J ys wr ∧ AC wr R G xs ∧ Boxed wr B1 76 (.pointer (some ⟨R, 0, none⟩)) ∧ Boxed wr B2 156 (.func (.func F) #[] #[]))
    (fun r _ => xs.length - (intOf r).toNat)
  case atStart =>
    exact ⟨0, [], Nat.zero_le _, rfl, rfl, h0, HA.out, HX.out, HX2.out⟩
  case round =>
    obtain ⟨k, ys, hk, rfl, hys, hJk, hAk, hb1, hb2⟩ := hrel
    have HJk := Lib.hid hJk
    have HAk := Lib.hid hAk
    have HB1 := Lib.hid hb1
    have HB2 := Lib.hid hb2
    have HYs := Lib.hid hys
    have hcc := hb1.cell
    have hcc2 := hb2.cell
    have hca := hAk.c
    clear hJk hAk hc hc0 hb1 hb2 hys
    by_cases hlt : k < xs.length
    · have HSl := Lib.hid (HAk.out.sl k hlt)
      have hlen : ys.length < xs.length := by
        have := congrArg List.length HYs.out
        have h2 := selTo_len xs q k
        simp only [List.length_map] at this
        omega
      have HLen := Lib.hid hlen
      clear hlen
      have HLt := Lib.hid hlt
      cases hq : q (at0 xs k) with
      | false =>
        have HT := Lib.hid (selTo_no xs q k hq)
        have HC := Lib.hid (show Calls Tryz.prog F #[.pointer (some ⟨G, k * 8, none⟩)] wr fun e w' => e = .returned (.bool false) ∧ wr = w' from by rw [← hq]; exact HF.out wr G k _ HSl.out)
        gi_wp2_with (with_reducible refine (callsIn_wide.2 HC.out).mono ?_; rintro e w' ⟨rfl, rfl⟩)
        go_roundw
        case rel => exact ⟨k + 1, ys, by omega, by go_num, by rw [HT.out]; exact HYs.out, HJk.out, HAk.out, HB1.out, HB2.out⟩
        case measure => simp [intOf]; omega
      | true =>
        have HT := Lib.hid (selTo_yes xs q k hq)
        have HC := Lib.hid (show Calls Tryz.prog F #[.pointer (some ⟨G, k * 8, none⟩)] wr fun e w' => e = .returned (.bool true) ∧ wr = w' from by rw [← hq]; exact HF.out wr G k _ HSl.out)
        have hYx := HY.out ys ⟨k, hlt, hq⟩ wr HJk.out HLen.out
        have HYx := Lib.hid hYx
        clear hYx
        gi_wp2_with fail
        refine (callsIn_wide.2 HC.out).mono ?_
        rintro e w' ⟨rfl, rfl⟩
        obtain ⟨fn, tmps, assign, body, hy, hR⟩ := HYx.out
        gi_wp2_with fail
        refine hR.mono ?_
        rintro e W3 (⟨rfl, hJ3, hk3⟩ | ⟨rfl, hJx3⟩)
        · have HK := Lib.hid hk3
          clear hk3
          gi_wp2
          go_roundw
          case rel =>
            exact ⟨k + 1, ys ++ [⟨k, hlt, hq⟩], by omega, by go_num, by rw [HT.out, ← HYs.out]; simp [vals], hJ3, HAk.out.below HK.out.1 HR.out HG.out, HK.out.2.1 _ HB1.out, HK.out.2.2 _ HB2.out⟩
          case measure => simp [intOf]; omega
        · gi_wp2
          refine bodyPost_ret (results_none rfl _ _ _) rfl ?_
          refine ⟨⟨_, rfl⟩, .inr ⟨ys ++ [⟨k, hlt, hq⟩], ?_, hJx3⟩⟩
          have := selTo_prefix xs q (k + 1) xs.length (by omega)
          rw [HT.out, ← HYs.out] at this
          unfold sel
          simpa [vals] using this
    · gi_wp2
      go_end0
      obtain rfl : k = xs.length := by omega
      exact ⟨⟨_, rfl⟩, .inl ⟨ys, HYs.out, HJk.out⟩⟩

set_option maxHeartbeats 400000 in
theorem those_in (n : Nat) (p : Option Addr) (F : Nat) (w : World) :
    CallsIn Fence.wide n Tryz.prog 98 #[.pointer p, .func (.func F) #[] #[]] w fun e w' => e = .returned (.func (.func 122) #[] #[.pointer (some ⟨w.heap.size, 0, none⟩), .pointer (some ⟨w.heap.size + 1, 0, none⟩)]) ∧
      w' = (w.alloc (.cells #[.pointer p] 76)).alloc (.cells #[.func (.func F) #[] #[]] 156) := by
  refine callsIn_of_wp Tryz.func98 rfl trivial ?_ rfl
  simp only [Tryz.ntmps98, List.size_toArray, List.length_cons, List.length_nil, Nat.reduceAdd, Nat.reduceSub, Array.replicate_succ, Array.replicate_zero, List.push_toArray, List.append_toArray, List.nil_append, List.cons_append]
  gi_wp2
  go_ret
  exact ⟨rfl, rfl⟩

/-- What asks a slot: a function without variables of its own. -/
structure Asks (F : Nat) (q : Sl El → Bool) : Prop where
  enter : ∀ args w, (callFunc F args).run Tryz.prog w = .ok (.enter F args) w
  calls : ∀ W G k s, SC W G k s → Calls Tryz.prog F #[.pointer (some ⟨G, k * 8, none⟩)] W fun e w' => e = .returned (.bool (q s)) ∧ W = w'
theorem asks_free : Asks 99 isFree := ⟨enters_of Tryz.func99 (by kernel_rfl) rfl, fun _ _ _ _ h => free_any h⟩
theorem asks_holds : Asks 83 isHeld := ⟨enters_of Tryz.func83 (by kernel_rfl) rfl, fun _ _ _ _ h => holds_any h⟩

theorem those_stops (n : Nat) {F : Nat} {q : Sl El → Bool} (hq : Asks F q) (B1 B2 n₀ : Nat) (p : Option Addr) (G : Nat) (xs : List (Sl El)) (w : World) (hn₀ : n₀ ≤ w.heap.size)
    (hb : Boxed w B1 76 (.pointer p)) (hb2 : Boxed w B2 156 (.func (.func F) #[] #[])) (hL : LA n₀ w p G xs) :
    SeqStopsK Fence.wide n Tryz.prog 122 #[.pointer (some ⟨B1, 0, none⟩), .pointer (some ⟨B2, 0, none⟩)] (fun x : Such xs q => #[Value.pointer (some ⟨G, x.1 * 8, none⟩)]) (Kb n₀ B1 B2)
      (fun ys => vals ys = sel xs q) (fun pre => vals pre <+: sel xs q) xs.length w := fun l J Jx W hW hJ _ hY h0 =>
  those1_in n F q hq.enter hq.calls l B1 B2 n₀ p G xs J Jx (fun pre W m h => hJ pre W _ none h (grownBy_drewN W m) (fun r e => by cases e)) hY W ((hW.block B1 hb.lt).trans hb) ((hW.block B2 hb2.lt).trans hb2) (hL.below (hW.mono hn₀)) h0
end Go.Proofs.YtalhlopjaijhcaaGreat.aE

namespace Go.Proofs.YtalhlopjaijhcaaGreat.aE
open Go.RowKit

attribute [local go_sem] Oper.semAt_some

/-- A handle as it is handed. -/
abbrev hv (s g : Int) : Value := .agg #[.int .i64 s, .int .i64 g]

theorem at_nil (w : World) (s g : Int) :
    Calls Tryz.prog 92 #[.pointer none, hv s g] w fun e w' => e = .returned (.tuple #[.pointer none, .int .i64 6]) ∧ Ch [] w w' := by
  have HC := Lib.hid ((Ch.refl [] w).alloc (.cells #[.int .i64 s, .int .i64 g] 39))
  go_enter Tryz.func92, Tryz.ntmps92
  go_wp2
  go_ret2
  exact ⟨rfl, HC.out⟩

theorem at_range {w : World} {R G : Nat} {xs : List (Sl El)} (h : AC w R G xs) (s g : Int) (hs : s < 0 ∨ (xs.length : Int) ≤ s) :
    Calls Tryz.prog 92 #[.pointer (some ⟨R, 0, none⟩), hv s g] w fun e w' => e = .returned (.tuple #[.pointer none, .int .i64 2]) ∧ Ch [] w w' := by
  have HC := Lib.hid ((Ch.refl [] w).alloc (.cells #[.int .i64 s, .int .i64 g] 39))
  have hb := Box2.new w (.int .i64 s) (.int .i64 g) 39
  have ha := h.ch HC.out (by simp) (by simp)
  have hc := ha.c
  have n2 := h.n2
  obtain ⟨b0, b1, _, _⟩ := hb
  generalize xs.length = n at *
  clear h ha
  by_cases h0 : s < 0
  · have hd1 : decide (s < 0) = true := by simpa using h0
    clear hs
    go_enter Tryz.func92, Tryz.ntmps92
    go_wp2
    generalize w.alloc (.cells #[.int .i64 s, .int .i64 g] 39) = w1 at *
    generalize w.heap.size = B at *
    go_quiet (fail)
    go_wp2
    go_ret2
    exact ⟨rfl, HC.out.drewN _⟩
  · have h1 : (n : Int) ≤ s := by omega
    have hd1 : decide (s < 0) = false := by simpa using h0
    have hd2 : decide ((n : Int) ≤ s) = true := by simpa using h1
    clear hs
    go_enter Tryz.func92, Tryz.ntmps92
    go_wp2
    generalize w.alloc (.cells #[.int .i64 s, .int .i64 g] 39) = w1 at *
    generalize w.heap.size = B at *
    go_quiet (fail)
    go_wp2
    go_ret2
    exact ⟨rfl, HC.out.drewN _⟩

theorem at_ok {w : World} {R G : Nat} {xs : List (Sl El)} (h : AC w R G xs) (k : Nat) (hk : k < xs.length) (hh : (at0 xs k).held = true) :
    Calls Tryz.prog 92 #[.pointer (some ⟨R, 0, none⟩), hv k (at0 xs k).gen] w fun e w' => e = .returned (.tuple #[.pointer (some ⟨G, k * 8, none⟩), .int .i64 0]) ∧ Ch [] w w' := by
  obtain ⟨s, hs⟩ : ∃ s, s = at0 xs k := ⟨_, rfl⟩
  rw [← hs] at hh ⊢
  have HC := Lib.hid ((Ch.refl [] w).alloc (.cells #[.int .i64 (k : Int), .int .i64 (s.gen : Int)] 39))
  have hb := Box2.new w (.int .i64 (k : Int)) (.int .i64 (s.gen : Int)) 39
  have ha := h.ch HC.out (by simp) (by simp)
  have hc := ha.c
  have n2 := h.n2
  have hsl := ha.sl k hk
  rw [← hs] at hsl
  obtain ⟨b0, b1, _, _⟩ := hb
  have c0 := hsl.c0
  have c1 := hsl.c1
  have c2 := hsl.c2
  clear hsl
  generalize xs.length = n at *
  clear h ha hs
  obtain ⟨gen, b, x⟩ := s
  simp only at *
  subst hh
  have hd1 : decide ((k : Int) < 0) = false := by simp
  have hd2 : decide ((n : Int) ≤ (k : Int)) = false := by simp; omega
  have hb0 : (0 : Int) ≤ (k : Int) := by omega
  have hb1 : (k : Int) < (n : Int) := by omega
  have ht : ((k : Int)).toNat = k := rfl
  go_enter Tryz.func92, Tryz.ntmps92
  go_wp2
  generalize w.alloc (.cells #[.int .i64 (k : Int), .int .i64 (gen : Int)] 39) = w1 at *
  generalize w.heap.size = B at *
  go_quiet (fail)
  go_wp2
  go_quiet (fail)
  go_wp2
  go_quiet (fail)
  go_wp2
  go_ret2
  exact ⟨rfl, ((HC.out.drewN _).drewN _).drewN _⟩

theorem at_stale {w : World} {R G : Nat} {xs : List (Sl El)} (h : AC w R G xs) (k : Nat) (hk : k < xs.length) (g : Int) (hh : ¬ ((at0 xs k).held = true ∧ ((at0 xs k).gen : Int) = g)) :
    Calls Tryz.prog 92 #[.pointer (some ⟨R, 0, none⟩), hv k g] w fun e w' => e = .returned (.tuple #[.pointer none, .int .i64 7]) ∧ Ch [] w w' := by
  obtain ⟨s, hs⟩ : ∃ s, s = at0 xs k := ⟨_, rfl⟩
  rw [← hs] at hh
  have HC := Lib.hid ((Ch.refl [] w).alloc (.cells #[.int .i64 (k : Int), .int .i64 g] 39))
  have hb := Box2.new w (.int .i64 (k : Int)) (.int .i64 g) 39
  have ha := h.ch HC.out (by simp) (by simp)
  have hc := ha.c
  have n2 := h.n2
  have hsl := ha.sl k hk
  rw [← hs] at hsl
  obtain ⟨b0, b1, _, _⟩ := hb
  have c0 := hsl.c0
  have c1 := hsl.c1
  have c2 := hsl.c2
  clear hsl
  generalize xs.length = n at *
  clear h ha hs
  obtain ⟨gen, b, x⟩ := s
  simp only at *
  have hd1 : decide ((k : Int) < 0) = false := by simp
  have hd2 : decide ((n : Int) ≤ (k : Int)) = false := by simp; omega
  have hb0 : (0 : Int) ≤ (k : Int) := by omega
  have hb1 : (k : Int) < (n : Int) := by omega
  have ht : ((k : Int)).toNat = k := rfl
  cases b with
  | false =>
    clear hh
    go_enter Tryz.func92, Tryz.ntmps92
    go_wp2
    generalize w.alloc (.cells #[.int .i64 (k : Int), .int .i64 g] 39) = w1 at *
    generalize w.heap.size = B at *
    go_quiet (fail)
    go_wp2
    go_quiet (fail)
    go_wp2
    go_quiet (fail)
    go_wp2
    go_ret2
    exact ⟨rfl, ((HC.out.drewN _).drewN _).drewN _⟩
  | true =>
    have hg : ¬ ((gen : Int) = g) := fun e => hh ⟨rfl, e⟩
    have hdg : ((gen : Int) == g) = false := by simpa using hg
    clear hh
    go_enter Tryz.func92, Tryz.ntmps92
    go_wp2
    generalize w.alloc (.cells #[.int .i64 (k : Int), .int .i64 g] 39) = w1 at *
    generalize w.heap.size = B at *
    go_quiet (fail)
    go_wp2
    go_quiet (fail)
    go_wp2
    go_quiet (fail)
    go_wp2
    go_ret2
    exact ⟨rfl, ((HC.out.drewN _).drewN _).drewN _⟩

/-- at, as one answer for every handle. -/
theorem at_any {w : World} {R G : Nat} {xs : List (Sl El)} (h : AC w R G xs) (s g : Int) :
    Calls Tryz.prog 92 #[.pointer (some ⟨R, 0, none⟩), hv s g] w fun e w' => e = .returned (.tuple #[.pointer (if findE xs s g = 0 then some ⟨G, s.toNat * 8, none⟩ else none), .int .i64 (findE xs s g)]) ∧ Ch [] w w' := by
  by_cases hr : s < 0 ∨ (xs.length : Int) ≤ s
  · rw [findE_range hr, if_neg (by decide)]; exact at_range h s g hr
  · obtain ⟨k, rfl⟩ : ∃ k : Nat, s = (k : Int) := ⟨s.toNat, by omega⟩
    have hk : k < xs.length := by omega
    by_cases hh : (at0 xs k).held = true ∧ ((at0 xs k).gen : Int) = g
    · rw [findE_ok hk hh.1 hh.2, if_pos rfl, Int.toNat_natCast, ← hh.2]; exact at_ok h k hk hh.1
    · rw [findE_stale hk hh, if_neg (by decide)]; exact at_stale h k hk g hh
end Go.Proofs.YtalhlopjaijhcaaGreat.aE

namespace Go.Proofs.YtalhlopjaijhcaaGreat.aE
open Go.RowKit Go.Shelf

attribute [local go_sem] Oper.semAt_some

set_option maxRecDepth 100000 in
set_option maxHeartbeats 2000000 in
theorem count_in (n : Nat) {F : Nat} {q : Sl El → Bool} (hq : Asks F q) (p : Option Addr) (G : Nat) (xs : List (Sl El)) (w : World) (hL : LA w.heap.size w p G xs) :
    CallsIn Fence.wide (n + 6) Tryz.prog 82 #[.pointer p, .func (.func F) #[] #[]] w fun e W' =>
      e = .returned (.int .i64 ((sel xs q).length : Int)) ∧ Below w.heap.size w W' := by
  have h64 := hL.le
  have HL := Lib.hid hL
  have HQ := Lib.hid hq
  have HLe := Lib.hid (sel_len xs q)
  clear hL hq
  have hw : ∀ f, Fence.wide.fn f := fun _ => trivial
  have hd : Fence.wide.depth = none := rfl
  have h1 : 1 ≤ n + 6 := by omega
  refine callsIn_of_wp_marks Tryz.func82 rfl trivial ?_ rfl
  simp only [Tryz.ntmps82, List.size_toArray, List.length_cons, List.length_nil, Nat.reduceAdd, Nat.reduceSub, Array.replicate_succ, Array.replicate_zero, List.push_toArray, List.append_toArray, List.nil_append, List.cons_append]
  gi_wp2_with (gi_at_call 98; refine (those_in _ _ _ _).mono ?_; rintro e w' ⟨rfl, rfl⟩)
  obtain ⟨W0, hW0⟩ : ∃ W0, W0 = ((w.alloc (.cells #[.int .i64 0] 3)).alloc (.cells #[.pointer p] 76)).alloc (.cells #[.func (.func F) #[] #[]] 156) := ⟨_, rfl⟩
  have b0 : Boxed W0 w.heap.size 3 (.int .i64 0) := by rw [hW0]; exact ((Boxed.new w 3 (.int .i64 0)).alloc _).alloc _
  have b1 : Boxed W0 (w.heap.size + 1) 76 (.pointer p) := by
    rw [hW0]; have := (Boxed.new (w.alloc (.cells #[.int .i64 0] 3)) 76 (.pointer p)).alloc (.cells #[.func (.func F) #[] #[]] 156)
    rwa [World.size_alloc] at this
  have b2 : Boxed W0 (w.heap.size + 1 + 1) 156 (.func (.func F) #[] #[]) := by
    rw [hW0]; have := Boxed.new ((w.alloc (.cells #[.int .i64 0] 3)).alloc (.cells #[.pointer p] 76)) 156 (.func (.func F) #[] #[])
    rwa [World.size_alloc, World.size_alloc] at this
  have hB0 : Below w.heap.size w W0 := by rw [hW0]; exact ((((Below.refl _ w).alloc (Nat.le_refl _) _).alloc (by simp) _).alloc (by simp; omega) _)
  have hsz : W0.heap.size = w.heap.size + 1 + 1 + 1 := by rw [hW0]; simp
  have hL0 : LA w.heap.size W0 p G xs := HL.out.below hB0
  rw [← hW0]
  clear hW0 HL
  refine wpIn_rangeFunc_ownF rfl h1 (gf := 122) (lb := #[.pointer (some ⟨w.heap.size + 1, 0, none⟩), .pointer (some ⟨w.heap.size + 1 + 1, 0, none⟩)]) rfl trivial (enters_of Tryz.func122 (by kernel_rfl) rfl)
    (those_stops (n + 6 - 1) HQ.out (w.heap.size + 1) (w.heap.size + 1 + 1) w.heap.size p G xs W0 (by omega) b1 b2 hL0) kb_t (kb_b (by omega)) (Below.refl _ _) (fun _ => rfl)
    (fun pre W => (Boxed W w.heap.size 3 (.int .i64 (pre.length : Int)) ∧ Boxed W (w.heap.size + 1) 76 (.pointer p) ∧ Boxed W (w.heap.size + 1 + 1) 156 (.func (.func F) #[] #[])) ∧ Below w.heap.size w W)
    (fun _ _ _ => False)
    (OwnFrom.and (OwnFrom.and (Own.from (boxed_own w.heap.size 3 (fun pre : List (Such xs q) => .int .i64 (pre.length : Int))) _) (OwnFrom.and (Own.from (boxed_own (w.heap.size + 1) 76 (fun _ : List (Such xs q) => .pointer p)) _) (Own.from (boxed_own (w.heap.size + 1 + 1) 156 (fun _ : List (Such xs q) => .func (.func F) #[] #[])) _))) (ownFrom_below (Nat.le_refl _) (by omega)))
    (fun _ _ _ _ _ hs _ _ => hs)
    ⟨⟨b0, b1, b2⟩, hB0⟩
    (fun x => { tmps := #[.pointer p, .func (.func F) #[] #[], undef, undef, .int .i64 0, .pointer (some ⟨w.heap.size, 0, none⟩), .pointer p, .func (.func F) #[] #[], .func (.func 122) #[] #[.pointer (some ⟨w.heap.size + 1, 0, none⟩), .pointer (some ⟨w.heap.size + 1 + 1, 0, none⟩)], .pointer (some ⟨G, x.1 * 8, none⟩), undef, undef, undef], defers := [] }) ?assign ?body ?done ?stop
  case assign =>
    intro l x W K hK
    exact wpIn_skip (by simpa [Exit.then] using hK)
  case body =>
    rintro l pre x W ⟨⟨c0, c1, c2⟩, hB⟩ hlt
    have hc := c0.cell
    have hf := c0.frozen
    have h64' : (pre.length : Int) < 64 := by omega
    gi_wp2
    refine ⟨KeepsOthers.setCell _ _ _, ⟨(Below.refl _ _).setCell (p := ⟨w.heap.size, 0, none⟩) (Nat.le_refl _) _, fun v hv => hv.other (by omega) _, fun v hv => hv.other (by omega) _⟩, ⟨?_, c1.other (by omega) _, c2.other (by omega) _⟩, hB.setCell (p := ⟨w.heap.size, 0, none⟩) (Nat.le_refl _) _⟩
    have := c0.set (.int .i64 ((pre.length : Int) + 1))
    simpa using this
  case done =>
    rintro D ys W hD hys ⟨⟨c0, c1, c2⟩, hB⟩ hK
    have hl : ys.length = (sel xs q).length := by rw [← hys]; simp
    rw [hl] at c0
    have hc := c0.cell
    gi_wp2
    refine ⟨by simp, .inl ⟨_, _, rfl, run_takeDeferred hK, ?_⟩⟩
    exact ⟨_, results_tmp rfl _ _ _, rfl, hB.trans (belowK_b (w := w) (Nat.le_refl _) W D _ _ (by omega) hK rfl rfl)⟩
  case stop =>
    rintro D c pre W _ _ h _
    exact h.elim

theorem count_any {F : Nat} {q : Sl El → Bool} (hq : Asks F q) (p : Option Addr) (G : Nat) (xs : List (Sl El)) (w : World) (hL : LA w.heap.size w p G xs) :
    Calls Tryz.prog 82 #[.pointer p, .func (.func F) #[] #[]] w fun e W' =>
      e = .returned (.int .i64 ((sel xs q).length : Int)) ∧ Below w.heap.size w W' :=
  callsIn_wide.1 (count_in 0 hq p G xs w hL)

theorem room_la (p : Option Addr) (G : Nat) (xs : List (Sl El)) (w : World) (hL : LA w.heap.size w p G xs) :
    Calls Tryz.prog 119 #[.pointer p] w fun e W' => e = .returned (.int .i64 ((sel xs isFree).length : Int)) ∧ Below w.heap.size w W' := by
  have HC := Lib.hid (count_any asks_free p G xs w hL)
  clear hL
  go_enter Tryz.func119, Tryz.ntmps119
  go_wp2_with fail
  refine HC.out.mono ?_
  rintro e w' ⟨rfl, hB⟩
  go_wp2
  go_ret
  exact ⟨rfl, hB⟩
theorem len_la (p : Option Addr) (G : Nat) (xs : List (Sl El)) (w : World) (hL : LA w.heap.size w p G xs) :
    Calls Tryz.prog 53 #[.pointer p] w fun e W' => e = .returned (.int .i64 ((sel xs isHeld).length : Int)) ∧ Below w.heap.size w W' := by
  have HC := Lib.hid (count_any asks_holds p G xs w hL)
  clear hL
  go_enter Tryz.func53, Tryz.ntmps53
  go_wp2_with fail
  refine HC.out.mono ?_
  rintro e w' ⟨rfl, hB⟩
  go_wp2
  go_ret
  exact ⟨rfl, hB⟩
end Go.Proofs.YtalhlopjaijhcaaGreat.aE

namespace Go.Proofs.YtalhlopjaijhcaaGreat.aE
open Go.RowKit Go.Shelf

attribute [local go_sem] Oper.semAt_some

theorem AC.kept {W W' : World} {row : Option Nat} {R G : Nat} {xs : List (Sl El)} (h : AC W R G xs) (hg : W.grownBy W' row) (hr : ∀ r, row = some r → ∃ o : Obj, W.heap[r]? = some o ∧ o.isCells = false) : AC W' R G xs := by
  obtain ⟨o1, ho1, hc1⟩ := cells_of_cell h.c
  obtain ⟨o2, ho2, hc2⟩ := cells_of_cell (h.sl 0 h.n1).c0
  exact h.blocks (grownBy_keeps_cells hg hr ho1 hc1) (grownBy_keeps_cells hg hr ho2 hc2)

theorem BxE.kept {W W' : World} {row : Option Nat} {B : Nat} {e : El} (h : BxE W B e) (hg : W.grownBy W' row) (hr : ∀ r, row = some r → ∃ o : Obj, W.heap[r]? = some o ∧ o.isCells = false) : BxE W' B e := by
  obtain ⟨o1, ho1, hc1⟩ := cells_of_cell h.b0
  have hb := grownBy_keeps_cells hg hr ho1 hc1
  have c : ∀ o, W'.cell? ⟨B, o, none⟩ = W.cell? ⟨B, o, none⟩ := fun o => World.cell?_of_block (w := W) (a := ⟨B, o, none⟩) hb
  have f : ∀ o, W'.frozen? ⟨B, o, none⟩ = W.frozen? ⟨B, o, none⟩ := fun o => World.frozen?_of_block (w := W) (a := ⟨B, o, none⟩) hb
  exact ⟨(c _).trans h.b0, (c _).trans h.b1, (c _).trans h.b2, (c _).trans h.b3, (c _).trans h.b4, fun o => (f o).trans (h.f o)⟩
theorem keeps_stE (w : World) (G o : Nat) (e : El) : KeepsOthers w (stE w G o e) :=
  ((((KeepsOthers.setCell _ _ _).trans (KeepsOthers.setCell _ _ _)).trans (KeepsOthers.setCell _ _ _)).trans (KeepsOthers.setCell _ _ _)).trans (KeepsOthers.setCell _ _ _)

set_option maxRecDepth 100000 in
set_option maxHeartbeats 4000000 in
theorem put_in (n : Nat) (R G : Nat) (xs : List (Sl El)) (x : El) (w : World) (hA : AC w R G xs) :
    CallsIn Fence.wide (n + 6) Tryz.prog 70 #[.pointer (some ⟨R, 0, none⟩), elV x] w fun e W' =>
      e = .returned (.tuple #[.agg #[.int .i64 (putS xs), .int .i64 (putG xs)], .int .i64 (putErr xs)]) ∧ AC W' R G (putL xs x) ∧ Ch [G] w W' := by
  have HA := Lib.hid hA
  have hlt := hA.lt
  clear hA
  have hw : ∀ f, Fence.wide.fn f := fun _ => trivial
  have hd : Fence.wide.depth = none := rfl
  have h1 : 1 ≤ n + 6 := by omega
  refine callsIn_of_wp_marks Tryz.func70 rfl trivial ?_ rfl
  simp only [Tryz.ntmps70, List.size_toArray, List.length_cons, List.length_nil, Nat.reduceAdd, Nat.reduceSub, Array.replicate_succ, Array.replicate_zero, List.push_toArray, List.append_toArray, List.nil_append, List.cons_append]
  gi_wp2_with (gi_at_call 98; refine (those_in _ _ _ _).mono ?_; rintro e w' ⟨rfl, rfl⟩)
  obtain ⟨w1, hw1⟩ : ∃ w1, w1 = w.alloc (.cells (elC x) 84) := ⟨_, rfl⟩
  obtain ⟨w2, hw2⟩ : ∃ w2, w2 = w1.alloc (.cells #[.int .i64 0, .int .i64 0] 39) := ⟨_, rfl⟩
  obtain ⟨w3, hw3⟩ : ∃ w3, w3 = w2.alloc (.cells #[.int .i64 0] 32) := ⟨_, rfl⟩
  obtain ⟨w4, hw4⟩ : ∃ w4, w4 = w3.alloc (.cells #[.pointer (some ⟨R, 0, none⟩)] 76) := ⟨_, rfl⟩
  obtain ⟨W0, hW0⟩ : ∃ W0, W0 = w4.alloc (.cells #[.func (.func 99) #[] #[]] 156) := ⟨_, rfl⟩
  have s1 : w1.heap.size = w.heap.size + 1 := by rw [hw1]; simp
  have s2 : w2.heap.size = w.heap.size + 1 + 1 := by rw [hw2]; simp [s1]
  have s3 : w3.heap.size = w.heap.size + 1 + 1 + 1 := by rw [hw3]; simp [s2]
  have s4 : w4.heap.size = w.heap.size + 1 + 1 + 1 + 1 := by rw [hw4]; simp [s3]
  have hsz : W0.heap.size = w.heap.size + 1 + 1 + 1 + 1 + 1 := by rw [hW0]; simp [s4]
  have bx : BxE W0 w.heap.size x := by
    rw [hW0, hw4, hw3, hw2, hw1]
    have h0 : Ch [] (w.alloc (.cells (elC x) 84)) (((((w.alloc (.cells (elC x) 84)).alloc (.cells #[.int .i64 0, .int .i64 0] 39)).alloc (.cells #[.int .i64 0] 32)).alloc (.cells #[.pointer (some ⟨R, 0, none⟩)] 76)).alloc (.cells #[.func (.func 99) #[] #[]] 156)) := ((((Ch.refl [] _).alloc _).alloc _).alloc _).alloc _
    exact (BxE.new w x 84).ch h0 (by simp)
  have bh : Box2 W0 (w.heap.size + 1) (.int .i64 0) (.int .i64 0) := by
    have := (((Box2.new w1 (.int .i64 0) (.int .i64 0) 39).alloc (.cells #[.int .i64 0] 32)).alloc (.cells #[.pointer (some ⟨R, 0, none⟩)] 76)).alloc (.cells #[.func (.func 99) #[] #[]] 156)
    rw [← hw2, ← hw3, ← hw4, ← hW0, s1] at this
    exact this
  have be : Boxed W0 (w.heap.size + 1 + 1) 32 (.int .i64 0) := by
    rw [hW0, hw4, hw3, ← s2]; exact ((Boxed.new w2 _ _).alloc _).alloc _
  have ba : Boxed W0 (w.heap.size + 1 + 1 + 1) 76 (.pointer (some ⟨R, 0, none⟩)) := by
    rw [hW0, hw4, ← s3]; exact (Boxed.new w3 _ _).alloc _
  have bf : Boxed W0 (w.heap.size + 1 + 1 + 1 + 1) 156 (.func (.func 99) #[] #[]) := by
    rw [hW0, ← s4]; exact Boxed.new w4 _ _
  have hB0 : Below w.heap.size w W0 := by
    rw [hW0, hw4, hw3, hw2, hw1]; exact ((((((Below.refl _ w).alloc (Nat.le_refl _) _).alloc (by simp) _).alloc (by simp; omega) _).alloc (by simp; omega) _).alloc (by simp; omega) _)
  rw [← hw1, ← hw2, ← hw3, ← hw4, ← hW0]
  have hL0 : LA w.heap.size W0 (some ⟨R, 0, none⟩) G xs := .inr ⟨R, rfl, hlt.1, hlt.2, HA.out.below hB0 hlt.1 hlt.2⟩
  clear hW0 hw1 hw2 hw3 hw4 s1 s2 s3 s4
  refine wpIn_rangeFunc_ownF rfl h1 (gf := 122) (lb := #[.pointer (some ⟨w.heap.size + 1 + 1 + 1, 0, none⟩), .pointer (some ⟨w.heap.size + 1 + 1 + 1 + 1, 0, none⟩)]) rfl trivial (enters_of Tryz.func122 (by kernel_rfl) rfl)
    (those_stops (n + 6 - 1) asks_free (w.heap.size + 1 + 1 + 1) (w.heap.size + 1 + 1 + 1 + 1) w.heap.size (some ⟨R, 0, none⟩) G xs W0 (by omega) ba bf hL0) kb_t (kb_b (by omega)) (Below.refl _ _) (fun _ => rfl)
    (fun pre W => (vals pre = [] ∧ BxE W w.heap.size x ∧ (W.cell? ⟨w.heap.size + 1, 0, none⟩ = some (.int .i64 0) ∧ W.cell? ⟨w.heap.size + 1, 1, none⟩ = some (.int .i64 0) ∧ W.frozen? ⟨w.heap.size + 1, 0, none⟩ = false ∧ W.frozen? ⟨w.heap.size + 1, 1, none⟩ = false) ∧
      (W.cell? ⟨w.heap.size + 1 + 1, 0, none⟩ = some (.int .i64 0) ∧ W.frozen? ⟨w.heap.size + 1 + 1, 0, none⟩ = false)) ∧ Below w.heap.size w W)
    (fun c pre W => (c = .ret ∧ ∃ k, vals pre = [k] ∧ k < xs.length ∧ isFree (at0 xs k) = true ∧ W.cell? ⟨w.heap.size + 1, 0, none⟩ = some (.int .i64 (k : Int)) ∧ W.cell? ⟨w.heap.size + 1, 1, none⟩ = some (.int .i64 ((at0 xs k).gen : Int)) ∧ W.cell? ⟨w.heap.size + 1 + 1, 0, none⟩ = some (.int .i64 0) ∧ AC W R G (xs.set k ⟨(at0 xs k).gen, true, x⟩)) ∧ Ch [G] w W)
    (OwnFrom.and (Own.from (fun s A B row hs hg hr => ⟨hs.1, hs.2.1.kept hg hr, ⟨cell_kept hs.2.2.1.1 hg hr, cell_kept hs.2.2.1.2.1 hg hr, (frozen_kept hs.2.2.1.1 hg hr).trans hs.2.2.1.2.2.1, (frozen_kept hs.2.2.1.2.1 hg hr).trans hs.2.2.1.2.2.2⟩, cell_kept hs.2.2.2.1 hg hr, (frozen_kept hs.2.2.2.1 hg hr).trans hs.2.2.2.2⟩) _) (ownFrom_below (Nat.le_refl _) (by omega)))
    (fun c => OwnFrom.and (Own.from (fun s A B row hs hg hr => by
      obtain ⟨h1, k, h2, h3, h4, h5, h6, h7, h8⟩ := hs
      exact ⟨h1, k, h2, h3, h4, cell_kept h5 hg hr, cell_kept h6 hg hr, cell_kept h7 hg hr, h8.kept hg hr⟩) _) (fun s A B row hs hg hr => hs.kept hg (fun r e => by have := (hr r e).1; omega)))
    ⟨⟨rfl, bx, ⟨bh.c0, bh.c1, bh.f0, bh.f1⟩, be.cell, be.frozen⟩, hB0⟩
    (fun y => { tmps := #[.pointer (some ⟨R, 0, none⟩), elV x, undef, .pointer (some ⟨w.heap.size, 0, none⟩), .pointer (some ⟨w.heap.size + 1, 0, none⟩), .pointer (some ⟨w.heap.size + 1 + 1, 0, none⟩), .pointer (some ⟨G, y.1 * 8, none⟩), .pointer (some ⟨R, 0, none⟩), .bool false, undef, .pointer (some ⟨R, 0, none⟩), .func (.func 122) #[] #[.pointer (some ⟨w.heap.size + 1 + 1 + 1, 0, none⟩), .pointer (some ⟨w.heap.size + 1 + 1 + 1 + 1, 0, none⟩)], .pointer (some ⟨G, y.1 * 8, none⟩), undef, undef, undef, undef, undef, undef, undef, undef, undef, undef, undef, undef], defers := [] }) ?assign ?body ?done ?stop
  case assign =>
    intro l x W K hK
    gi_wp2
    exact hK
  case body =>
    rintro l pre y W ⟨⟨hp, hx, ⟨h0, h1', g0, g1⟩, he, ge⟩, hB⟩ _
    obtain ⟨k, hk⟩ : ∃ k, k = y.1 := ⟨_, rfl⟩
    obtain ⟨hkl, hkf⟩ := y.2
    have hvals : vals (pre ++ [y]) = [k] := by simp only [vals, List.map_append] at hp ⊢; rw [hp]; simp [hk]
    rw [← hk] at hkl hkf ⊢
    have HV := Lib.hid hvals
    have HK := Lib.hid (And.intro hkl hkf)
    have hA := HA.out.below hB hlt.1 hlt.2
    have HAW := Lib.hid hA
    have HB := Lib.hid hB
    obtain ⟨c0, c1, c2, c3, c4, c5, c6, c7, ff⟩ := hA.sl k hkl
    have HN := Lib.hid (show ∀ (o a b : Nat), (⟨G, a, none⟩ : Addr) ≠ ⟨w.heap.size + o, b, none⟩ from fun o a b => addr_ne_block (by omega))
    clear hp hk hkl hkf hvals hA hB hL0 bx bh be ba bf hB0 HA hsz
    obtain ⟨g, hg⟩ : ∃ g, g = (at0 xs k).gen := ⟨_, rfl⟩
    rw [← hg] at c1
    have HG := Lib.hid hg
    clear hg
    gi_wp2
    refine wpIn_mono (Q := fun e a' w' => e = .normal ∧ a' = { tmps := #[.pointer (some ⟨R, 0, none⟩), elV x, undef, .pointer (some ⟨w.heap.size, 0, none⟩), .pointer (some ⟨w.heap.size + 1, 0, none⟩), .pointer (some ⟨w.heap.size + 1 + 1, 0, none⟩), .pointer (some ⟨G, k * 8, none⟩), .pointer (some ⟨R, 0, none⟩), .bool false, undef, .pointer (some ⟨R, 0, none⟩), .func (.func 122) #[] #[.pointer (some ⟨w.heap.size + 1 + 1 + 1, 0, none⟩), .pointer (some ⟨w.heap.size + 1 + 1 + 1 + 1, 0, none⟩)], .pointer (some ⟨G, k * 8, none⟩), .pointer (some ⟨G, k * 8, none⟩), .pointer (some ⟨G, k * 8, none⟩), elV x, .pointer (some ⟨G, k * 8, none⟩), .pointer (some ⟨G, k * 8 + 2, none⟩), .pointer (some ⟨G, k * 8, none⟩), .pointer (some ⟨G, k * 8 + 3, none⟩), undef, undef, undef, undef, undef], defers := [] } ∧ w' = stE (W.drew.setCell ⟨G, k * 8 + 2, none⟩ (.bool true)) G (k * 8 + 3) x) ?reg ?post
    case reg =>
      obtain ⟨B, hB⟩ : ∃ B, B = w.heap.size := ⟨_, rfl⟩
      have HNB := Lib.hid (show B ≠ G by omega)
      rw [← hB] at hx ⊢
      have HX := Lib.hid hx
      clear hB h0 h1' g0 g1 he ge hx
      have f2 := ff (k * 8 + 2)
      have HBx := Lib.hid (show BxE (W.drew.setCell ⟨G, k * 8 + 2, none⟩ (.bool true)) B x from BxE.far (w := W.drew) ⟨HX.out.b0, HX.out.b1, HX.out.b2, HX.out.b3, HX.out.b4, HX.out.f⟩ (Ne.symm HNB.out) _)
      refine wpIn_region_round (by kernel_rfl) (by kernel_rfl) (fun ⟨_, _, h⟩ => nomatch h.1) (S := fun w' => w'.cell? ⟨B, 0, none⟩ = some (.int .u64 (x.k : Int)) ∧ w'.cell? ⟨B, 1, none⟩ = some (.int .u64 (x.v 0 : Int)) ∧ w'.cell? ⟨B, 2, none⟩ = some (.int .u64 (x.v 1 : Int)) ∧ w'.cell? ⟨B, 3, none⟩ = some (.int .u64 (x.v 2 : Int)) ∧ w'.cell? ⟨B, 4, none⟩ = some (.int .u64 (x.v 3 : Int))) ⟨HX.out.b0, HX.out.b1, HX.out.b2, HX.out.b3, HX.out.b4⟩ (fun hHeld => ?_)
      refine wpAnyH_take (i := 0) (oi := { dst := some 13, op := _, type := _, pos := _, after := _, guard := _ }) (v := ?v1_0) rfl (by kernel_rfl) (by kernel_rfl) (by kernel_rfl) (by intro _ _ _ h; first | exact h | exact nomatch h.1) (.inl ⟨by rfl, ?h1_0⟩) (by assumption) ?_
      case h1_0 => intro w hSw; obtain ⟨hs0, hs1, hs2, hs3, hs4⟩ := hSw; go_simp; (try with_reducible rfl)
      try simp only [Act.put, List.setIfInBounds_toArray, List.set_cons_zero, List.set_cons_succ]
      refine wpAnyH_take (i := 1) (oi := { dst := some 14, op := _, type := _, pos := _, after := _, guard := _ }) (v := ?v2_1) rfl (by kernel_rfl) (by kernel_rfl) (by kernel_rfl) (by intro _ _ _ h; first | exact h | exact nomatch h.1) (.inl ⟨by rfl, ?h2_1⟩) (by assumption) ?_
      case h2_1 => intro w hSw; obtain ⟨hs0, hs1, hs2, hs3, hs4⟩ := hSw; go_simp; (try with_reducible rfl)
      try simp only [Act.put, List.setIfInBounds_toArray, List.set_cons_zero, List.set_cons_succ]
      refine wpAnyH_take (i := 2) (oi := { dst := some 15, op := _, type := _, pos := _, after := _, guard := _ }) (v := ?v3_2) rfl (by kernel_rfl) (by kernel_rfl) (by kernel_rfl) (by intro _ _ _ h; first | exact h | exact nomatch h.1) (.inl ⟨by rfl, ?h3_2⟩) (by assumption) ?_
      case h3_2 => intro w hSw; obtain ⟨hs0, hs1, hs2, hs3, hs4⟩ := hSw; go_simp; (try with_reducible rfl)
      try simp only [Act.put, List.setIfInBounds_toArray, List.set_cons_zero, List.set_cons_succ]
      refine wpAnyH_take (i := 3) (oi := { dst := some 16, op := _, type := _, pos := _, after := _, guard := _ }) (v := ?v4_3) rfl (by kernel_rfl) (by kernel_rfl) (by kernel_rfl) (by intro _ _ _ h; first | exact h | exact nomatch h.1) (.inl ⟨by rfl, ?h4_3⟩) (by assumption) ?_
      case h4_3 => intro w hSw; obtain ⟨hs0, hs1, hs2, hs3, hs4⟩ := hSw; go_simp; (try with_reducible rfl)
      try simp only [Act.put, List.setIfInBounds_toArray, List.set_cons_zero, List.set_cons_succ]
      refine wpAnyH_take (i := 4) (oi := { dst := some 17, op := _, type := _, pos := _, after := _, guard := _ }) (v := ?v5_4) rfl (by kernel_rfl) (by kernel_rfl) (by kernel_rfl) (by intro _ _ _ h; first | exact h | exact nomatch h.1) (.inl ⟨by rfl, ?h5_4⟩) (by assumption) ?_
      case h5_4 => intro w hSw; obtain ⟨hs0, hs1, hs2, hs3, hs4⟩ := hSw; go_simp; (try with_reducible rfl)
      try simp only [Act.put, List.setIfInBounds_toArray, List.set_cons_zero, List.set_cons_succ]
      refine wpAnyH_ready (rs := [5]) (by kernel_rfl) (by simp) ?_
      refine AllReadyH.cons (o := { dst := none, op := _, type := _, pos := _, after := _, guard := _ }) rfl (fun K hK => ?_) AllReadyH.nil
      go_simp
      refine hK.out _ _ ⟨HBx.out.b0, HBx.out.b1, HBx.out.b2, HBx.out.b3, HBx.out.b4⟩ (fun hHeld => ?_)
      clear hK K
      try simp only [Act.put, List.setIfInBounds_toArray, List.set_cons_zero, List.set_cons_succ]
      refine wpAnyH_take (i := 6) (oi := { dst := some 18, op := _, type := _, pos := _, after := _, guard := _ }) (v := ?v6_6) rfl (by kernel_rfl) (by kernel_rfl) (by kernel_rfl) (by intro _ _ _ h; first | exact h | exact nomatch h.1) (.inl ⟨by rfl, ?h6_6⟩) (by assumption) ?_
      case h6_6 => intro w hSw; obtain ⟨hs0, hs1, hs2, hs3, hs4⟩ := hSw; go_simp; (try with_reducible rfl)
      try simp only [Act.put, List.setIfInBounds_toArray, List.set_cons_zero, List.set_cons_succ]
      refine wpAnyH_take (i := 7) (oi := { dst := some 19, op := _, type := _, pos := _, after := _, guard := _ }) (v := ?v7_7) rfl (by kernel_rfl) (by kernel_rfl) (by kernel_rfl) (by intro _ _ _ h; first | exact h | exact nomatch h.1) (.inl ⟨by rfl, ?h7_7⟩) (by assumption) ?_
      case h7_7 => intro w hSw; obtain ⟨hs0, hs1, hs2, hs3, hs4⟩ := hSw; go_simp; (try with_reducible rfl)
      try simp only [Act.put, List.setIfInBounds_toArray, List.set_cons_zero, List.set_cons_succ]
      clear c0 c1 c2 f2
      obtain ⟨w2, hw2⟩ : ∃ w2, w2 = W.drew.setCell ⟨G, k * 8 + 2, none⟩ (.bool true) := ⟨_, rfl⟩
      have n : ∀ {a b : Nat}, a ≠ b → (⟨G, a, none⟩ : Addr) ≠ ⟨G, b, none⟩ := fun h => addr_ne_off h
      have g3 : w2.cell? ⟨G, k * 8 + 3, none⟩ = some (.int .u64 ((at0 xs k).x.k : Int)) := by rw [hw2]; exact setCell_other (w := W.drew) c3 (n (by omega))
      have g4 : w2.cell? ⟨G, k * 8 + 3 + 1, none⟩ = some (.int .u64 ((at0 xs k).x.v 0 : Int)) := by rw [hw2]; exact setCell_other (w := W.drew) c4 (n (by omega))
      have g5 : w2.cell? ⟨G, k * 8 + 3 + 2, none⟩ = some (.int .u64 ((at0 xs k).x.v 1 : Int)) := by rw [hw2]; exact setCell_other (w := W.drew) c5 (n (by omega))
      have g6 : w2.cell? ⟨G, k * 8 + 3 + 3, none⟩ = some (.int .u64 ((at0 xs k).x.v 2 : Int)) := by rw [hw2]; exact setCell_other (w := W.drew) c6 (n (by omega))
      have g7 : w2.cell? ⟨G, k * 8 + 3 + 4, none⟩ = some (.int .u64 ((at0 xs k).x.v 3 : Int)) := by rw [hw2]; exact setCell_other (w := W.drew) c7 (n (by omega))
      have gf : ∀ o, w2.frozen? ⟨G, o, none⟩ = false := fun o => by rw [hw2]; simpa using ff o
      obtain ⟨g4', g5', g6', g7'⟩ := stE_at (e' := x) ⟨g3, g4, g5, g6, g7⟩
      have HBx2 := Lib.hid (show BxE (stE w2 G (k * 8 + 3) x) B x from hw2 ▸ HBx.out.ch (ch_stE (Ch.refl [G] _) (.inl (by simp)) _ _) (by simpa using HNB.out))
      have ff3 := gf (k * 8 + 3)
      have ff4 := gf (k * 8 + 3 + 1)
      have ff5 := gf (k * 8 + 3 + 2)
      have ff6 := gf (k * 8 + 3 + 3)
      have ff7 := gf (k * 8 + 3 + 4)
      change wpAnyH _ _ _ _ _ _ _ _ (W.drew.setCell ⟨G, k * 8 + 2, none⟩ (.bool true))
      rw [← hw2]
      clear hw2 c3 c4 c5 c6 c7 ff gf n hHeld
      refine wpAnyH_ready (rs := [8]) (by kernel_rfl) (by simp) ?_
      refine AllReadyH.cons (o := { dst := none, op := _, type := _, pos := _, after := _, guard := _ }) rfl (fun K hK => ?_) AllReadyH.nil
      go_simp
      refine hK.out _ _ ⟨HBx2.out.b0, HBx2.out.b1, HBx2.out.b2, HBx2.out.b3, HBx2.out.b4⟩ (fun hHeld => ?_)
      clear hK K
      try simp only [Act.put, List.setIfInBounds_toArray, List.set_cons_zero, List.set_cons_succ]
      refine wpAnyH_done (by kernel_rfl) ?_ _
      exact ⟨rfl, rfl, rfl⟩
    case post =>
      rintro e a' w' ⟨rfl, rfl, rfl⟩
      have hA1 : AC W.drew R G xs := HAW.out.blocks rfl rfl
      have hfr := free_held HK.out.2
      have hA2 := hA1.held' k HK.out.1 true x ⟨by show (at0 xs k).gen ≤ 256; omega, fun _ => hfr.2⟩
      have hC : Ch [G] W (stE (W.drew.setCell ⟨G, k * 8 + 2, none⟩ (.bool true)) G (k * 8 + 3) x) := ch_stE ((Ch.refl [G] W).drew.setCell (p := ⟨G, k * 8 + 2, none⟩) (by simp) _) (.inl (by simp)) _ _
      have hKO : KeepsOthers W (stE (W.drew.setCell ⟨G, k * 8 + 2, none⟩ (.bool true)) G (k * 8 + 3) x) :=
        have q : KeepsOthers W.drew _ := (KeepsOthers.setCell W.drew ⟨G, k * 8 + 2, none⟩ (.bool true)).trans (keeps_stE _ G (k * 8 + 3) x)
        ⟨q.size, q.same⟩
      obtain ⟨W1, hW1⟩ : ∃ W1, W1 = stE (W.drew.setCell ⟨G, k * 8 + 2, none⟩ (.bool true)) G (k * 8 + 3) x := ⟨_, rfl⟩
      rw [← hW1] at hA2 hC hKO ⊢
      obtain ⟨d0, d1, _, _, _, _, _, _, _⟩ := hA2.sl k (by simpa using HK.out.1)
      rw [at0_set_same _ _ _ HK.out.1] at d1
      rw [← HG.out] at d1
      have n0 : ∀ o, (w.heap.size + o) ∉ [G] := fun o => by simp; omega
      have i0 := (hC.cell (p := ⟨w.heap.size + 1, 0, none⟩) (cell_lt h0) (n0 1)).trans h0
      have i1 := (hC.cell (p := ⟨w.heap.size + 1, 1, none⟩) (cell_lt h1') (n0 1)).trans h1'
      have j0 := (hC.frozen (p := ⟨w.heap.size + 1, 0, none⟩) (cell_lt h0) (n0 1)).trans g0
      have j1 := (hC.frozen (p := ⟨w.heap.size + 1, 1, none⟩) (cell_lt h1') (n0 1)).trans g1
      have i2 := (hC.cell (p := ⟨w.heap.size + 1 + 1, 0, none⟩) (cell_lt he) (n0 2)).trans he
      have j2 := (hC.frozen (p := ⟨w.heap.size + 1 + 1, 0, none⟩) (cell_lt he) (n0 2)).trans ge
      have i3 := setCell_other (u := Value.int .i64 (g : Int)) (setCell_other (u := Value.int .i64 (k : Int)) i2 (addr_ne_block (g := w.heap.size + 1) (a := 0) (by omega))) (addr_ne_block (g := w.heap.size + 1) (a := 1) (by omega))
      have HA2 := Lib.hid hA2
      have HC := Lib.hid hC
      have HKO := Lib.hid hKO
      have hbx : Box2 W1 (w.heap.size + 1) (.int .i64 0) (.int .i64 0) := ⟨i0, i1, j0, j1⟩
      have HBX := Lib.hid hbx
      clear hA2 hC hKO hW1 hbx n0 h0 h1' g0 g1 he ge hx c0 c1 c2 c3 c4 c5 c6 c7 ff hA1 hfr
      gi_wp2
      have hb2 := HBX.out.set (.int .i64 (k : Int)) (.int .i64 (g : Int))
      have hfar : ∀ o, (w.heap.size + o) ≠ R ∧ (w.heap.size + o) ≠ G := fun o => by omega
      have hA3 := ((HA2.out.far (p := ⟨w.heap.size + 1, 0, none⟩) (hfar 1).1 (hfar 1).2 (.int .i64 (k : Int))).far (p := ⟨w.heap.size + 1, 1, none⟩) (hfar 1).1 (hfar 1).2 (.int .i64 (g : Int))).far (p := ⟨w.heap.size + 1 + 1, 0, none⟩) (hfar 2).1 (hfar 2).2 (.int .i64 0)
      have hC0 : Ch [G] w W1 := (Ch.of_below HB.out).trans HC.out
      have hC3 := ((chSetNew (chSetNew (chSetNew hC0 (p := ⟨w.heap.size + 1, 0, none⟩) (by simp) (.int .i64 (k : Int))) (p := ⟨w.heap.size + 1, 1, none⟩) (by simp) (.int .i64 (g : Int))) (p := ⟨w.heap.size + 1 + 1, 0, none⟩) (by simp; omega) (.int .i64 0)))
      have hne : (⟨w.heap.size + 1 + 1, 0, none⟩ : Addr).block ≠ w.heap.size + 1 := by simp
      have hgg := HG.out
      refine ⟨HKO.out.trans (((KeepsOthers.setCell _ _ _).trans (KeepsOthers.setCell _ _ _)).trans (KeepsOthers.setCell _ _ _)), ⟨rfl, k, HV.out, HK.out.1, HK.out.2, ?_, ?_, setCell_same i3, hA3⟩, hC3⟩
      · exact setCell_other hb2.c0 (addr_ne_block (by omega))
      · rw [← hgg]; exact setCell_other hb2.c1 (addr_ne_block (by omega))
  case done =>
    rintro D ys W hD hys ⟨⟨hp, hx, ⟨h0, h1', g0, g1⟩, he, ge⟩, hB⟩ hK
    have hno : firstOf xs isFree = none := by unfold firstOf; rw [← hys, hp]; rfl
    obtain ⟨e1, e2, e3⟩ := putA_none hno
    have HE := Lib.hid (And.intro e1 (And.intro e2 (And.intro e3 (putL_none (x := x) hno))))
    have hB' := HA.out.below hB hlt.1 hlt.2
    have HBW := Lib.hid hB
    have HAW := Lib.hid hB'
    have hh := setCell_other (u := Value.int .i64 0) (setCell_other (u := Value.int .i64 0) he (addr_ne_block (g := w.heap.size + 1) (a := 0) (by omega))) (addr_ne_block (g := w.heap.size + 1) (a := 1) (by omega))
    clear e1 e2 e3 hno hB hB' hp hx hys bx bh be ba bf hB0 hL0
    gi_wp2
    have hbx : Box2 W (w.heap.size + 1) (.int .i64 0) (.int .i64 0) := ⟨h0, h1', g0, g1⟩
    have hb2 := hbx.set (.int .i64 0) (.int .i64 0)
    have hfar : ∀ o, (w.heap.size + o) ≠ R ∧ (w.heap.size + o) ≠ G := fun o => by omega
    have hA3 := ((HAW.out.far (p := ⟨w.heap.size + 1, 0, none⟩) (hfar 1).1 (hfar 1).2 (.int .i64 0)).far (p := ⟨w.heap.size + 1, 1, none⟩) (hfar 1).1 (hfar 1).2 (.int .i64 0)).far (p := ⟨w.heap.size + 1 + 1, 0, none⟩) (hfar 2).1 (hfar 2).2 (.int .i64 3)
    have hC3 := ((chSetNew (chSetNew (chSetNew (Ch.of_below (S := [G]) HBW.out) (p := ⟨w.heap.size + 1, 0, none⟩) (by simp) (.int .i64 0)) (p := ⟨w.heap.size + 1, 1, none⟩) (by simp) (.int .i64 0)) (p := ⟨w.heap.size + 1 + 1, 0, none⟩) (by simp; omega) (.int .i64 3)))
    have e0 := setCell_other (u := Value.int .i64 3) hb2.c0 (addr_ne_block (g := w.heap.size + 1 + 1) (a := 0) (by omega))
    have e1 := setCell_other (u := Value.int .i64 3) hb2.c1 (addr_ne_block (g := w.heap.size + 1 + 1) (a := 0) (by omega))
    have e2 := setCell_same (u := Value.int .i64 3) hh
    have hK' := (((KeepsOthers.setCell W ⟨w.heap.size + 1, 0, none⟩ (.int .i64 0)).trans (KeepsOthers.setCell _ ⟨w.heap.size + 1, 1, none⟩ (.int .i64 0))).trans (KeepsOthers.setCell _ ⟨w.heap.size + 1 + 1, 0, none⟩ (.int .i64 3))).same D _ hK rfl
    clear hbx hb2 h0 h1' g0 g1 he ge hh
    generalize ((W.setCell ⟨w.heap.size + 1, 0, none⟩ (.int .i64 0)).setCell ⟨w.heap.size + 1, 1, none⟩ (.int .i64 0)).setCell ⟨w.heap.size + 1 + 1, 0, none⟩ (.int .i64 3) = W9 at *
    refine ⟨by simp, .inl ⟨_, _, rfl, run_takeDeferred hK', ?_⟩⟩
    have h5 := cell_kept e0 (grownBy_putObj' _ D (.deferred none)) (fun r e => by cases e; exact ⟨_, hK', rfl⟩)
    have h6 := cell_kept e1 (grownBy_putObj' _ D (.deferred none)) (fun r e => by cases e; exact ⟨_, hK', rfl⟩)
    have h7 := cell_kept e2 (grownBy_putObj' _ D (.deferred none)) (fun r e => by cases e; exact ⟨_, hK', rfl⟩)
    have h8 := hA3.kept (grownBy_putObj' _ D (.deferred none)) (fun r e => by cases e; exact ⟨_, hK', rfl⟩)
    refine ⟨.tuple #[.agg #[.int .i64 0, .int .i64 0], .int .i64 3], ?_, by rw [HE.out.1, HE.out.2.1, HE.out.2.2.1], by rw [HE.out.2.2.2]; exact h8, hC3.kept (grownBy_putObj' _ D (.deferred none)) (fun r e => by cases e; omega)⟩
    simp [results, Tryz.f70, go_sem, h5, h6, h7]
  case stop =>
    rintro D c pre W hD hpre ⟨⟨rfl, k, hk, hkl, hkf, hc0, hc1, hc2, hA⟩, hC⟩ hK
    have hyes : firstOf xs isFree = some k := firstOf_prefix (hk ▸ hpre)
    obtain ⟨e1, e2, e3⟩ := putA_some hyes
    have HE := Lib.hid (And.intro e1 (And.intro e2 (And.intro e3 (putL_some (x := x) hyes))))
    clear e1 e2 e3 hyes bx bh be ba bf hB0 hL0
    gi_wp2
    refine ⟨by simp, .inl ⟨_, _, rfl, run_takeDeferred hK, ?_⟩⟩
    have h5 := cell_kept hc0 (grownBy_putObj' _ D (.deferred none)) (fun r e => by cases e; exact ⟨_, hK, rfl⟩)
    have h6 := cell_kept hc1 (grownBy_putObj' _ D (.deferred none)) (fun r e => by cases e; exact ⟨_, hK, rfl⟩)
    have h7 := cell_kept hc2 (grownBy_putObj' _ D (.deferred none)) (fun r e => by cases e; exact ⟨_, hK, rfl⟩)
    have h8 := hA.kept (grownBy_putObj' _ D (.deferred none)) (fun r e => by cases e; exact ⟨_, hK, rfl⟩)
    refine ⟨.tuple #[.agg #[.int .i64 (k : Int), .int .i64 ((at0 xs k).gen : Int)], .int .i64 0], ?_, by rw [HE.out.1, HE.out.2.1, HE.out.2.2.1], by rw [HE.out.2.2.2]; exact h8, hC.kept (grownBy_putObj' _ D (.deferred none)) (fun r e => by cases e; omega)⟩
    simp [results, Tryz.f70, go_sem, h5, h6, h7]

theorem put_any {w : World} {R G : Nat} {xs : List (Sl El)} (h : AC w R G xs) (x : El) :
    Calls Tryz.prog 70 #[.pointer (some ⟨R, 0, none⟩), elV x] w fun e W' =>
      e = .returned (.tuple #[.agg #[.int .i64 (putS xs), .int .i64 (putG xs)], .int .i64 (putErr xs)]) ∧ AC W' R G (putL xs x) ∧ Ch [G] w W' :=
  callsIn_wide.1 (put_in 0 R G xs x w h)
end Go.Proofs.YtalhlopjaijhcaaGreat.aE

namespace Go.Proofs.YtalhlopjaijhcaaGreat.aE
open Go.RowKit

attribute [local go_sem] Oper.semAt_some

theorem boxE_at {w : World} {B : Nat} {e : El} (h : BxE w B e) (e' : El) : w.cell? ⟨B, 0, none⟩ = some (.int .u64 (e.k : Int)) ∧ w.frozen? ⟨B, 0, none⟩ = false ∧ w.frozen? ⟨B, 1, none⟩ = false ∧ w.frozen? ⟨B, 2, none⟩ = false ∧ w.frozen? ⟨B, 3, none⟩ = false ∧ w.frozen? ⟨B, 4, none⟩ = false ∧
    (w.setCell ⟨B, 0, none⟩ (.int .u64 (e'.k : Int))).cell? ⟨B, 1, none⟩ = some (.int .u64 (e.v 0 : Int)) ∧
    ((w.setCell ⟨B, 0, none⟩ (.int .u64 (e'.k : Int))).setCell ⟨B, 1, none⟩ (.int .u64 (e'.v 0 : Int))).cell? ⟨B, 2, none⟩ = some (.int .u64 (e.v 1 : Int)) ∧
    (((w.setCell ⟨B, 0, none⟩ (.int .u64 (e'.k : Int))).setCell ⟨B, 1, none⟩ (.int .u64 (e'.v 0 : Int))).setCell ⟨B, 2, none⟩ (.int .u64 (e'.v 1 : Int))).cell? ⟨B, 3, none⟩ = some (.int .u64 (e.v 2 : Int)) ∧
    ((((w.setCell ⟨B, 0, none⟩ (.int .u64 (e'.k : Int))).setCell ⟨B, 1, none⟩ (.int .u64 (e'.v 0 : Int))).setCell ⟨B, 2, none⟩ (.int .u64 (e'.v 1 : Int))).setCell ⟨B, 3, none⟩ (.int .u64 (e'.v 2 : Int))).cell? ⟨B, 4, none⟩ = some (.int .u64 (e.v 3 : Int)) :=
  ⟨h.b0, h.f 0, h.f 1, h.f 2, h.f 3, h.f 4, by simpa using stE_at (o := 0) (e' := e') ⟨h.b0, h.b1, h.b2, h.b3, h.b4⟩⟩

theorem boxE0_at {w : World} {B : Nat} (h : BxE w B default) : w.cell? ⟨B, 0, none⟩ = some (.int .u64 0) ∧ w.frozen? ⟨B, 0, none⟩ = false ∧ w.frozen? ⟨B, 1, none⟩ = false ∧ w.frozen? ⟨B, 2, none⟩ = false ∧ w.frozen? ⟨B, 3, none⟩ = false ∧ w.frozen? ⟨B, 4, none⟩ = false ∧
    (w.setCell ⟨B, 0, none⟩ (.int .u64 0)).cell? ⟨B, 1, none⟩ = some (.int .u64 0) ∧
    ((w.setCell ⟨B, 0, none⟩ (.int .u64 0)).setCell ⟨B, 1, none⟩ (.int .u64 0)).cell? ⟨B, 2, none⟩ = some (.int .u64 0) ∧
    (((w.setCell ⟨B, 0, none⟩ (.int .u64 0)).setCell ⟨B, 1, none⟩ (.int .u64 0)).setCell ⟨B, 2, none⟩ (.int .u64 0)).cell? ⟨B, 3, none⟩ = some (.int .u64 0) ∧
    ((((w.setCell ⟨B, 0, none⟩ (.int .u64 0)).setCell ⟨B, 1, none⟩ (.int .u64 0)).setCell ⟨B, 2, none⟩ (.int .u64 0)).setCell ⟨B, 3, none⟩ (.int .u64 0)).cell? ⟨B, 4, none⟩ = some (.int .u64 0) := boxE_at h default

set_option maxHeartbeats 1000000 in
theorem get_any {w : World} {R G : Nat} {xs : List (Sl El)} (h : AC w R G xs) (s g : Int) :
    Calls Tryz.prog 84 #[.pointer (some ⟨R, 0, none⟩), hv s g] w fun e w' => e = .returned (.tuple #[elV (getX xs s g), .int .i64 (findE xs s g)]) ∧ Ch [] w w' := by
  obtain ⟨w0, hw0⟩ : ∃ w0, w0 = w.alloc (.cells #[.int .i64 s, .int .i64 g] 39) := ⟨_, rfl⟩
  obtain ⟨w1, hw1⟩ : ∃ w1, w1 = w0.alloc (.cells (elC default) 84) := ⟨_, rfl⟩
  have HC := Lib.hid (show Ch [] w w1 by rw [hw1, hw0]; exact ((Ch.refl [] w).alloc _).alloc _)
  have HA := Lib.hid (h.ch HC.out (by simp) (by simp))
  have s0 : w0.heap.size = w.heap.size + 1 := by rw [hw0]; simp
  have HH := Lib.hid (show Box2 w1 w.heap.size (.int .i64 s) (.int .i64 g) by rw [hw1, hw0]; exact (Box2.new w _ _ _).alloc _)
  have HR := Lib.hid (show BxE w1 (w.heap.size + 1) default by rw [hw1, ← s0]; exact BxE.new w0 _ _)
  have HW := Lib.hid (And.intro hw0 hw1)
  clear h s0 hw0 hw1
  by_cases h0 : findE xs s g = 0
  · obtain ⟨k, rfl, hk, hh, rfl⟩ := findE_zero h0
    have e1 : getX xs (k : Int) ((at0 xs k).gen : Int) = (at0 xs k).x := by unfold getX; rw [if_pos h0, Int.toNat_natCast]
    rw [e1, h0]
    obtain ⟨z, hz⟩ : ∃ z, z = (at0 xs k).x := ⟨_, rfl⟩
    rw [← hz]
    have HZ := Lib.hid hz
    clear e1 hz h0
    obtain ⟨ge, hge⟩ : ∃ ge, ge = (at0 xs k).gen := ⟨_, rfl⟩
    have HAt := Lib.hid (at_ok HA.out k hk hh)
    rw [← hge] at HAt HH HW ⊢
    clear hge
    go_enter Tryz.func84, Tryz.ntmps84
    go_wp2_with fail
    have e9 := HW.out.2
    rw [HW.out.1] at e9
    change w1 = ((w.alloc _).alloc (.cells #[.int .u64 0, .int .u64 0, .int .u64 0, .int .u64 0, .int .u64 0] _)) at e9
    rw [← e9]
    clear e9
    refine HAt.out.mono ?_
    rintro e w2 ⟨rfl, hc2⟩
    have hA2 := HA.out.ch hc2 (by simp) (by simp)
    have HC2 := Lib.hid (HC.out.trans hc2)
    have HR2 := Lib.hid (HR.out.ch hc2 (by simp))
    have sl := hA2.sl k hk
    have c3 := sl.c3
    have c4 := sl.c4
    have c5 := sl.c5
    have c6 := sl.c6
    have c7 := sl.c7
    rw [← HZ.out] at c3 c4 c5 c6 c7
    obtain ⟨b0, f0, f1, f2, f3, f4, b1, b2, b3, b4⟩ := boxE_at HR2.out z
    clear hA2 hc2 sl
    go_wp2
    clear b1 b2 b3 b4
    obtain ⟨k0, k1, k2, k3, k4, _⟩ := HR2.out.set z
    refine bodyPost_ret (v := .tuple #[elV z, .int .i64 0]) ?_ rfl ?_
    · simp [results, Tryz.f84, go_sem, k0, k1, k2, k3, k4]
    · exact ⟨rfl, ch_stE HC2.out (.inr (by simp)) 0 z⟩
  · have e1 : getX xs s g = default := by unfold getX; rw [if_neg h0]
    have HAt := Lib.hid (at_any HA.out s g)
    rw [e1]
    rw [if_neg h0] at HAt
    generalize findE xs s g = E at *
    have hd1 : (E == 0) = false := by simpa using h0
    clear e1
    go_enter Tryz.func84, Tryz.ntmps84
    go_wp2_with fail
    have e9 := HW.out.2
    rw [HW.out.1] at e9
    change w1 = ((w.alloc _).alloc (.cells #[.int .u64 0, .int .u64 0, .int .u64 0, .int .u64 0, .int .u64 0] _)) at e9
    rw [← e9]
    clear e9
    refine HAt.out.mono ?_
    rintro e w2 ⟨rfl, hc2⟩
    have HC2 := Lib.hid ((HC.out.trans hc2).alloc (.cells (elC default) 84))
    have HR2 := Lib.hid ((HR.out.ch hc2 (by simp)).ch ((Ch.refl [] w2).alloc (.cells (elC default) 84)) (by simp))
    have HC2x := hc2
    clear hc2
    have HN := Lib.hid (BxE.new w2 default 84)
    have HB := Lib.hid (show w.heap.size + 1 < w2.heap.size from (HR.out.ch HC2x (by simp)).lt)
    go_upto_region 4 with (fail)
    obtain ⟨w3, hw3⟩ : ∃ w3, w3 = w2.alloc (.cells (elC default) 84) := ⟨_, rfl⟩
    rw [← hw3] at HC2 HR2 HN
    change Code.wp _ _ _ _ (w2.alloc (.cells (elC default) 84))
    rw [← hw3]
    obtain ⟨X, hX⟩ : ∃ X, X = w2.heap.size := ⟨_, rfl⟩
    rw [← hX] at HN ⊢
    clear hX hw3
    obtain ⟨b0, f0, f1, f2, f3, f4, b1, b2, b3, b4⟩ := boxE0_at HR2.out
    obtain ⟨x0, -, -, -, -, -, -, -, -, -⟩ := boxE0_at HN.out
    have x1 : w3.cell? ⟨X, 1, none⟩ = some (.int .u64 0) := HN.out.b1
    have x2 : w3.cell? ⟨X, 2, none⟩ = some (.int .u64 0) := HN.out.b2
    have x3 : w3.cell? ⟨X, 3, none⟩ = some (.int .u64 0) := HN.out.b3
    have x4 : w3.cell? ⟨X, 4, none⟩ = some (.int .u64 0) := HN.out.b4
    go_wp2
    clear b1 b2 b3 b4 b0 f0 f1 f2 f3 f4 x0 x1 x2 x3 x4
    have hs := HR2.out.set default
    obtain ⟨k0, k1, k2, k3, k4⟩ : (stE w3 (w.heap.size + 1) 0 default).cell? ⟨w.heap.size + 1, 0, none⟩ = some (.int .u64 0) ∧ (stE w3 (w.heap.size + 1) 0 default).cell? ⟨w.heap.size + 1, 1, none⟩ = some (.int .u64 0) ∧ (stE w3 (w.heap.size + 1) 0 default).cell? ⟨w.heap.size + 1, 2, none⟩ = some (.int .u64 0) ∧ (stE w3 (w.heap.size + 1) 0 default).cell? ⟨w.heap.size + 1, 3, none⟩ = some (.int .u64 0) ∧ (stE w3 (w.heap.size + 1) 0 default).cell? ⟨w.heap.size + 1, 4, none⟩ = some (.int .u64 0) := ⟨hs.b0, hs.b1, hs.b2, hs.b3, hs.b4⟩
    have HC3 := Lib.hid (show Ch [] w (stE w3 (w.heap.size + 1) 0 default) from ch_stE HC2.out (.inr (by simp)) 0 default)
    change bodyPost _ _ _ _ _ (stE w3 (w.heap.size + 1) 0 default)
    generalize stE w3 (w.heap.size + 1) 0 default = w4 at *
    refine bodyPost_ret (v := .tuple #[elV default, .int .i64 E]) ?_ rfl ⟨rfl, HC3.out⟩
    simp [results, Tryz.f84, go_sem, k0, k1, k2, k3, k4]
    exact ⟨rfl, rfl, rfl, rfl, rfl⟩

set_option maxHeartbeats 1000000 in
theorem set_any {w : World} {R G : Nat} {xs : List (Sl El)} (h : AC w R G xs) (s g : Int) (x : El) :
    Calls Tryz.prog 85 #[.pointer (some ⟨R, 0, none⟩), hv s g, elV x] w fun e w' => e = .returned (.int .i64 (findE xs s g)) ∧ AC w' R G (setL xs s g x) ∧ Ch [G] w w' := by
  obtain ⟨w0, hw0⟩ : ∃ w0, w0 = w.alloc (.cells #[.int .i64 s, .int .i64 g] 39) := ⟨_, rfl⟩
  obtain ⟨w1, hw1⟩ : ∃ w1, w1 = w0.alloc (.cells (elC x) 84) := ⟨_, rfl⟩
  have HC := Lib.hid (show Ch [] w w1 by rw [hw1, hw0]; exact ((Ch.refl [] w).alloc _).alloc _)
  have HA := Lib.hid (h.ch HC.out (by simp) (by simp))
  have hGl := h.lt.2
  have s0 : w0.heap.size = w.heap.size + 1 := by rw [hw0]; simp
  have HH := Lib.hid (show Box2 w1 w.heap.size (.int .i64 s) (.int .i64 g) by rw [hw1, hw0]; exact (Box2.new w _ _ _).alloc _)
  have HR := Lib.hid (show BxE w1 (w.heap.size + 1) x by rw [hw1, ← s0]; exact BxE.new w0 _ _)
  have HW := Lib.hid (And.intro hw0 hw1)
  clear h s0 hw0 hw1
  by_cases h0 : findE xs s g = 0
  · obtain ⟨k, rfl, hk, hh, rfl⟩ := findE_zero h0
    have e1 : setL xs (k : Int) ((at0 xs k).gen : Int) x = xs.set k ⟨(at0 xs k).gen, (at0 xs k).held, x⟩ := by unfold setL; rw [if_pos h0, Int.toNat_natCast]
    rw [e1, h0]
    clear e1 h0
    have HAt := Lib.hid (at_ok HA.out k hk hh)
    obtain ⟨ge, hge⟩ : ∃ ge : Nat, (ge : Int) = ((at0 xs k).gen : Int) := ⟨_, rfl⟩
    rw [← hge] at HAt HH HW ⊢
    clear hge
    go_enter Tryz.func85, Tryz.ntmps85
    go_wp2_with fail
    have e9 := HW.out.2
    rw [HW.out.1] at e9
    rw [← e9]
    clear e9
    refine HAt.out.mono ?_
    rintro e w2 ⟨rfl, hc2⟩
    have hA2 := HA.out.ch hc2 (by simp) (by simp)
    have HC2 := Lib.hid (((HC.out.trans hc2).mono (T := [G]) (by simp)))
    have hx2 := HR.out.ch hc2 (by simp)
    have sl := hA2.sl k hk
    obtain ⟨g4', g5', g6', g7'⟩ := stE_at (e' := x) ⟨sl.c3, sl.c4, sl.c5, sl.c6, sl.c7⟩
    have c3 := sl.c3
    have ff3 := sl.f (k * 8 + 3)
    have ff4 := sl.f (k * 8 + 3 + 1)
    have ff5 := sl.f (k * 8 + 3 + 2)
    have ff6 := sl.f (k * 8 + 3 + 3)
    have ff7 := sl.f (k * 8 + 3 + 4)
    obtain ⟨b0, b1, b2, b3, b4, _⟩ := hx2
    have HA3 := Lib.hid (hA2.thing' k hk x)
    clear hA2 hc2 sl
    go_wp2
    go_ret
    exact ⟨rfl, HA3.out, ch_stE HC2.out (.inl (by simp)) _ _⟩
  · have e1 : setL xs s g x = xs := by unfold setL; rw [if_neg h0]
    have HAt := Lib.hid (at_any HA.out s g)
    rw [e1]
    rw [if_neg h0] at HAt
    generalize findE xs s g = E at *
    have hd1 : (E == 0) = false := by simpa using h0
    clear e1
    go_enter Tryz.func85, Tryz.ntmps85
    go_wp2_with fail
    have e9 := HW.out.2
    rw [HW.out.1] at e9
    rw [← e9]
    clear e9
    refine HAt.out.mono ?_
    rintro e w2 ⟨rfl, hc2⟩
    have HC2 := Lib.hid (HC.out.trans hc2)
    have HA2 := Lib.hid (HA.out.ch hc2 (by simp) (by simp))
    clear hc2
    go_wp2
    go_ret
    exact ⟨rfl, HA2.out, HC2.out.mono (by simp)⟩
end Go.Proofs.YtalhlopjaijhcaaGreat.aE

namespace Go.Proofs.YtalhlopjaijhcaaGreat.aE
open Go.RowKit

attribute [local go_sem] Oper.semAt_some

/-- The handles that a slice at a reads as. -/
def HAt (w : World) (a : Option Addr) (hs : List (Int × Int)) : Prop :=
  hs = [] ∨ ∃ b off, a = some ⟨b, off, none⟩ ∧ ∀ i, i < hs.length → w.cell? ⟨b, off + i * 2, none⟩ = some (.int .i64 (hs[i]?.getD (0, 0)).1) ∧ w.cell? ⟨b, off + i * 2 + 1, none⟩ = some (.int .i64 (hs[i]?.getD (0, 0)).2)
theorem HAt.ch {w w' : World} {S : List Nat} {a : Option Addr} {hs : List (Int × Int)} (h : HAt w a hs) (hc : Ch S w w') (hb : hs ≠ [] → ∀ x, a = some x → x.block ∉ S) : HAt w' a hs := by
  by_cases h0 : hs = []
  · exact .inl h0
  have hb := hb h0
  rcases h with h | ⟨b, off, rfl, h⟩
  · exact .inl h
  · exact .inr ⟨b, off, rfl, fun i hi => ⟨(hc.cell (p := ⟨b, off + i * 2, none⟩) (cell_lt (h i hi).1) (hb ⟨b, off, none⟩ rfl)).trans (h i hi).1, (hc.cell (p := ⟨b, off + i * 2 + 1, none⟩) (cell_lt (h i hi).2) (hb ⟨b, off, none⟩ rfl)).trans (h i hi).2⟩⟩
theorem HAt.one {w : World} {B : Nat} {s g : Int} (h : Box2 w B (.int .i64 s) (.int .i64 g)) : HAt w (some ⟨B, 0, none⟩) [(s, g)] := by
  refine .inr ⟨B, 0, rfl, fun i hi => ?_⟩
  simp at hi
  subst hi
  exact ⟨h.c0, h.c1⟩

set_option maxHeartbeats 2000000 in
theorem free_many {w : World} {R G : Nat} {xs : List (Sl El)} (h : AC w R G xs) (a : Option Addr) (cap : Nat) (hs : List (Int × Int)) (hz : HAt w a hs) (hl : hs.length ≤ 9223372036854775807)
    (hb : hs ≠ [] → ∀ x, a = some x → x.block ∉ [G]) :
    Calls Tryz.prog 61 #[.pointer (some ⟨R, 0, none⟩), .slice a hs.length cap] w fun e w' => e = .returned (.int .i64 (freeN xs hs).2) ∧ AC w' R G (freeN xs hs).1 ∧ Ch [G] w w' := by
  obtain ⟨n, hn⟩ : ∃ n, n = hs.length := ⟨_, rfl⟩
  rw [← hn] at hl ⊢
  have HA := Lib.hid h
  have HZ := Lib.hid hz
  have HB := Lib.hid hb
  have HN := Lib.hid hn
  clear h hz hb hn
  go_enter Tryz.func61, Tryz.ntmps61
  go_wp2
  go_loopw [13] (fun x wr => ∃ (k : Nat) (ys : List (Sl El)), k ≤ n ∧ x = .int .i64 (k : Int) ∧ AC wr R G ys ∧ freeN xs hs = freeN ys (hs.drop k) ∧ Ch [G] w wr) (fun x _ => n - (intOf x).toNat)
  case atStart => exact ⟨0, xs, Nat.zero_le _, rfl, HA.out, rfl, Ch.refl _ _⟩
  case round =>
    obtain ⟨k, ys, hk, rfl, hA, hF, hC⟩ := hrel
    have HC := Lib.hid hC
    have HAw := Lib.hid hA
    have HF := Lib.hid hF
    clear hC hA hF
    by_cases hlt : k < n
    · rcases HZ.out.ch HC.out HB.out with h0 | ⟨b, off, rfl, hc0⟩
      · exfalso; rw [HN.out, h0] at hlt; simp at hlt
      · have hk' : k < hs.length := by rw [← HN.out]; exact hlt
        obtain ⟨hca, hcb⟩ := hc0 k hk'
        have hdrop : hs.drop k = hs[k]?.getD (0, 0) :: hs.drop (k + 1) := by
          rw [List.drop_eq_getElem_cons hk']; simp [hk']
        have HD := Lib.hid hdrop
        clear hc0 hdrop hk'
        generalize hs[k]?.getD (0, 0) = p at *
        obtain ⟨s, g⟩ := p
        simp only at hca hcb
        have hc1 := HC.out.alloc (.cells #[.int .i64 s, .int .i64 g] 39)
        have HA1 := Lib.hid (HAw.out.ch ((Ch.refl [] wr).alloc (.cells #[.int .i64 s, .int .i64 g] 39)) (by simp) (by simp))
        have HB1 := Lib.hid (Box2.new wr (.int .i64 s) (.int .i64 g) 39)
        have HC1 := Lib.hid hc1
        have HAt := Lib.hid (at_any HA1.out s g)
        clear hc1
        go_wp2_with fail
        generalize wr.alloc (.cells #[.int .i64 s, .int .i64 g] 39) = w1 at *
        refine HAt.out.mono ?_
        rintro e w2 ⟨rfl, hc2⟩
        have HA2 := Lib.hid (HA1.out.ch hc2 (by simp) (by simp))
        have HC2 := Lib.hid (HC1.out.trans (hc2.mono (by simp)))
        clear hc2 HA1 HC1
        by_cases hE : findE ys s g = 0
        · rw [hE, if_pos rfl]
          obtain ⟨j, rfl, hj, hh, rfl⟩ := findE_zero hE
          have hfl : freeL ys (j : Int) ((at0 ys j).gen : Int) = ys.set j ⟨(at0 ys j).gen + 1, false, default⟩ := by unfold freeL; rw [if_pos hE, Int.toNat_natCast]
          have hg := ((HA2.out.gb j hj).2 hh)
          have HEm := Lib.hid (empty_any HA2.out j hj hg)
          have HFn := Lib.hid (show freeN xs hs = freeN (freeL ys (j : Int) ((at0 ys j).gen : Int)) (hs.drop (k + 1)) by
            rw [HF.out, HD.out, freeN, if_pos hE])
          rw [← hfl] at HEm
          obtain ⟨zs, hzs⟩ : ∃ zs, zs = freeL ys (j : Int) ((at0 ys j).gen : Int) := ⟨_, rfl⟩
          rw [← hzs] at HEm HFn
          clear hfl hg hh hE hzs HD HF
          rw [Int.toNat_natCast]
          generalize (at0 ys j).gen = ge at *
          go_wp2_with fail
          refine HEm.out.mono ?_
          rintro e w3 ⟨⟨v, rfl⟩, hA3, hC3⟩
          have HA3 := Lib.hid hA3
          have HC3 := Lib.hid (HC2.out.trans hC3)
          clear hA3 hC3
          go_wp2
          go_roundw
          case rel => exact ⟨k + 1, zs, by omega, by go_num, HA3.out, HFn.out, HC3.out⟩
          case measure => simp [intOf]; omega
        · rw [if_neg hE]
          have HFn := Lib.hid (show freeN xs hs = (ys, findE ys s g) by rw [HF.out, HD.out, freeN, if_neg hE])
          have hd1 : (findE ys s g == 0) = false := by simpa using hE
          generalize findE ys s g = E at *
          clear HF HD
          go_wp2
          go_ret
          exact ⟨by rw [HFn.out]; rfl, by rw [HFn.out]; exact HA2.out, HC2.out⟩
    · obtain rfl : k = n := by omega
      have HE := Lib.hid (show freeN xs hs = (ys, 0) by rw [HF.out, List.drop_of_length_le (by rw [← HN.out]; exact Nat.le_refl _), freeN])
      go_wp2
      go_ret
      exact ⟨by rw [HE.out]; rfl, by rw [HE.out]; exact HAw.out, HC.out⟩

theorem free_one {w : World} {R G : Nat} {xs : List (Sl El)} (h : AC w R G xs) (B cap : Nat) (s g : Int) (hb : Box2 w B (.int .i64 s) (.int .i64 g)) (hne : B ≠ G) :
    Calls Tryz.prog 61 #[.pointer (some ⟨R, 0, none⟩), .slice (some ⟨B, 0, none⟩) 1 cap] w fun e w' => e = .returned (.int .i64 (findE xs s g)) ∧ AC w' R G (freeL xs s g) ∧ Ch [G] w w' := by
  have := free_many h (some ⟨B, 0, none⟩) cap [(s, g)] (HAt.one hb) (by simp) (fun _ x hx => by cases hx; simpa using hne)
  rw [freeN_one] at this
  exact this

theorem free_nil (w : World) (v : Value) :
    Calls Tryz.prog 61 #[.pointer none, v] w fun e w' => e = .returned (.int .i64 6) ∧ w = w' := by
  go_enter Tryz.func61, Tryz.ntmps61
  go_wp2
  go_ret
  exact ⟨rfl, rfl⟩
end Go.Proofs.YtalhlopjaijhcaaGreat.aE

namespace Go.Proofs.YtalhlopjaijhcaaGreat.aE
open Go.RowKit

attribute [local go_sem] Oper.semAt_some

theorem infoS : (Tryz.prog.info? 131).map (fun i => (i.zero, i.size, i.bytes)) = some (some (.agg #[.int .i64 0, .int .i64 0, .bool false, .int .u64 0, .int .u64 0, .int .u64 0, .int .u64 0, .int .u64 0]), 8, 64) := by kernel_rfl
def zS : Value := .agg #[.int .i64 0, .int .i64 0, .bool false, .int .u64 0, .int .u64 0, .int .u64 0, .int .u64 0, .int .u64 0]
theorem made_at (n j : Nat) (h : j < n) : (madeCells zS.cells (n * 8)).toList[j * 8]? = some (.int .i64 0) ∧ (madeCells zS.cells (n * 8)).toList[j * 8 + 1]? = some (.int .i64 0) ∧ (madeCells zS.cells (n * 8)).toList[j * 8 + 2]? = some (.bool false) ∧ (madeCells zS.cells (n * 8)).toList[j * 8 + 3]? = some (.int .u64 0) ∧ (madeCells zS.cells (n * 8)).toList[j * 8 + 4]? = some (.int .u64 0) ∧ (madeCells zS.cells (n * 8)).toList[j * 8 + 5]? = some (.int .u64 0) ∧ (madeCells zS.cells (n * 8)).toList[j * 8 + 6]? = some (.int .u64 0) ∧ (madeCells zS.cells (n * 8)).toList[j * 8 + 7]? = some (.int .u64 0) := by
  have h0 : j * 8 < n * 8 := by omega
  have m0 : j * 8 % 8 = 0 := by omega
  have h1 : j * 8 + 1 < n * 8 := by omega
  have m1 : (j * 8 + 1) % 8 = 1 := by omega
  have h2 : j * 8 + 2 < n * 8 := by omega
  have m2 : (j * 8 + 2) % 8 = 2 := by omega
  have h3 : j * 8 + 3 < n * 8 := by omega
  have m3 : (j * 8 + 3) % 8 = 3 := by omega
  have h4 : j * 8 + 4 < n * 8 := by omega
  have m4 : (j * 8 + 4) % 8 = 4 := by omega
  have h5 : j * 8 + 5 < n * 8 := by omega
  have m5 : (j * 8 + 5) % 8 = 5 := by omega
  have h6 : j * 8 + 6 < n * 8 := by omega
  have m6 : (j * 8 + 6) % 8 = 6 := by omega
  have h7 : j * 8 + 7 < n * 8 := by omega
  have m7 : (j * 8 + 7) % 8 = 7 := by omega
  refine ⟨?_, ?_, ?_, ?_, ?_, ?_, ?_, ?_⟩
  · simp [madeCells, Value.cells, zS, h0, m0]
  · simp [madeCells, Value.cells, zS, h1, m1]
  · simp [madeCells, Value.cells, zS, h2, m2]
  · simp [madeCells, Value.cells, zS, h3, m3]
  · simp [madeCells, Value.cells, zS, h4, m4]
  · simp [madeCells, Value.cells, zS, h5, m5]
  · simp [madeCells, Value.cells, zS, h6, m6]
  · simp [madeCells, Value.cells, zS, h7, m7]

/-- New's slots while k of them bear their number. -/
structure PC (w : World) (G n k : Nat) : Prop where
  a0 : ∀ j, j < k → w.cell? ⟨G, j * 8, none⟩ = some (.int .i64 (j : Int))
  a1 : ∀ j, j < k → w.cell? ⟨G, j * 8 + 1, none⟩ = some (.int .i64 1)
  b0 : ∀ j, k ≤ j → j < n → w.cell? ⟨G, j * 8, none⟩ = some (.int .i64 0)
  b1 : ∀ j, k ≤ j → j < n → w.cell? ⟨G, j * 8 + 1, none⟩ = some (.int .i64 0)
  c2 : ∀ j, j < n → w.cell? ⟨G, j * 8 + 2, none⟩ = some (.bool false)
  c3 : ∀ j i, j < n → i < 5 → w.cell? ⟨G, j * 8 + 3 + i, none⟩ = some (.int .u64 0)
  f : ∀ o, w.frozen? ⟨G, o, none⟩ = false
theorem PC.step {w : World} {G n k : Nat} (h : PC w G n k) (hk : k < n) : PC ((w.setCell ⟨G, k * 8, none⟩ (.int .i64 (k : Int))).setCell ⟨G, k * 8 + 1, none⟩ (.int .i64 1)) G n (k + 1) := by
  refine ⟨fun j hj => ?_, fun j hj => ?_, fun j h1 h2 => ?_, fun j h1 h2 => ?_, fun j hj => ?_, fun j i hj hi => ?_, fun o => by simpa using h.f o⟩
  · by_cases e : j = k
    · subst e; exact setCell_other (setCell_same (h.b0 j (Nat.le_refl _) hk)) (addr_ne_off (by omega))
    · exact setCell_other (setCell_other (h.a0 j (by omega)) (addr_ne_off (by omega))) (addr_ne_off (by omega))
  · by_cases e : j = k
    · subst e; exact setCell_same (setCell_other (h.b1 j (Nat.le_refl _) hk) (addr_ne_off (by omega)))
    · exact setCell_other (setCell_other (h.a1 j (by omega)) (addr_ne_off (by omega))) (addr_ne_off (by omega))
  · exact setCell_other (setCell_other (h.b0 j (by omega) h2) (addr_ne_off (by omega))) (addr_ne_off (by omega))
  · exact setCell_other (setCell_other (h.b1 j (by omega) h2) (addr_ne_off (by omega))) (addr_ne_off (by omega))
  · exact setCell_other (setCell_other (h.c2 j hj) (addr_ne_off (by omega))) (addr_ne_off (by omega))
  · exact setCell_other (setCell_other (h.c3 j i hj hi) (addr_ne_off (by omega))) (addr_ne_off (by omega))

def fresh (n : Nat) : List (Sl El) := List.replicate n ⟨1, false, default⟩
theorem at0_fresh (n k : Nat) (h : k < n) : at0 (fresh n) k = ⟨1, false, default⟩ := by
  rw [at0_get _ _ (by simpa [fresh] using h)]; simp [fresh]

set_option maxHeartbeats 1000000 in
theorem new_any' (n : Nat) (w : World) (S : Nat) (hS : w.heap.size = S) (h1 : 1 ≤ n) (h2 : n ≤ 64) :
    Calls Tryz.prog 35 #[.int .i64 (n : Int)] w fun e w' => ∃ R, e = .returned (.tuple #[.pointer (some ⟨R, 0, none⟩), .int .i64 0]) ∧
      AC w' R S (fresh n) ∧ Below S w w' ∧ S < R ∧ R < w'.heap.size := by
  obtain ⟨i0, hi, hz0, hz1, hz2⟩ := info_parts infoS
  have hd1 : decide ((n : Int) < 1) = false := by simp; omega
  have hd2 : decide ((64 : Int) < (n : Int)) = false := by simp; omega
  have hp0 : (0 : Int) ≤ (n : Int) := by omega
  go_enter Tryz.func35, Tryz.ntmps35
  go_wp2_with (at_make; go_must (refine wpList_make_full _ rfl _ _ 127 rfl w.heap.size 131 i0 zS 8 Tryz.underlying127 hi hz0 hz1 _ _ _ _ n rfl rfl rfl rfl (by rw [hz2]; omega) (by unfold maxLen; omega) (Nat.le_refl _) ?_); intro w1 hown hgrow)
  have hB : Below w.heap.size w w1 := (Below.refl _ _).grown hgrow (Nat.le_refl _) (fun k e => by cases e)
  have hlt : w.heap.size < w1.heap.size := (World.ownsRow.lt hown w.heap.size rfl).2
  have hP0 : PC w1 w.heap.size n 0 := by
    have hm := made_at n
    refine ⟨fun j hj => by omega, fun j hj => by omega, fun j _ hj => ?_, fun j _ hj => ?_, fun j hj => ?_, fun j i hj hi => ?_, fun o => World.ownsRow.frozenAt hown o⟩
    · rw [World.ownsRow.cellAt hown (j * 8) (by omega)]; exact (hm j hj).1
    · rw [World.ownsRow.cellAt hown (j * 8 + 1) (by omega)]; exact (hm j hj).2.1
    · rw [World.ownsRow.cellAt hown (j * 8 + 2) (by omega)]; exact (hm j hj).2.2.1
    · rw [World.ownsRow.cellAt hown (j * 8 + 3 + i) (by omega)]
      obtain ⟨-, -, -, e0, e1, e2, e3, e4⟩ := hm j hj
      rcases (by omega : i = 0 ∨ i = 1 ∨ i = 2 ∨ i = 3 ∨ i = 4) with rfl | rfl | rfl | rfl | rfl
      · exact e0
      · exact e1
      · exact e2
      · exact e3
      · exact e4
  rw [hS] at hlt hB hP0
  obtain ⟨R, hR⟩ : ∃ R, R = w1.heap.size := ⟨_, rfl⟩
  have hRc := cell_new w1 (.slice (some ⟨S, 0, none⟩) n n) 129
  have hBR := hB.alloc (by omega : S ≤ w1.heap.size) (.cells #[.slice (some ⟨S, 0, none⟩) n n] 129)
  have hPR : PC (w1.alloc (.cells #[.slice (some ⟨S, 0, none⟩) n n] 129)) S n 0 :=
    have c : ∀ o, (w1.alloc (.cells #[.slice (some ⟨S, 0, none⟩) n n] 129)).cell? ⟨S, o, none⟩ = w1.cell? ⟨S, o, none⟩ := fun o => World.cell?_alloc_past _ _ _ hlt
    ⟨fun j hj => by omega, fun j hj => by omega, fun j a b => (c _).trans (hP0.b0 j a b), fun j a b => (c _).trans (hP0.b1 j a b), fun j hj => (c _).trans (hP0.c2 j hj), fun j i hj hi => (c _).trans (hP0.c3 j i hj hi),
      fun o => (World.frozen?_alloc_old w1 _ ⟨S, o, none⟩ (Nat.ne_of_lt hlt)).trans (hP0.f o)⟩
  have hszR : (w1.alloc (.cells #[.slice (some ⟨S, 0, none⟩) n n] 129)).heap.size = R + 1 := by rw [hR]; simp
  rw [← hR] at hRc hlt ⊢
  generalize w1.alloc (.cells #[.slice (some ⟨S, 0, none⟩) n n] 129) = w2 at *
  have HB := Lib.hid hBR
  have HP := Lib.hid hPR
  have hc0 := hRc.1
  have HS := Lib.hid hszR
  have HC0 := Lib.hid hc0
  clear hown hgrow hB hP0 hS hR hRc hBR hPR hszR
  have hne : ∀ a b : Nat, (⟨S, a, none⟩ : Addr) ≠ ⟨R, b, none⟩ := fun a b => addr_ne_block (by omega)
  have HNE := Lib.hid hne
  clear hne
  go_wp2
  go_loopw [21] (fun x wr => ∃ k : Nat, k ≤ n ∧ x = .int .i64 (k : Int) ∧ PC wr S n k ∧ wr.cell? ⟨R, 0, none⟩ = some (.slice (some ⟨S, 0, none⟩) n n) ∧ Below S w wr ∧ wr.heap.size = R + 1) (fun x _ => n - (intOf x).toNat)
  case atStart => exact ⟨0, Nat.zero_le _, rfl, HP.out, HC0.out, HB.out, HS.out⟩
  case round =>
    obtain ⟨k, hk, rfl, hP, hc, hB, hsz⟩ := hrel
    have HPk := Lib.hid hP
    have HBk := Lib.hid hB
    have HSk := Lib.hid hsz
    clear hP hB hsz hc0
    by_cases hlt2 : k < n
    · have d0 := HPk.out.b0 k (Nat.le_refl _) hlt2
      have d1 := HPk.out.b1 k (Nat.le_refl _) hlt2
      have g0 := HPk.out.f (k * 8)
      have g1 := HPk.out.f (k * 8 + 1)
      go_wp2
      go_roundw
      case rel =>
        exact ⟨k + 1, by omega, by go_num, HPk.out.step hlt2, setCell_other (setCell_other hc (HNE.out _ _)) (HNE.out _ _), (HBk.out.setCell (p := ⟨S, k * 8, none⟩) (Nat.le_refl _) _).setCell (p := ⟨S, k * 8 + 1, none⟩) (Nat.le_refl _) _, by simpa [World.setCell] using HSk.out⟩
      case measure => simp [intOf]; omega
    · obtain rfl : k = n := by omega
      go_wp2
      go_ret2
      have hP := HPk.out
      refine ⟨R, rfl, ⟨by omega, by simpa [fresh] using h1, by simpa [fresh] using h2, by simpa [fresh] using hc, fun j hj => ?_, fun j hj => ?_⟩, HBk.out, hlt, by have := HSk.out; omega⟩
      · have hj : j < k := by simpa [fresh] using hj
        rw [at0_fresh _ _ hj]
        exact ⟨hP.a0 j hj, hP.a1 j hj, hP.c2 j hj, hP.c3 j 0 hj (by decide), hP.c3 j 1 hj (by decide), hP.c3 j 2 hj (by decide), hP.c3 j 3 hj (by decide), hP.c3 j 4 hj (by decide), hP.f⟩
      · have hj : j < k := by simpa [fresh] using hj
        rw [at0_fresh _ _ hj]
        exact ⟨by decide, fun e => by cases e⟩
theorem new_any (n : Nat) (w : World) (h1 : 1 ≤ n) (h2 : n ≤ 64) :
    Calls Tryz.prog 35 #[.int .i64 (n : Int)] w fun e w' => ∃ R, e = .returned (.tuple #[.pointer (some ⟨R, 0, none⟩), .int .i64 0]) ∧
      AC w' R w.heap.size (fresh n) ∧ Below w.heap.size w w' ∧ w.heap.size < R ∧ R < w'.heap.size := new_any' n w _ rfl h1 h2
end Go.Proofs.YtalhlopjaijhcaaGreat.aE
