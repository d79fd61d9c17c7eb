/-
  Contracts: first (over the closure of Next), Next, Around.
-/
import Derived.Test.YtadogffllkompaaDoorMaskE
namespace Go.Proofs.YtadogffllkompaaDoor.Mk
open Go.RowKit Go.Shelf

attribute [local go_sem] Oper.semAt_some

/-- The least number of a mask from one on. -/
def nextO (m : Nat) (from' : Int) : Option Nat := (Pl.ones m).find? fun i => decide (from' ≤ (i : Int))
def nextV (m : Nat) (from' : Int) : Nat := (nextO m from').getD 0
def nextB (m : Nat) (from' : Int) : Bool := (nextO m from').isSome

theorem nextO_none (m : Nat) (from' : Int) (h : ∀ y ∈ Pl.ones m, ¬ from' ≤ (y : Int)) : nextO m from' = none := by
  unfold nextO
  rw [List.find?_eq_none]
  intro x hx
  simpa using h x hx
theorem nextO_some (m : Nat) (from' : Int) (p : List Nat) (x : Nat) (hp : p ++ [x] <+: Pl.ones m) (h : ∀ y ∈ p, ¬ from' ≤ (y : Int)) (hx : from' ≤ (x : Int)) : nextO m from' = some x := by
  unfold nextO
  obtain ⟨r, hr⟩ := hp
  rw [← hr]
  have e : p.find? (fun i : Nat => decide (from' ≤ (i : Int))) = none := by
    rw [List.find?_eq_none]; intro y hy; simpa using h y hy
  simp [List.find?_append, e, hx]

theorem next1_any (i from' : Int) (Bf : Nat) (w : World) (hc : w.cell? ⟨Bf, 0, none⟩ = some (.int .i64 from')) :
    Calls Tryd.prog 45 #[.int .i64 i, .pointer (some ⟨Bf, 0, none⟩)] w fun e w' => e = .returned (.bool (decide (from' ≤ i))) ∧ w = w' := by
  go_enter Tryd.func45, Tryd.ntmps45
  go_wp2
  go_ret
  exact ⟨rfl, rfl⟩

theorem cell_box {W : World} {B : Nat} {v : Value} {t : TypeId} (h : W.heap[B]? = some (.cells #[v] t (0, 0))) : W.cell? ⟨B, 0, none⟩ = some v ∧ W.frozen? ⟨B, 0, none⟩ = false := by
  constructor <;> simp [World.cell?, World.frozen?, h]
theorem cell_new (W : World) (v : Value) (t : TypeId) : (W.alloc (.cells #[v] t)).cell? ⟨W.heap.size, 0, none⟩ = some v ∧ (W.alloc (.cells #[v] t)).frozen? ⟨W.heap.size, 0, none⟩ = false :=
  cell_box (World.alloc_heap_new W _)
theorem cell_allocd {W : World} {a : Addr} {v : Value} (o : Obj) (h : W.cell? a = some v) : (W.alloc o).cell? a = some v := cell_kept h (World.grownBy_alloc W o none) (fun r e => by cases e)
theorem frozen_allocd {W : World} {a : Addr} {v : Value} (o : Obj) (h : W.cell? a = some v) (hf : W.frozen? a = false) : (W.alloc o).frozen? a = false := (frozen_kept h (World.grownBy_alloc W o none) (fun r e => by cases e)).trans hf

theorem two_cells_fst (W : World) (p q : Addr) (u v : Value) {u0 : Value} (h : W.cell? p = some u0) (hne : q ≠ p) : ((W.setCell p u).setCell q v).cell? p = some u := by
  rw [World.cell?_setCell_other _ _ _ _ hne, World.cell?_setCell_same' _ _ _ (by rw [h]; rfl)]
theorem two_cells_snd (W : World) (p q : Addr) (u v : Value) {v0 : Value} (h : W.cell? q = some v0) (hne : p ≠ q) : ((W.setCell p u).setCell q v).cell? q = some v := by
  rw [World.cell?_setCell_same' _ _ _ (by rw [World.cell?_setCell_other _ _ _ _ hne, h]; rfl)]

set_option maxRecDepth 100000 in
set_option maxHeartbeats 2000000 in
theorem first_in (n : Nat) (m : Nat) (hm : m < 18446744073709551616) (from' : Int) (Bf : Nat) (w : World) (hBf : Bf < w.heap.size) (hcf : w.cell? ⟨Bf, 0, none⟩ = some (.int .i64 from')) (hT : Tab w) :
    CallsIn Fence.wide (n + 6) Tryd.prog 44 #[.int .u64 (m : Int), .func (.func 45) #[] #[.pointer (some ⟨Bf, 0, none⟩)]] w fun e W' =>
      e = .returned (.tuple #[.int .i64 ((nextV m from' : Nat) : Int), .bool (nextB m from')]) ∧ Below w.heap.size w W' := by
  have hg0 : 1 < w.heap.size := by
    have h := hT 0 (by decide)
    apply Nat.lt_of_not_le
    intro hle
    simp [World.cell?, Array.getElem?_eq_none hle] at h
  have HM := Lib.hid hm
  have HT := Lib.hid hT
  clear hm hT
  have hw : ∀ f, Fence.wide.fn f := fun _ => trivial
  have hd : Fence.wide.depth = none := rfl
  refine callsIn_of_wp_marks Tryd.func44 rfl trivial ?_ rfl
  simp only [Tryd.ntmps44, List.size_toArray, List.length_cons, List.length_nil, Nat.reduceAdd, Nat.reduceSub, Array.replicate_succ, Array.replicate_zero, List.push_toArray, List.append_toArray, List.nil_append, List.cons_append]
  gi_wp2_with (gi_at_call 53; refine (numbers_in _ _ _).mono ?_; rintro e w' ⟨rfl, rfl⟩)
  have hn7 : 1 ≤ n + 6 := by omega
  obtain ⟨S, hS⟩ : ∃ S, S = w.heap.size := ⟨_, rfl⟩
  have c0 := cell_new w (.func (.func 45) #[] #[.pointer (some ⟨Bf, 0, none⟩)]) 25
  have c1 := cell_new (w.alloc (.cells #[.func (.func 45) #[] #[.pointer (some ⟨Bf, 0, none⟩)]] 25)) (.int .i64 0) 3
  have c2 := cell_new ((w.alloc (.cells #[.func (.func 45) #[] #[.pointer (some ⟨Bf, 0, none⟩)]] 25)).alloc (.cells #[.int .i64 0] 3)) (.bool false) 4
  have c3 := cell_new (((w.alloc (.cells #[.func (.func 45) #[] #[.pointer (some ⟨Bf, 0, none⟩)]] 25)).alloc (.cells #[.int .i64 0] 3)).alloc (.cells #[.bool false] 4)) (.int .u64 (m : Int)) 37
  simp only [World.size_alloc] at c1 c2 c3
  have hB0 : Below w.heap.size w ((((w.alloc (.cells #[.func (.func 45) #[] #[.pointer (some ⟨Bf, 0, none⟩)]] 25)).alloc (.cells #[.int .i64 0] 3)).alloc (.cells #[.bool false] 4)).alloc (.cells #[.int .u64 (m : Int)] 37)) :=
    ((((Below.refl _ w).alloc (Nat.le_refl _) _).alloc (by simp) _).alloc (by simp; omega) _).alloc (by simp; omega) _
  have d0 := cell_allocd (.cells #[.int .u64 (m : Int)] 37) (cell_allocd (.cells #[.bool false] 4) (cell_allocd (.cells #[.int .i64 0] 3) c0.1))
  have d1 := cell_allocd (.cells #[.int .u64 (m : Int)] 37) (cell_allocd (.cells #[.bool false] 4) c1.1)
  have e1 := frozen_allocd (.cells #[.int .u64 (m : Int)] 37) (cell_allocd (.cells #[.bool false] 4) c1.1) (frozen_allocd (.cells #[.bool false] 4) c1.1 c1.2)
  have d2 := cell_allocd (.cells #[.int .u64 (m : Int)] 37) c2.1
  have e2 := frozen_allocd (.cells #[.int .u64 (m : Int)] 37) c2.1 c2.2
  have d3 := c3.1
  have hT0 := HT.out.below hB0 (by omega)
  have hsz : ((((w.alloc (.cells #[.func (.func 45) #[] #[.pointer (some ⟨Bf, 0, none⟩)]] 25)).alloc (.cells #[.int .i64 0] 3)).alloc (.cells #[.bool false] 4)).alloc (.cells #[.int .u64 (m : Int)] 37)).heap.size = w.heap.size + 1 + 1 + 1 + 1 := by simp
  clear c0 c1 c2 c3
  obtain ⟨W0, hW0⟩ : ∃ W0, ((((w.alloc (.cells #[.func (.func 45) #[] #[.pointer (some ⟨Bf, 0, none⟩)]] 25)).alloc (.cells #[.int .i64 0] 3)).alloc (.cells #[.bool false] 4)).alloc (.cells #[.int .u64 (m : Int)] 37)) = W0 := ⟨_, rfl⟩
  rw [hW0] at hB0 d0 d1 e1 d2 e2 d3 hT0 hsz ⊢
  clear hW0 hS S
  refine wpIn_rangeFunc_ownF rfl hn7 (gf := 55) (lb := #[.pointer (some ⟨w.heap.size + 1 + 1 + 1, 0, none⟩)]) rfl trivial (enters_of Tryd.func55 (by kernel_rfl) rfl)
    (numbers_stops (n + 6 - 1) (w.heap.size + 1 + 1 + 1) w.heap.size (by omega) m HM.out W0 (by omega) d3 hT0) belowK_t (belowK_b (by omega)) (Below.refl _ _) (fun _ => rfl)
    (fun pre W => ((∀ y ∈ pre, ¬ from' ≤ ((y : Nat) : Int)) ∧ W.cell? ⟨w.heap.size, 0, none⟩ = some (.func (.func 45) #[] #[.pointer (some ⟨Bf, 0, none⟩)]) ∧
      (W.cell? ⟨w.heap.size + 1, 0, none⟩ = some (.int .i64 0) ∧ W.frozen? ⟨w.heap.size + 1, 0, none⟩ = false) ∧ W.cell? ⟨w.heap.size + 1 + 1, 0, none⟩ = some (.bool false) ∧ W.frozen? ⟨w.heap.size + 1 + 1, 0, none⟩ = false) ∧ Below w.heap.size w W)
    (fun c pre W => (c = .ret ∧ ∃ p x, pre = p ++ [x] ∧ (∀ y ∈ p, ¬ from' ≤ ((y : Nat) : Int)) ∧ from' ≤ ((x : Nat) : Int) ∧ W.cell? ⟨w.heap.size + 1, 0, none⟩ = some (.int .i64 ((x : Nat) : Int)) ∧ W.cell? ⟨w.heap.size + 1 + 1, 0, none⟩ = some (.bool true)) ∧ Below w.heap.size w W)
    (OwnFrom.and (Own.from (fun s A B row hs hg hr => ⟨hs.1, cell_kept hs.2.1 hg hr, ⟨cell_kept hs.2.2.1.1 hg hr, (frozen_kept hs.2.2.1.1 hg hr).trans hs.2.2.1.2⟩, cell_kept hs.2.2.2.1 hg hr, (frozen_kept hs.2.2.2.1 hg hr).trans hs.2.2.2.2⟩) _) (ownFrom_below (Nat.le_refl _) (by omega)))
    (fun c => OwnFrom.and (Own.from (fun s A B row hs hg hr => by
      obtain ⟨h1, p, x, h2, h3, h4, h5, h6⟩ := hs
      exact ⟨h1, p, x, h2, h3, h4, cell_kept h5 hg hr, cell_kept h6 hg hr⟩) _) (ownFrom_below (Nat.le_refl _) (by omega)))
    ⟨⟨by simp, d0, ⟨d1, e1⟩, d2, e2⟩, hB0⟩
    (fun x => { tmps := #[.int .u64 (m : Int), .func (.func 45) #[] #[.pointer (some ⟨Bf, 0, none⟩)], undef, .pointer (some ⟨w.heap.size, 0, none⟩), .pointer (some ⟨w.heap.size + 1, 0, none⟩), .pointer (some ⟨w.heap.size + 1 + 1, 0, none⟩), .int .i64 ((x : Nat) : Int), .int .u64 (m : Int), .func (.func 55) #[] #[.pointer (some ⟨w.heap.size + 1 + 1 + 1, 0, none⟩)], .int .i64 ((x : Nat) : Int), undef, undef, undef, undef], defers := [] }) ?assign ?body ?done ?stop
  case assign =>
    intro l x W K hK
    gi_wp2
    exact hK
  case body =>
    rintro l pre x W ⟨⟨hp, hcs, ⟨hc1, hf1⟩, hc2, hf2⟩, hB⟩ _
    have hcf' : W.cell? ⟨Bf, 0, none⟩ = some (.int .i64 from') := (hB.cell (p := ⟨Bf, 0, none⟩) hBf).trans hcf
    have HBW := Lib.hid hB
    clear hB
    by_cases hx : from' ≤ (x : Int)
    · have hdx : decide (from' ≤ (x : Int)) = true := by simpa using hx
      gi_wp2_with (gi_at_call 45; refine (CallsIn.inRound l (callsIn_wide.2 (next1_any _ from' Bf _ hcf'))).mono ?_; rintro e w' ⟨rfl, rfl⟩)
      exact ⟨(KeepsOthers.setCell _ _ _).trans (KeepsOthers.setCell _ _ _), ⟨rfl, pre, x, rfl, hp, hx, two_cells_fst W _ _ _ _ hc1 (by simp), two_cells_snd W _ _ _ _ hc2 (by simp)⟩,
        (HBW.out.setCell (p := ⟨w.heap.size + 1, 0, none⟩) (by simp) _).setCell (p := ⟨w.heap.size + 1 + 1, 0, none⟩) (by simp; omega) _⟩
    · have hdx : decide (from' ≤ (x : Int)) = false := by simpa using hx
      gi_wp2_with (gi_at_call 45; refine (CallsIn.inRound l (callsIn_wide.2 (next1_any _ from' Bf _ hcf'))).mono ?_; rintro e w' ⟨rfl, rfl⟩)
      refine ⟨KeepsOthers.refl _, Below.refl _ _, ⟨fun y hy => ?_, hcs, ⟨hc1, hf1⟩, hc2, hf2⟩, HBW.out⟩
      rcases List.mem_append.1 hy with hy | hy
      · exact hp y hy
      · obtain rfl : y = x := by simpa using hy
        omega
  case done =>
    rintro D ys W hD rfl ⟨⟨hne, hcs, ⟨hc1, hf1⟩, hc2, hf2⟩, hB⟩ hK
    have HNE := Lib.hid hne
    clear hne
    gi_wp2
    have hK' := ((KeepsOthers.setCell W ⟨w.heap.size + 1, 0, none⟩ (.int .i64 0)).trans (KeepsOthers.setCell (W.setCell ⟨w.heap.size + 1, 0, none⟩ (.int .i64 0)) ⟨w.heap.size + 1 + 1, 0, none⟩ (.bool false))).same D _ hK rfl
    refine ⟨by simp, .inl ⟨_, _, rfl, run_takeDeferred hK', ?_⟩⟩
    have h5 := cell_kept (two_cells_fst W ⟨w.heap.size + 1, 0, none⟩ ⟨w.heap.size + 1 + 1, 0, none⟩ (.int .i64 0) (.bool false) hc1 (by simp)) (grownBy_putObj' _ D (.deferred none)) (fun r e => by cases e; exact ⟨_, hK', rfl⟩)
    have h6 := cell_kept (two_cells_snd W ⟨w.heap.size + 1, 0, none⟩ ⟨w.heap.size + 1 + 1, 0, none⟩ (.int .i64 0) (.bool false) hc2 (by simp)) (grownBy_putObj' _ D (.deferred none)) (fun r e => by cases e; exact ⟨_, hK', rfl⟩)
    refine ⟨.tuple #[.int .i64 0, .bool false], ?_, ?_, ((hB.setCell (p := ⟨w.heap.size + 1, 0, none⟩) (by simp) _).setCell (p := ⟨w.heap.size + 1 + 1, 0, none⟩) (by simp; omega) _).trans (belowK_b (w := w) (Nat.le_refl _) _ D _ _ (by omega) hK' rfl rfl)⟩
    · simp [results, Tryd.f44, go_sem, h5, h6]
    · rw [nextV, nextB, nextO_none m from' (fun y hy => by have := HNE.out y hy; omega)]; rfl
  case stop =>
    rintro D c pre W hD hpre ⟨⟨rfl, p, x, rfl, hne, hx, hc1, hc2⟩, hB⟩ hK
    have HNE := Lib.hid hne
    clear hne
    gi_wp2
    refine ⟨by simp, .inl ⟨_, _, rfl, run_takeDeferred hK, ?_⟩⟩
    have h5 := cell_kept hc1 (grownBy_putObj' _ D (.deferred none)) (fun r e => by cases e; exact ⟨_, hK, rfl⟩)
    have h6 := cell_kept hc2 (grownBy_putObj' _ D (.deferred none)) (fun r e => by cases e; exact ⟨_, hK, rfl⟩)
    refine ⟨.tuple #[.int .i64 (x : Int), .bool true], ?_, ?_, hB.trans (belowK_b (w := w) (Nat.le_refl _) W D _ _ (by omega) hK rfl rfl)⟩
    · simp [results, Tryd.f44, go_sem, h5, h6]
    · rw [nextV, nextB, nextO_some m from' p x hpre (fun y hy => by have := HNE.out y hy; omega) hx]; rfl

theorem next_any (m : Nat) (hm : m < 18446744073709551616) (from' : Int) (w : World) (hT : Tab w) :
    Calls Tryd.prog 27 #[.int .u64 (m : Int), .int .i64 from'] w fun e W' =>
      e = .returned (.tuple #[.int .i64 ((nextV m from' : Nat) : Int), .bool (nextB m from')]) ∧ Below w.heap.size w W' := by
  have hmf : ∀ (fn : Fn) (first cap : Array Value) (w : World), (Instr.makeFunc fn first cap).run Tryd.prog w = .ok (.func fn first cap) w := fun _ _ _ _ => rfl
  have hg : 1 < w.heap.size := by
    have h := hT 0 (by decide)
    apply Nat.lt_of_not_le
    intro hle
    simp [World.cell?, Array.getElem?_eq_none hle] at h
  have h0 : (w.alloc (.cells #[.int .i64 from'] 3)).cell? ⟨w.heap.size, 0, none⟩ = some (.int .i64 from') := (cell_new w _ _).1
  have hB : Below w.heap.size w (w.alloc (.cells #[.int .i64 from'] 3)) := (Below.refl _ w).alloc (Nat.le_refl _) _
  have HT := Lib.hid (hT.below hB hg)
  have hF := callsIn_wide.1 (first_in 0 m hm from' w.heap.size (w.alloc (.cells #[.int .i64 from'] 3)) (by simp) h0 HT.out)
  have HF := Lib.hid hF
  have HB := Lib.hid hB
  clear hT hB hF h0 hm
  go_enter Tryd.func27, Tryd.ntmps27
  go_wp2_with (go_at_call 44; refine HF.out.mono ?_; rintro e w' ⟨rfl, hb⟩)
  go_ret2
  exact ⟨rfl, HB.out.trans (hb.mono (by simp))⟩

/-- Around's: the next one, or the least. -/
def aroundV (m : Nat) (from' : Int) : Nat := if nextB m from' = true then nextV m from' else nextV m 0
def aroundB (m : Nat) (from' : Int) : Bool := if nextB m from' = true then true else nextB m 0

end Go.Proofs.YtadogffllkompaaDoor.Mk
