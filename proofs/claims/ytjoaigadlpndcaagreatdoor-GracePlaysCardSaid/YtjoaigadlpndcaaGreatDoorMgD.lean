/-
  Sections: new ones; nil ones; the chapter's example holds.
  SectNests: a reader is outside behind leaving as often as it entered.
  The document's answer for sections: what readers did as a row; Depth, Stamps.
  The document's answer for sections: Stamps.
  The document's answer for sections: Enter, Exit, In.
  SectMany: several that enter at once.
-/
import Derived.Test.YtjoaigadlpndcaaGreatDoorMgC
namespace Go.Proofs.YtjoaigadlpndcaaGreatDoor
open Go.RowKit

/-- The cells of new sections. -/
def secZ : Array Value := Array.replicate 129 (.int .i64 0)
theorem secZ_zero (w : World) : Sem.run Tryz.prog (zeroValue 71) w = .ok (.agg secZ) w := by kernel_rfl
theorem Sec.new (w : World) (t : TypeId) : Sec (w.alloc (.cells secZ t)) w.heap.size SS.zero := by
  have hc : ∀ i, i < 129 → (w.alloc (.cells secZ t)).cell? ⟨w.heap.size, i, none⟩ = some (.int .i64 0) := fun i hi => by
    rw [World.cell?_alloc_at _ _ _ _ rfl]
    simp [secZ, hi]
  exact ⟨hc 0 (by decide), fun i hi => hc _ (by omega), fun i hi => hc _ (by omega), fun k => World.frozen?_alloc_new w _ _ _⟩

/-- Sections of a law's own. -/
structure SL (w0 w : World) (b : Nat) (x : SS) : Prop where
  s : Sec w b x
  g : GS x
  ch : Ch [] w0 w
  lo : w0.heap.size ≤ b
section
variable {w0 w w' : World} {b : Nat} {x : SS}
theorem SL.new (w0 : World) {w : World} (h : Ch [] w0 w) (t : TypeId) : SL w0 (w.alloc (.cells secZ t)) w.heap.size SS.zero := ⟨Sec.new w t, GS.zero, h.alloc _, h.size⟩
theorem SL.quiet (h : SL w0 w b x) (hc : Ch [] w w') : SL w0 w' b x := ⟨h.s.ch hc (by simp), h.g, h.ch.trans hc, h.lo⟩
theorem SL.alloc (h : SL w0 w b x) (o : Obj) : SL w0 (w.alloc o) b x := h.quiet ((Ch.refl [] w).alloc o)
theorem SL.enterL (h : SL w0 w b x) {a : Option Addr} {cap n : Nat} {zs : List Int} (hl : zs.length = n) (hn : x.n + n ≤ 1000000) (hz : Mk.IntsAt w a zs) (hb : zs = [] ∨ ∀ y, a = some y → y.block ≠ b) {e : Int} {x' : SS} (he : Proofs.YtjoaigadlpndcaaGreatDoor.enterL x zs = (e, x')) :
    Calls Tryz.prog 34 #[.pointer (some ⟨b, 0, none⟩), .slice a n cap] w fun e' w' => e' = .returned (.int .i64 e) ∧ SL w0 w' b x' ∧ Ch [b] w w' := by
  subst hl
  refine (enter_any (cap := cap) h.s h.g hn hz hb).mono ?_
  rintro e' w' ⟨rfl, hs, hc⟩
  rw [he] at hs
  rw [he]
  exact ⟨rfl, ⟨hs, by have := (h.g.enters zs).1; rwa [he] at this, h.ch.fresh hc (by simpa using h.lo), h.lo⟩, hc⟩
theorem SL.enter (h : SL w0 w b x) (r : Int) (hn : x.n ≤ 100000) {e : Int} (he : enterE x r = e) (t : TypeId) :
    Calls Tryz.prog 34 #[.pointer (some ⟨b, 0, none⟩), .slice (some ⟨w.heap.size, 0, none⟩) 1 1] (w.alloc (.cells #[.int .i64 r] t)) fun e' w' => e' = .returned (.int .i64 e) ∧ SL w0 w' b (enterS x r) ∧ Ch [b] w w' := by
  refine ((h.alloc (.cells #[.int .i64 r] t)).enterL (a := some ⟨w.heap.size, 0, none⟩) (cap := 1) (n := 1) (zs := [r]) (e := e) (x' := enterS x r) rfl (by omega) (intsAt_one (cell_new w _ _).1) (.inr fun y e => by cases e; have := h.s.lt; simp only; omega) (by rw [enterL_one, he])).mono ?_
  rintro e' w' ⟨rfl, hs, hc⟩
  exact ⟨rfl, hs, ((Ch.refl [b] w).alloc _).trans hc⟩
theorem SL.exit (h : SL w0 w b x) (r : Int) {u : Bool} {e : Int} (hu : exitB x r = u) (he : exitE x r = e) :
    Calls Tryz.prog 36 #[.pointer (some ⟨b, 0, none⟩), .int .i64 r] w fun e' w' => e' = .returned (.tuple #[.bool u, .int .i64 e]) ∧ SL w0 w' b (exitS x r) ∧ Ch [b] w w' := by
  refine (exit_any h.s h.g r).mono ?_
  rintro e' w' ⟨rfl, hs, hc⟩
  rw [hu, he]
  exact ⟨rfl, ⟨hs, h.g.exit r, h.ch.fresh hc (by simpa using h.lo), h.lo⟩, hc⟩
theorem SL.depth (h : SL w0 w b x) (r : Int) {v : Int} (hv : dOf x r = v) :
    Calls Tryz.prog 46 #[.pointer (some ⟨b, 0, none⟩), .int .i64 r] w fun e w' => e = .returned (.int .i64 v) ∧ w = w' := by rw [← hv]; exact depth_any h.s r
theorem SL.since (h : SL w0 w b x) (r : Int) {v : Int} (hv : sOf x r = v) :
    Calls Tryz.prog 90 #[.pointer (some ⟨b, 0, none⟩), .int .i64 r] w fun e w' => e = .returned (.int .i64 v) ∧ w = w' := by rw [← hv]; exact since_any h.s r
theorem SL.in (h : SL w0 w b x) {m : Nat} (hm : mskN (inP x) = m) :
    Calls Tryz.prog 47 #[.pointer (some ⟨b, 0, none⟩)] w fun e w' => e = .returned (.int .u64 (m : Int)) ∧ SL w0 w' b x ∧ Ch [] w w' := by
  refine (in_any h.s).mono ?_
  rintro e w' ⟨rfl, hc⟩
  rw [hm]
  exact ⟨rfl, h.quiet hc, hc⟩
end
theorem of_one (i : Int) (w : World) (t : TypeId) {m : Nat} (hm : Mk.withN 0 [i] = m) :
    Calls Tryz.prog 91 #[.slice (some ⟨w.heap.size, 0, none⟩) 1 1] (w.alloc (.cells #[.int .i64 i] t)) fun e w' => e = .returned (.int .u64 (m : Int)) ∧ w.alloc (.cells #[.int .i64 i] t) = w' := by
  rw [← hm]
  exact Mk.of_any (some ⟨w.heap.size, 0, none⟩) 1 [i] _ (by simp) (intsAt_one (cell_new w _ _).1)

theorem intsAt_two (w : World) (y z : Int) (t : TypeId) : Mk.IntsAt (w.alloc (.cells #[.int .i64 y, .int .i64 z] t)) (some ⟨w.heap.size, 0, none⟩) [y, z] :=
  Or.inr ⟨w.heap.size, 0, rfl, fun i hi => by
    have h2 := Two.new w (.int .i64 y) (.int .i64 z) t
    match i, hi with
    | 0, _ => exact h2.c0
    | 1, _ => exact h2.c1⟩

def kx1 : SS := (enterL SS.zero [4, 4]).2
def kx2 : SS := enterS kx1 9
def kx3 : SS := exitS kx2 4
def kx4 : SS := exitS kx3 4
def kx5 : SS := enterS kx4 4

end Go.Proofs.YtjoaigadlpndcaaGreatDoor
namespace Go.Proofs.YtjoaigadlpndcaaGreatDoor
open Go.RowKit

theorem enter_facts {x : SS} {r k : Nat} (hr : r < 64) (hd : x.d r = (k : Int)) (hk : k < 8) :
    enterE x (r : Int) = 0 ∧ (enterS x (r : Int)).d r = ((k + 1 : Nat) : Int) ∧ (k = 0 → (enterS x (r : Int)).n = x.n + 1 ∧ (enterS x (r : Int)).s r = x.n + 1) ∧ (k ≠ 0 → (enterS x (r : Int)).n = x.n ∧ (enterS x (r : Int)).s r = x.s r) := by
  have he : enterE x (r : Int) = 0 := enterE_zero.2 ⟨by omega, by rw [Int.toNat_natCast, hd]; omega⟩
  have hs : enterS x (r : Int) = inS x r := by unfold enterS; rw [if_pos he]; rfl
  rw [hs]
  refine ⟨he, by rw [inS_d, if_pos rfl, hd]; omega, fun h0 => ⟨?_, ?_⟩, fun h0 => ⟨?_, ?_⟩⟩
  · unfold inS; exact if_pos (by rw [hd, h0]; rfl)
  · rw [inS_s, if_pos ⟨rfl, by rw [hd, h0]; rfl⟩]
  · unfold inS; exact if_neg (by rw [hd]; omega)
  · rw [inS_s, if_neg (fun h => by have := h.2; rw [hd] at this; omega)]
theorem exit_facts {x : SS} {r m : Nat} (hr : r < 64) (hd : x.d r = (m : Int)) (hm : 1 ≤ m) :
    exitE x (r : Int) = 0 ∧ (exitS x (r : Int)).d r = ((m - 1 : Nat) : Int) ∧ (exitS x (r : Int)).n = x.n ∧ exitB x (r : Int) = decide (m = 1) := by
  have he : exitE x (r : Int) = 0 := exitE_zero.2 ⟨by omega, by rw [Int.toNat_natCast, hd]; omega⟩
  refine ⟨he, ?_, exit_n x r, ?_⟩
  · unfold exitS; rw [if_pos he, Int.toNat_natCast, outS_d, if_pos rfl, hd]; omega
  · unfold exitB
    rw [he, Int.toNat_natCast, hd, Bool.eq_iff_iff]
    simp
    omega
theorem SL.stamp {w0 w : World} {b : Nat} {x : SS} (h : SL w0 w b x) {v : Int} (hv : x.n = v) :
    Calls Tryz.prog 83 #[.pointer (some ⟨b, 0, none⟩)] w fun e w' => e = .returned (.int .i64 v) ∧ w = w' := by rw [← hv]; exact stamp_any h.s

end Go.Proofs.YtjoaigadlpndcaaGreatDoor
namespace Go.Proofs.YtjoaigadlpndcaaGreatDoor
open Go.RowKit

theorem infoD : (Tryz.prog.info? 93).map (fun i => (i.zero, i.size, i.bytes)) = some (some (.agg #[.int .i64 0, .bool false]), 2, 16) := by kernel_rfl
/-- The cells of what readers did. -/
def dcl (l : List (Nat × Bool)) : List Value := l.flatMap fun a => [.int .i64 (a.1 : Int), .bool a.2]
theorem dcl_snoc (l : List (Nat × Bool)) (a : Nat × Bool) : dcl (l ++ [a]) = dcl l ++ [.int .i64 (a.1 : Int), .bool a.2] := by simp [dcl]
theorem dcl_len (l : List (Nat × Bool)) : (dcl l).length = l.length * 2 := by
  induction l with
  | nil => rfl
  | cons a t ih => simp only [dcl, List.flatMap_cons, List.length_append, List.length_cons, List.length_nil] at ih ⊢; omega
theorem dcl_one (l : List (Nat × Bool)) : ∀ u ∈ dcl l, u.oneCell' = true := by
  intro u hu
  unfold dcl at hu
  obtain ⟨a, _, hm⟩ := List.mem_flatMap.1 hu
  simp at hm
  rcases hm with rfl | rfl <;> rfl
/-- What readers did, in a row that lies behind D, or is nil. -/
structure RD (w : World) (D : Nat) (m : Value) (l : List (Nat × Bool)) : Prop where
  row : w.ownsRow D 93 2 m l.length (dcl l)
  ok : ∀ (k : Nat) (a : Nat × Bool), l[k]? = some a → a.1 < 64
section
variable {w w' : World} {D : Nat} {m : Value} {l : List (Nat × Bool)}
theorem RD.quiet (h : RD w D m l) (hc : Ch [] w w') : RD w' D m l := ⟨own_ch h.row hc (by simp), h.ok⟩
theorem RD.away {S : List Nat} (h : RD w D m l) (hc : Ch S w w') (hS : ∀ k ∈ S, m.ownBlock ≠ some k) : RD w' D m l := by
  refine ⟨?_, h.ok⟩
  obtain ⟨h1, h2⟩ := h.row
  refine ⟨h1, ?_⟩
  rcases h2 with h2 | ⟨g, cap, cur, rfl, hb, hg, r⟩
  · exact .inl h2
  · exact .inr ⟨g, cap, cur, rfl, hb, (hc.block g (Array.getElem?_eq_some_iff.1 hg).1 (fun hm => hS g hm rfl)).trans hg, r⟩
theorem RD.aside {b : Nat} (h : RD w D m l) (hc : Ch [b] w w') (hb : b < D) : RD w' D m l := h.away hc (fun k hk e => by
  obtain rfl : k = b := by simpa using hk
  have := (h.row.lt k e).1
  omega)
theorem RD.nil (w : World) (D : Nat) : RD w D (.slice none 0 0) [] := ⟨World.ownsRow_nil _ _ _ _, by simp⟩
theorem RD.form (h : RD w D m l) : ∃ a cap, m = .slice a l.length cap := own_form h.row
theorem RD.at (h : RD w D m l) {k : Nat} {a : Nat × Bool} (hk : l[k]? = some a) : ∃ g cap, m = .slice (some ⟨g, 0, none⟩) l.length cap ∧ w.cell? ⟨g, k * 2, none⟩ = some (.int .i64 (a.1 : Int)) ∧ w.cell? ⟨g, k * 2 + 1, none⟩ = some (.bool a.2) ∧ g < w.heap.size := by
  obtain ⟨p, cap, rfl⟩ := h.form
  have hlt : k < l.length := (List.getElem?_eq_some_iff.1 hk).1
  obtain ⟨g, rfl, _, hg, _, hc⟩ := own_cells h.row (k * 2) (by omega)
  obtain ⟨c0, c1⟩ := flat2_at (fun a : Nat × Bool => Value.int .i64 (a.1 : Int)) (fun a => .bool a.2) l k a hk
  exact ⟨g, cap, rfl, (hc (k * 2) (by omega)).trans c0, (hc (k * 2 + 1) (by omega)).trans c1, hg⟩
end

theorem dOf_nat (x : SS) {k : Nat} (hk : k < 64) : dOf x (k : Int) = x.d k := by unfold dOf; rw [if_pos (by omega), Int.toNat_natCast]
theorem sOf_nat (x : SS) {k : Nat} (hk : k < 64) : sOf x (k : Int) = x.s k := by unfold sOf; rw [if_pos (by omega), Int.toNat_natCast]
theorem dOf_step (x : SS) (a : Nat × Bool) (r : Int) (ha : a.1 < 64) : dOf (stepS x a) r = if (a.1 : Int) = r then (if a.2 = true then dOf x r - 1 else dOf x r + 1) else dOf x r := by
  by_cases e : (a.1 : Int) = r
  · subst e
    rw [if_pos rfl, dOf_nat _ ha, dOf_nat _ ha, stepS]
    cases a.2 <;> simp [inS_d, outS_d]
  · rw [if_neg e]
    by_cases h : 0 ≤ r ∧ r < 64
    · have hne : ¬ r.toNat = a.1 := by omega
      unfold dOf stepS
      rw [if_pos h, if_pos h]
      cases a.2 <;> simp [inS_d, outS_d, hne]
    · unfold dOf
      rw [if_neg h, if_neg h]
theorem sOf_step (x : SS) (a : Nat × Bool) (r : Int) (ha : a.1 < 64) : sOf (stepS x a) r = if a.2 = true then (if (a.1 : Int) = r ∧ x.d a.1 = 1 then 0 else sOf x r) else (if (a.1 : Int) = r ∧ x.d a.1 = 0 then x.n + 1 else sOf x r) := by
  by_cases e : (a.1 : Int) = r
  · subst e
    rw [sOf_nat _ ha, sOf_nat _ ha, stepS]
    cases a.2 <;> simp [inS_s, outS_s]
  · by_cases h : 0 ≤ r ∧ r < 64
    · have hne : ¬ r.toNat = a.1 := by omega
      unfold sOf stepS
      rw [if_pos h, if_pos h]
      cases a.2 <;> simp [inS_s, outS_s, hne, e]
    · unfold sOf
      rw [if_neg h, if_neg h]
      cases a.2 <;> simp [e]
theorem dOf_near {x : SS} {m : Nat} (h : Near x m) (r : Int) : -(m : Int) ≤ dOf x r ∧ dOf x r ≤ m := by
  unfold dOf
  split
  · exact h.d1 _
  · omega
theorem run_zero (r : Int) : dOf (runS []) r = 0 ∧ sOf (runS []) r = 0 := by
  unfold dOf sOf
  constructor <;> split <;> rfl

set_option maxHeartbeats 1000000 in
theorem rdepth_any {w : World} {D : Nat} {m : Value} {l : List (Nat × Bool)} (h : RD w D m l) (hl : l.length ≤ 1000) (r : Int) :
    Calls Tryz.prog 18 #[m, .int .i64 r] w fun e w' => e = .returned (.int .i64 (dOf (runS l) r)) ∧ w = w' := by
  obtain ⟨n, hn⟩ : ∃ n, n = l.length := ⟨_, rfl⟩
  obtain ⟨p, cap, rfl⟩ := h.form
  rw [← hn] at h hl ⊢
  have H := Lib.hid h
  have HN := Lib.hid hn
  have hz0 := (run_zero r).1
  clear h hn
  go_enter Tryz.func18, Tryz.ntmps18
  go_wp2
  go_loop [5, 6] (fun v i => ∃ k : Nat, k ≤ n ∧ i = .int .i64 (k : Int) ∧ v = .int .i64 (dOf (runS (l.take k)) r)) (fun _ i => n - (intOf i).toNat)
  case atStart => exact ⟨0, Nat.zero_le _, rfl, by rw [List.take_zero, hz0]⟩
  case round =>
    obtain ⟨k, hk, rfl, rfl⟩ := hrel
    clear hz0
    by_cases hlt : k < n
    · obtain ⟨a, ha⟩ : ∃ a, l[k]? = some a := ⟨_, List.getElem?_eq_getElem (by rw [← HN.out]; exact hlt)⟩
      obtain ⟨g, cp, hm, c0, c1, _⟩ := H.out.at ha
      obtain ⟨rfl, -, rfl⟩ : p = some ⟨g, 0, none⟩ ∧ n = l.length ∧ cap = cp := by simpa using hm
      have hnr := dOf_near (near_run (l.take k)) r
      rw [List.length_take] at hnr
      have hst := dOf_step (runS (l.take k)) a r (H.out.ok k a ha)
      rw [← runS_take ha] at hst
      have HS := Lib.hid hst
      generalize dOf (runS (l.take k)) r = v at *
      have hw1 : IntKind.i64.wrap (v - 1) = v - 1 := IntWalk.i64_in _ (by omega)
      have hw2 : IntKind.i64.wrap (v + 1) = v + 1 := IntWalk.i64_in _ (by omega)
      clear hnr hst hm ha
      by_cases he : (a.1 : Int) = r
      · have heb : ((a.1 : Int) == r) = true := by simpa using he
        rw [if_pos he] at HS
        clear he
        cases ho : a.2
        · rw [ho] at c1 HS
          clear ho
          go_wp2
          go_round
          case rel => exact ⟨k + 1, by omega, by go_num, by rw [HS.out]; rfl⟩
          case measure => simp [intOf]; omega
        · rw [ho] at c1 HS
          clear ho
          go_wp2
          go_round
          case rel => exact ⟨k + 1, by omega, by go_num, by rw [HS.out]; rfl⟩
          case measure => simp [intOf]; omega
      · have heb : ((a.1 : Int) == r) = false := by simpa using he
        rw [if_neg he] at HS
        clear he
        go_wp2
        go_round
        case rel => exact ⟨k + 1, by omega, by go_num, by rw [HS.out]⟩
        case measure => simp [intOf]; omega
    · go_wp2
      go_ret
      exact ⟨by rw [List.take_of_length_le (by rw [← HN.out]; omega)]; rfl, rfl⟩
end Go.Proofs.YtjoaigadlpndcaaGreatDoor
namespace Go.Proofs.YtjoaigadlpndcaaGreatDoor
open Go.RowKit

/-- The cells of a new array of depths. -/
def depZ : Array Value := Array.replicate 64 (.int .i64 0)
theorem depZ_zero (w : World) : Sem.run Tryz.prog (zeroValue 69) w = .ok (.agg depZ) w := by kernel_rfl
/-- An array of depths. -/
structure Dep (w : World) (X : Nat) (d : Nat → Int) : Prop where
  d : ∀ i, i < 64 → w.cell? ⟨X, i, none⟩ = some (.int .i64 (d i))
  fr : ∀ k, w.frozen? ⟨X, k, none⟩ = false
theorem Dep.new (w : World) (t : TypeId) : Dep (w.alloc (.cells depZ t)) w.heap.size (fun _ => 0) :=
  ⟨fun i hi => by rw [World.cell?_alloc_at _ _ _ _ rfl]; simp [depZ, hi], fun k => World.frozen?_alloc_new w _ _ _⟩
theorem Dep.set {w : World} {X : Nat} {d : Nat → Int} (h : Dep w X d) {r : Nat} (hr : r < 64) (v : Int) : Dep (w.setCell ⟨X, r, none⟩ (.int .i64 v)) X (putF d r v) :=
  ⟨fun i hi => by
    by_cases e : i = r
    · subst e; rw [setCell_same (h.d i hi), putF_same]
    · rw [setCell_other (h.d i hi) (addr_ne_off (by omega)), putF_other _ _ e], fun k => by simpa using h.fr k⟩
theorem run_step_d (x : SS) (a : Nat × Bool) : (stepS x a).d = putF x.d a.1 (if a.2 = true then x.d a.1 - 1 else x.d a.1 + 1) := by
  unfold stepS
  cases a.2 <;> rfl
theorem run_step_n (x : SS) (a : Nat × Bool) : (stepS x a).n = if a.2 = true then x.n else (if x.d a.1 = 0 then x.n + 1 else x.n) := by
  unfold stepS
  cases a.2 <;> rfl

set_option maxHeartbeats 2000000 in
theorem rstamps_any {w : World} {D : Nat} {m : Value} {l : List (Nat × Bool)} (h : RD w D m l) (hl : l.length ≤ 1000) (r : Int) :
    Calls Tryz.prog 48 #[m, .int .i64 r] w fun e w' => e = .returned (.tuple #[.int .i64 (runS l).n, .int .i64 (sOf (runS l) r)]) ∧ Ch [] w w' := by
  obtain ⟨n, hn⟩ : ∃ n, n = l.length := ⟨_, rfl⟩
  obtain ⟨p, cap, rfl⟩ := h.form
  rw [← hn] at h hl ⊢
  have hz := depZ_zero w
  have HDp := Lib.hid (Dep.new w 69)
  have H := Lib.hid h
  have HN := Lib.hid hn
  have HC := Lib.hid ((Ch.refl [] w).alloc (.cells depZ 69))
  clear h hn
  go_enter Tryz.func48, Tryz.ntmps48
  go_wp2_with fail
  obtain ⟨X, hX⟩ : ∃ X, X = w.heap.size := ⟨_, rfl⟩
  obtain ⟨w1, hw1⟩ : ∃ W, W = w.alloc (.cells depZ 69) := ⟨_, rfl⟩
  rw [← hX, ← hw1] at HDp ⊢
  rw [← hw1] at HC
  have HX := Lib.hid hX
  clear hz hw1 hX
  go_loopw [7, 8, 9] (fun v u i wr => ∃ k : Nat, k ≤ n ∧ i = .int .i64 (k : Int) ∧ v = .int .i64 (runS (l.take k)).n ∧ u = .int .i64 (sOf (runS (l.take k)) r) ∧ Dep wr X (runS (l.take k)).d ∧ Ch [] w wr) (fun _ _ i _ => n - (intOf i).toNat)
  case atStart => exact ⟨0, Nat.zero_le _, rfl, rfl, by rw [List.take_zero, (run_zero r).2], HDp.out, HC.out⟩
  case round =>
    obtain ⟨k, hk, rfl, rfl, rfl, hdp, hc⟩ := hrel
    clear HDp HC
    by_cases hlt : k < n
    · obtain ⟨a, ha⟩ : ∃ a, l[k]? = some a := ⟨_, List.getElem?_eq_getElem (by rw [← HN.out]; exact hlt)⟩
      obtain ⟨g, cp, hm, c0, c1, _⟩ := (H.out.quiet hc).at ha
      obtain ⟨rfl, -, rfl⟩ : p = some ⟨g, 0, none⟩ ∧ n = l.length ∧ cap = cp := by simpa using hm
      have hnr := near_run (l.take k)
      rw [List.length_take] at hnr
      have ha64 := H.out.ok k a ha
      have ha64' : (a.1 : Int) < 64 := by omega
      have hd1 := hnr.d1 a.1
      have hn1 := hnr.n1
      have hst := sOf_step (runS (l.take k)) a r ha64
      have hsd := run_step_d (runS (l.take k)) a
      have hsn := run_step_n (runS (l.take k)) a
      rw [← runS_take ha] at hst hsd hsn
      have d0 := hdp.d a.1 ha64
      have f0 := hdp.fr a.1
      generalize runS (l.take k) = x at *
      have hw3 : IntKind.i64.wrap (x.n + 1) = x.n + 1 := IntWalk.i64_in _ (by omega)
      have HDp := Lib.hid (hdp.set ha64)
      have HC := Lib.hid (fun v => chSetNew (p := ⟨X, a.1, none⟩) hc (by rw [HX.out]; exact Nat.le_refl _) (.int .i64 v))
      have HSt := Lib.hid hst
      have HSd := Lib.hid hsd
      have HSn := Lib.hid hsn
      clear hnr hst hsd hsn hm ha hdp hc
      cases ho : a.2
      · rw [ho] at c1 HSt HSd HSn
        simp only [Bool.false_eq_true, if_false] at HSt HSd HSn
        obtain ⟨v, hv⟩ : ∃ v, v = x.d a.1 + 1 := ⟨_, rfl⟩
        have hw1 : IntKind.i64.wrap (x.d a.1 + 1) = v := by rw [hv]; exact IntWalk.i64_in _ (by omega)
        rw [← hv] at HSd
        have d1 : (wr.setCell ⟨X, a.1, none⟩ (.int .i64 v)).cell? ⟨X, a.1, none⟩ = some (.int .i64 v) := setCell_same d0
        by_cases h0 : x.d a.1 = 0
        · rw [if_pos h0] at HSn
          have hv1 : v = 1 := by omega
          subst hv1
          by_cases he : (a.1 : Int) = r
          · rw [if_pos ⟨he, h0⟩] at HSt
            have heb : ((a.1 : Int) == r) = true := by simpa using he
            clear hd1 hn1 ho hv h0 he
            go_wp2
            go_roundw
            case rel => exact ⟨k + 1, by omega, by go_num, by rw [HSn.out], by rw [HSt.out], by rw [HSd.out]; exact HDp.out _, HC.out _⟩
            case measure => simp [intOf]; omega
          · rw [if_neg (fun h => he h.1)] at HSt
            have heb : ((a.1 : Int) == r) = false := by simpa using he
            clear hd1 hn1 ho hv h0 he
            go_wp2
            go_roundw
            case rel => exact ⟨k + 1, by omega, by go_num, by rw [HSn.out], by rw [HSt.out], by rw [HSd.out]; exact HDp.out _, HC.out _⟩
            case measure => simp [intOf]; omega
        · rw [if_neg h0] at HSn
          rw [if_neg (fun h => h0 h.2)] at HSt
          have hv1 : (v == 1) = false := by simp; omega
          clear hd1 hn1 ho hv h0
          go_wp2
          go_roundw
          case rel => exact ⟨k + 1, by omega, by go_num, by rw [HSn.out], by rw [HSt.out], by rw [HSd.out]; exact HDp.out _, HC.out _⟩
          case measure => simp [intOf]; omega
      · rw [ho] at c1 HSt HSd HSn
        simp only [if_true] at HSt HSd HSn
        obtain ⟨v, hv⟩ : ∃ v, v = x.d a.1 - 1 := ⟨_, rfl⟩
        have hw1 : IntKind.i64.wrap (x.d a.1 - 1) = v := by rw [hv]; exact IntWalk.i64_in _ (by omega)
        rw [← hv] at HSd
        have d1 : (wr.setCell ⟨X, a.1, none⟩ (.int .i64 v)).cell? ⟨X, a.1, none⟩ = some (.int .i64 v) := setCell_same d0
        by_cases he : (a.1 : Int) = r
        · have heb : ((a.1 : Int) == r) = true := by simpa using he
          by_cases h1 : x.d a.1 = 1
          · rw [if_pos ⟨he, h1⟩] at HSt
            have hv1 : v = 0 := by omega
            subst hv1
            clear hd1 hn1 ho hv h1 he
            go_wp2
            go_roundw
            case rel => exact ⟨k + 1, by omega, by go_num, by rw [HSn.out], by rw [HSt.out], by rw [HSd.out]; exact HDp.out _, HC.out _⟩
            case measure => simp [intOf]; omega
          · rw [if_neg (fun h => h1 h.2)] at HSt
            have hv1 : (v == 0) = false := by simp; omega
            clear hd1 hn1 ho hv h1 he
            go_wp2
            go_roundw
            case rel => exact ⟨k + 1, by omega, by go_num, by rw [HSn.out], by rw [HSt.out], by rw [HSd.out]; exact HDp.out _, HC.out _⟩
            case measure => simp [intOf]; omega
        · rw [if_neg (fun h => he h.1)] at HSt
          have heb : ((a.1 : Int) == r) = false := by simpa using he
          clear hd1 hn1 ho hv he
          go_wp2
          go_roundw
          case rel => exact ⟨k + 1, by omega, by go_num, by rw [HSn.out], by rw [HSt.out], by rw [HSd.out]; exact HDp.out _, HC.out _⟩
          case measure => simp [intOf]; omega
    · go_wp2
      go_ret2
      have e : l.take k = l := List.take_of_length_le (by rw [← HN.out]; omega)
      exact ⟨by rw [e]; rfl, hc⟩
end Go.Proofs.YtjoaigadlpndcaaGreatDoor
namespace Go.Proofs.YtjoaigadlpndcaaGreatDoor
open Go.RowKit

/-- What readers did, with one more. -/
def deedsIn (l : List (Nat × Bool)) (r : Int) : List (Nat × Bool) := if enterE (runS l) r = 0 then l ++ [(r.toNat, false)] else l
def deedsOut (l : List (Nat × Bool)) (r : Int) : List (Nat × Bool) := if exitE (runS l) r = 0 then l ++ [(r.toNat, true)] else l
theorem runS_in (l : List (Nat × Bool)) (r : Int) : runS (deedsIn l r) = enterS (runS l) r := by
  unfold deedsIn enterS
  split
  · rw [runS_snoc]; rfl
  · rfl
theorem runS_out (l : List (Nat × Bool)) (r : Int) : runS (deedsOut l r) = exitS (runS l) r := by
  unfold deedsOut exitS
  split
  · rw [runS_snoc]; rfl
  · rfl
theorem deedsIn_len (l : List (Nat × Bool)) (r : Int) : (deedsIn l r).length ≤ l.length + 1 := by
  unfold deedsIn; split <;> simp
theorem deedsOut_len (l : List (Nat × Bool)) (r : Int) : (deedsOut l r).length ≤ l.length + 1 := by
  unfold deedsOut; split <;> simp
theorem RD.snoc {w w' : World} {D B n : Nat} {m m' : Value} {l : List (Nat × Bool)} (h : RD w D m l) {k : Nat} {o : Bool} (hk : k < 64) (hn : n = l.length) (hB : D ≤ B) {R : List Value} (hR : R = dcl l) (hr : w'.ownsRow B 93 2 m' (n + 1) (R ++ [.int .i64 (k : Int), .bool o])) : RD w' D m' (l ++ [(k, o)]) := by
  subst hn hR
  refine ⟨?_, fun i a ha => ?_⟩
  · rw [dcl_snoc, List.length_append]
    exact own_mono hr hB
  · rcases get_snoc ha with ⟨_, h1⟩ | ⟨_, rfl⟩
    · exact h.ok i a h1
    · exact hk

set_option maxHeartbeats 1000000 in
theorem renter_any {w : World} {D : Nat} {m : Value} {l : List (Nat × Bool)} (h : RD w D m l) (hl : l.length ≤ 900) (hD : D ≤ w.heap.size) (r : Int) :
    Calls Tryz.prog 32 #[m, .int .i64 r] w fun e w' => ∃ m', e = .returned (.tuple #[m', .int .i64 (enterE (runS l) r)]) ∧ RD w' D m' (deedsIn l r) ∧ (m' = m ∨ ∀ k, m'.ownBlock = some k → w.heap.size ≤ k) ∧ Ch [] w w' := by
  obtain ⟨i0, hI, hz0, hz1, hz2⟩ := info_parts infoD
  by_cases hr : 0 ≤ r ∧ r < 64
  · obtain ⟨k, rfl⟩ : ∃ k : Nat, r = (k : Int) := ⟨r.toNat, by omega⟩
    have hk : k < 64 := by omega
    have hk0 : ¬ (k : Int) < 0 := by omega
    have hk1 : decide ((k : Int) > 63) = false := decide_eq_false (by omega)
    have HDp := Lib.hid (rdepth_any h (by omega) (k : Int))
    rw [dOf_nat _ hk] at HDp
    by_cases h8 : 8 ≤ (runS l).d k
    · have hE : enterE (runS l) (k : Int) = 3 := by unfold enterE; rw [if_pos hr, Int.toNat_natCast, if_pos h8]
      have hS : deedsIn l (k : Int) = l := by unfold deedsIn; rw [if_neg (by rw [hE]; decide)]
      rw [hE, hS]
      have hge : decide ((runS l).d k ≥ 8) = true := decide_eq_true h8
      obtain ⟨p, cap, rfl⟩ := h.form
      have HH := Lib.hid h
      generalize l.length = n at *
      generalize (runS l).d k = v at *
      clear h hr hE hS h8
      go_enter Tryz.func32, Tryz.ntmps32
      go_wp2_with fail
      with_reducible refine HDp.out.mono ?_
      rintro e w' ⟨rfl, rfl⟩
      go_wp2_with fail
      go_ret2
      exact ⟨_, rfl, HH.out, .inl rfl, Ch.refl _ _⟩
    · have hE : enterE (runS l) (k : Int) = 0 := by unfold enterE; rw [if_pos hr, Int.toNat_natCast, if_neg h8]
      have hS : deedsIn l (k : Int) = l ++ [(k, false)] := by unfold deedsIn; rw [if_pos hE]; rfl
      rw [hE, hS]
      have hge : decide ((runS l).d k ≥ 8) = false := decide_eq_false h8
      obtain ⟨p, cap, rfl⟩ := h.form
      have HH := Lib.hid h
      obtain ⟨n, hn⟩ : ∃ n, n = l.length := ⟨_, rfl⟩
      obtain ⟨R, hR⟩ : ∃ R, R = dcl l := ⟨_, rfl⟩
      have HOne := Lib.hid (dcl_one l)
      have HH := Lib.hid h
      have hrow := h.row
      rw [← hn, ← hR] at hrow
      rw [← hn] at HDp hl
      rw [← hn] at HH
      have HN := Lib.hid hn
      have HR := Lib.hid hR
      rw [← hR] at HOne
      have HRow := Lib.hid hrow
      rw [← hn]
      generalize (runS l).d k = v at *
      clear h hr hE hS h8 hn hR hrow
      go_enter Tryz.func32, Tryz.ntmps32
      go_wp2_with fail
      with_reducible refine HDp.out.mono ?_
      rintro e w' ⟨rfl, rfl⟩
      clear HDp
      go_wp2_with (at_builtin; go_must (refine wpList_append_row rfl _ _ 28 rfl w.heap.size 93 i0 (.agg #[.int .i64 0, .bool false]) 2 16 Tryz.underlying28 hI hz0 hz1 hz2 rfl (by decide) (.slice (some ⟨w.heap.size, 0, none⟩) 0 0) 0 [] rfl ?c0 ?c1 D (.slice p n cap) n R rfl ?c2 HOne.out ?c3 ?c4 ?c5 ?_))
      case c0 => exact World.ownsRow_lit w #[] 0 (Nat.le_refl _) (Nat.zero_le _) rfl
      case c1 => intro e; cases e
      case c2 => exact World.ownsRow.alloc HRow.out _
      case c3 => unfold maxLen; omega
      case c4 => omega
      case c5 => simp
      intro v1 w1 hown1 hgrow1 hne1
      have hc1 : Ch [] w w1 := ((Ch.refl [] w).alloc (.cells #[] 93)).kept hgrow1 (fun r e => by simp [Value.ownBlock] at e; omega)
      obtain ⟨g1, cp1, rfl⟩ := own_some hown1 hne1
      have hown2 : w1.ownsRow w.heap.size 93 2 (.slice (some ⟨g1, 0, none⟩) n cp1) n R := by simpa using hown1
      have hsz := hc1.size
      have HO := Lib.hid hown2
      have HC1 := Lib.hid hc1
      clear hown1 hgrow1 hne1 hc1 hown2
      go_wp2_with (at_builtin; go_must (refine wpList_append_own _ rfl _ _ 28 rfl w.heap.size 93 i0 (.agg #[.int .i64 0, .bool false]) 2 16 Tryz.underlying28 hI hz0 hz1 hz2 rfl (by decide) _ _ _ rfl (HO.out.alloc _) ⟨w1.heap.size, 0, none⟩ 1 1 [.int .i64 (k : Int), .bool false] rfl rfl (cell_two_new _ _ _ _) (by simp [Value.oneCell']) (by unfold maxLen; omega) (by omega) (by simp; omega) ?_); intro v2 w2 hown2 hgrow2 _)
      have hc2 : Ch [] w w2 := (HC1.out.alloc (.cells #[.int .i64 (k : Int), .bool false] 93)).kept hgrow2 (fun r e => (HO.out.lt r e).1)
      obtain ⟨p2, cp2, rfl⟩ := own_form hown2
      have HO2 := Lib.hid hown2
      have HC2 := Lib.hid hc2
      clear hgrow2 hc2 hown2 HO HC1 hsz
      go_wp2_with fail
      go_ret2
      exact ⟨_, rfl, HH.out.snoc hk HN.out hD HR.out HO2.out, .inr fun k e => (HO2.out.lt k e).1, HC2.out⟩
  · have hE : enterE (runS l) r = 2 := by unfold enterE; rw [if_neg hr]
    have hS : deedsIn l r = l := by unfold deedsIn; rw [if_neg (by rw [hE]; decide)]
    rw [hE, hS]
    obtain ⟨p, cap, rfl⟩ := h.form
    have HH := Lib.hid h
    generalize l.length = n at *
    clear h hE hS
    by_cases h0 : r < 0
    · clear hr
      go_enter Tryz.func32, Tryz.ntmps32
      go_wp2_with fail
      go_ret2
      exact ⟨_, rfl, HH.out, .inl rfl, Ch.refl _ _⟩
    · have h1 : decide (r > 63) = true := decide_eq_true (by omega)
      clear hr
      go_enter Tryz.func32, Tryz.ntmps32
      go_wp2_with fail
      go_ret2
      exact ⟨_, rfl, HH.out, .inl rfl, Ch.refl _ _⟩

set_option maxHeartbeats 1000000 in
theorem rexit_any {w : World} {D : Nat} {m : Value} {l : List (Nat × Bool)} (h : RD w D m l) (hl : l.length ≤ 900) (hD : D ≤ w.heap.size) (r : Int) :
    Calls Tryz.prog 35 #[m, .int .i64 r] w fun e w' => ∃ m', e = .returned (.tuple #[m', .bool (exitB (runS l) r), .int .i64 (exitE (runS l) r)]) ∧ RD w' D m' (deedsOut l r) ∧ (m' = m ∨ ∀ k, m'.ownBlock = some k → w.heap.size ≤ k) ∧ Ch [] w w' := by
  obtain ⟨i0, hI, hz0, hz1, hz2⟩ := info_parts infoD
  by_cases hr : 0 ≤ r ∧ r < 64
  · obtain ⟨k, rfl⟩ : ∃ k : Nat, r = (k : Int) := ⟨r.toNat, by omega⟩
    have hk : k < 64 := by omega
    have hk0 : ¬ (k : Int) < 0 := by omega
    have hk1 : decide ((k : Int) > 63) = false := decide_eq_false (by omega)
    have HDp := Lib.hid (rdepth_any h (by omega) (k : Int))
    rw [dOf_nat _ hk] at HDp
    by_cases h0 : (runS l).d k = 0
    · have hE : exitE (runS l) (k : Int) = 6 := by unfold exitE; rw [if_pos hr, Int.toNat_natCast, if_pos h0]
      have hS : deedsOut l (k : Int) = l := by unfold deedsOut; rw [if_neg (by rw [hE]; decide)]
      have hB : exitB (runS l) (k : Int) = false := by unfold exitB; rw [hE]; rfl
      rw [hE, hS, hB]
      rw [h0] at HDp
      obtain ⟨p, cap, rfl⟩ := h.form
      have HH := Lib.hid h
      generalize l.length = n at *
      clear h hr hE hS h0 hB
      go_enter Tryz.func35, Tryz.ntmps35
      go_wp2_with fail
      with_reducible refine HDp.out.mono ?_
      rintro e w' ⟨rfl, rfl⟩
      go_wp2_with fail
      go_ret3
      exact ⟨_, rfl, HH.out, .inl rfl, Ch.refl _ _⟩
    · have hE : exitE (runS l) (k : Int) = 0 := by unfold exitE; rw [if_pos hr, Int.toNat_natCast, if_neg h0]
      have hS : deedsOut l (k : Int) = l ++ [(k, true)] := by unfold deedsOut; rw [if_pos hE]; rfl
      have hB : exitB (runS l) (k : Int) = ((runS l).d k == 1) := by unfold exitB; rw [hE, Int.toNat_natCast]; rfl
      rw [hE, hS, hB]
      have hne : ((runS l).d k == 0) = false := by simpa using h0
      obtain ⟨p, cap, rfl⟩ := h.form
      obtain ⟨n, hn⟩ : ∃ n, n = l.length := ⟨_, rfl⟩
      obtain ⟨R, hR⟩ : ∃ R, R = dcl l := ⟨_, rfl⟩
      have HOne := Lib.hid (dcl_one l)
      have HH := Lib.hid h
      have hrow := h.row
      rw [← hn, ← hR] at hrow
      rw [← hn] at HDp hl
      rw [← hn] at HH
      have HN := Lib.hid hn
      have HR := Lib.hid hR
      rw [← hR] at HOne
      have HRow := Lib.hid hrow
      rw [← hn]
      generalize (runS l).d k = v at *
      clear h hr hE hS h0 hn hR hrow hB
      go_enter Tryz.func35, Tryz.ntmps35
      go_wp2_with fail
      with_reducible refine HDp.out.mono ?_
      rintro e w' ⟨rfl, rfl⟩
      clear HDp
      go_wp2_with (at_builtin; go_must (refine wpList_append_row rfl _ _ 28 rfl w.heap.size 93 i0 (.agg #[.int .i64 0, .bool false]) 2 16 Tryz.underlying28 hI hz0 hz1 hz2 rfl (by decide) (.slice (some ⟨w.heap.size, 0, none⟩) 0 0) 0 [] rfl ?c0 ?c1 D (.slice p n cap) n R rfl ?c2 HOne.out ?c3 ?c4 ?c5 ?_))
      case c0 => exact World.ownsRow_lit w #[] 0 (Nat.le_refl _) (Nat.zero_le _) rfl
      case c1 => intro e; cases e
      case c2 => exact World.ownsRow.alloc HRow.out _
      case c3 => unfold maxLen; omega
      case c4 => omega
      case c5 => simp
      intro v1 w1 hown1 hgrow1 hne1
      have hc1 : Ch [] w w1 := ((Ch.refl [] w).alloc (.cells #[] 93)).kept hgrow1 (fun r e => by simp [Value.ownBlock] at e; omega)
      obtain ⟨g1, cp1, rfl⟩ := own_some hown1 hne1
      have hown2 : w1.ownsRow w.heap.size 93 2 (.slice (some ⟨g1, 0, none⟩) n cp1) n R := by simpa using hown1
      have hsz := hc1.size
      have HO := Lib.hid hown2
      have HC1 := Lib.hid hc1
      clear hown1 hgrow1 hne1 hc1 hown2
      go_wp2_with (at_builtin; go_must (refine wpList_append_own _ rfl _ _ 28 rfl w.heap.size 93 i0 (.agg #[.int .i64 0, .bool false]) 2 16 Tryz.underlying28 hI hz0 hz1 hz2 rfl (by decide) _ _ _ rfl (HO.out.alloc _) ⟨w1.heap.size, 0, none⟩ 1 1 [.int .i64 (k : Int), .bool true] rfl rfl (cell_two_new _ _ _ _) (by simp [Value.oneCell']) (by unfold maxLen; omega) (by omega) (by simp; omega) ?_); intro v2 w2 hown2 hgrow2 _)
      have hc2 : Ch [] w w2 := (HC1.out.alloc (.cells #[.int .i64 (k : Int), .bool true] 93)).kept hgrow2 (fun r e => (HO.out.lt r e).1)
      obtain ⟨p2, cp2, rfl⟩ := own_form hown2
      have HO2 := Lib.hid hown2
      have HC2 := Lib.hid hc2
      clear hgrow2 hc2 hown2 HO HC1 hsz
      go_wp2_with fail
      go_ret3
      exact ⟨_, rfl, HH.out.snoc hk HN.out hD HR.out HO2.out, .inr fun k e => (HO2.out.lt k e).1, HC2.out⟩
  · have hE : exitE (runS l) r = 2 := by unfold exitE; rw [if_neg hr]
    have hS : deedsOut l r = l := by unfold deedsOut; rw [if_neg (by rw [hE]; decide)]
    have hB : exitB (runS l) r = false := by unfold exitB; rw [hE]; rfl
    rw [hE, hS, hB]
    obtain ⟨p, cap, rfl⟩ := h.form
    have HH := Lib.hid h
    generalize l.length = n at *
    clear h hE hS hB
    by_cases h0 : r < 0
    · clear hr
      go_enter Tryz.func35, Tryz.ntmps35
      go_wp2_with fail
      go_ret3
      exact ⟨_, rfl, HH.out, .inl rfl, Ch.refl _ _⟩
    · have h1 : decide (r > 63) = true := decide_eq_true (by omega)
      clear hr
      go_enter Tryz.func35, Tryz.ntmps35
      go_wp2_with fail
      go_ret3
      exact ⟨_, rfl, HH.out, .inl rfl, Ch.refl _ _⟩

theorem u64_twice {M j : Nat} (h : M < 2 ^ j) (hj : j < 64) : IntKind.u64.wrap ((M : Int) * 2) = ((M * 2 : Nat) : Int) ∧ IntKind.u64.wrap (((M * 2 : Nat) : Int) + 1) = ((M * 2 + 1 : Nat) : Int) := by
  have h2 : (2 : Nat) ^ j ≤ 2 ^ 63 := Nat.pow_le_pow_right (by decide) (by omega)
  have h3 : (2 : Nat) ^ 63 = 9223372036854775808 := by decide
  rw [h3] at h2
  rw [IntKind.wrap_u64, IntKind.wrap_u64]
  omega

end Go.Proofs.YtjoaigadlpndcaaGreatDoor
namespace Go.Proofs.YtjoaigadlpndcaaGreatDoor
open Go.RowKit

theorem intsAt_take {w : World} {a : Option Addr} {zs : List Int} (h : Mk.IntsAt w a zs) (k : Nat) : Mk.IntsAt w a (zs.take k) := by
  rcases h with rfl | ⟨b, off, rfl, hc⟩
  · exact .inl (by simp)
  · refine .inr ⟨b, off, rfl, fun i hi => ?_⟩
    rw [List.length_take] at hi
    rw [hc i (by omega), List.getElem?_take_of_lt (by omega)]
theorem intsAt_lt {w : World} {a : Option Addr} {zs : List Int} (h : Mk.IntsAt w a zs) {b : Nat} (hb : w.heap.size ≤ b) : zs = [] ∨ ∀ y, a = some y → y.block ≠ b := by
  by_cases h0 : zs = []
  · exact .inl h0
  · refine .inr fun y hy => ?_
    rcases h with h | ⟨g, off, e, hc⟩
    · exact absurd h h0
    · rw [e] at hy
      cases hy
      have := cell_lt (hc 0 (List.length_pos_iff.2 h0))
      simp only at this ⊢
      omega

end Go.Proofs.YtjoaigadlpndcaaGreatDoor
