/-
  The document's answer for sections: what readers did as a row; Depth, Stamps.
-/
import Derived.Test.YtlmepjpkaionbaaDoorSeK
namespace Go.Proofs.YtlmepjpkaionbaaDoor
open Go.RowKit

theorem infoD : (Tryd.prog.info? 80).map (fun i => (i.zero, i.size, i.bytes)) = some (some (.agg #[.int .i64 0, .bool false]), 2, 16) := by kernel_rfl
/-- The cells of what readers did. -/
def dcl (l : List (Nat × Bool)) : List Value := l.flatMap fun a => [.int .i64 (a.1 : Int), .bool a.2]
theorem dcl_snoc (l : List (Nat × Bool)) (a : Nat × Bool) : dcl (l ++ [a]) = dcl l ++ [.int .i64 (a.1 : Int), .bool a.2] := by simp [dcl]
theorem dcl_len (l : List (Nat × Bool)) : (dcl l).length = l.length * 2 := by
  induction l with
  | nil => rfl
  | cons a t ih => simp only [dcl, List.flatMap_cons, List.length_append, List.length_cons, List.length_nil] at ih ⊢; omega
theorem dcl_one (l : List (Nat × Bool)) : ∀ u ∈ dcl l, u.oneCell' = true := by
  intro u hu
  unfold dcl at hu
  obtain ⟨a, _, hm⟩ := List.mem_flatMap.1 hu
  simp at hm
  rcases hm with rfl | rfl <;> rfl
/-- What readers did, in a row that lies behind D, or is nil. -/
structure RD (w : World) (D : Nat) (m : Value) (l : List (Nat × Bool)) : Prop where
  row : w.ownsRow D 80 2 m l.length (dcl l)
  ok : ∀ (k : Nat) (a : Nat × Bool), l[k]? = some a → a.1 < 64
section
variable {w w' : World} {D : Nat} {m : Value} {l : List (Nat × Bool)}
theorem RD.quiet (h : RD w D m l) (hc : Ch [] w w') : RD w' D m l := ⟨own_ch h.row hc (by simp), h.ok⟩
theorem RD.away {S : List Nat} (h : RD w D m l) (hc : Ch S w w') (hS : ∀ k ∈ S, m.ownBlock ≠ some k) : RD w' D m l := by
  refine ⟨?_, h.ok⟩
  obtain ⟨h1, h2⟩ := h.row
  refine ⟨h1, ?_⟩
  rcases h2 with h2 | ⟨g, cap, cur, rfl, hb, hg, r⟩
  · exact .inl h2
  · exact .inr ⟨g, cap, cur, rfl, hb, (hc.block g (Array.getElem?_eq_some_iff.1 hg).1 (fun hm => hS g hm rfl)).trans hg, r⟩
theorem RD.aside {b : Nat} (h : RD w D m l) (hc : Ch [b] w w') (hb : b < D) : RD w' D m l := h.away hc (fun k hk e => by
  obtain rfl : k = b := by simpa using hk
  have := (h.row.lt k e).1
  omega)
theorem RD.nil (w : World) (D : Nat) : RD w D (.slice none 0 0) [] := ⟨World.ownsRow_nil _ _ _ _, by simp⟩
theorem RD.form (h : RD w D m l) : ∃ a cap, m = .slice a l.length cap := own_form h.row
theorem RD.at (h : RD w D m l) {k : Nat} {a : Nat × Bool} (hk : l[k]? = some a) : ∃ g cap, m = .slice (some ⟨g, 0, none⟩) l.length cap ∧ w.cell? ⟨g, k * 2, none⟩ = some (.int .i64 (a.1 : Int)) ∧ w.cell? ⟨g, k * 2 + 1, none⟩ = some (.bool a.2) ∧ g < w.heap.size := by
  obtain ⟨p, cap, rfl⟩ := h.form
  have hlt : k < l.length := (List.getElem?_eq_some_iff.1 hk).1
  obtain ⟨g, rfl, _, hg, _, hc⟩ := own_cells h.row (k * 2) (by omega)
  obtain ⟨c0, c1⟩ := flat2_at (fun a : Nat × Bool => Value.int .i64 (a.1 : Int)) (fun a => .bool a.2) l k a hk
  exact ⟨g, cap, rfl, (hc (k * 2) (by omega)).trans c0, (hc (k * 2 + 1) (by omega)).trans c1, hg⟩
end

theorem dOf_nat (x : SS) {k : Nat} (hk : k < 64) : dOf x (k : Int) = x.d k := by unfold dOf; rw [if_pos (by omega), Int.toNat_natCast]
theorem sOf_nat (x : SS) {k : Nat} (hk : k < 64) : sOf x (k : Int) = x.s k := by unfold sOf; rw [if_pos (by omega), Int.toNat_natCast]
theorem dOf_step (x : SS) (a : Nat × Bool) (r : Int) (ha : a.1 < 64) : dOf (stepS x a) r = if (a.1 : Int) = r then (if a.2 = true then dOf x r - 1 else dOf x r + 1) else dOf x r := by
  by_cases e : (a.1 : Int) = r
  · subst e
    rw [if_pos rfl, dOf_nat _ ha, dOf_nat _ ha, stepS]
    cases a.2 <;> simp [inS_d, outS_d]
  · rw [if_neg e]
    by_cases h : 0 ≤ r ∧ r < 64
    · have hne : ¬ r.toNat = a.1 := by omega
      unfold dOf stepS
      rw [if_pos h, if_pos h]
      cases a.2 <;> simp [inS_d, outS_d, hne]
    · unfold dOf
      rw [if_neg h, if_neg h]
theorem sOf_step (x : SS) (a : Nat × Bool) (r : Int) (ha : a.1 < 64) : sOf (stepS x a) r = if a.2 = true then (if (a.1 : Int) = r ∧ x.d a.1 = 1 then 0 else sOf x r) else (if (a.1 : Int) = r ∧ x.d a.1 = 0 then x.n + 1 else sOf x r) := by
  by_cases e : (a.1 : Int) = r
  · subst e
    rw [sOf_nat _ ha, sOf_nat _ ha, stepS]
    cases a.2 <;> simp [inS_s, outS_s]
  · by_cases h : 0 ≤ r ∧ r < 64
    · have hne : ¬ r.toNat = a.1 := by omega
      unfold sOf stepS
      rw [if_pos h, if_pos h]
      cases a.2 <;> simp [inS_s, outS_s, hne, e]
    · unfold sOf
      rw [if_neg h, if_neg h]
      cases a.2 <;> simp [e]
theorem dOf_near {x : SS} {m : Nat} (h : Near x m) (r : Int) : -(m : Int) ≤ dOf x r ∧ dOf x r ≤ m := by
  unfold dOf
  split
  · exact h.d1 _
  · omega
theorem run_zero (r : Int) : dOf (runS []) r = 0 ∧ sOf (runS []) r = 0 := by
  unfold dOf sOf
  constructor <;> split <;> rfl

set_option maxHeartbeats 1000000 in
theorem rdepth_any {w : World} {D : Nat} {m : Value} {l : List (Nat × Bool)} (h : RD w D m l) (hl : l.length ≤ 1000) (r : Int) :
    Calls Tryd.prog 31 #[m, .int .i64 r] w fun e w' => e = .returned (.int .i64 (dOf (runS l) r)) ∧ w = w' := by
  obtain ⟨n, hn⟩ : ∃ n, n = l.length := ⟨_, rfl⟩
  obtain ⟨p, cap, rfl⟩ := h.form
  rw [← hn] at h hl ⊢
  have H := Lib.hid h
  have HN := Lib.hid hn
  have hz0 := (run_zero r).1
  clear h hn
  go_enter Tryd.func31, Tryd.ntmps31
  go_wp2
  go_loop [5, 6] (fun v i => ∃ k : Nat, k ≤ n ∧ i = .int .i64 (k : Int) ∧ v = .int .i64 (dOf (runS (l.take k)) r)) (fun _ i => n - (intOf i).toNat)
  case atStart => exact ⟨0, Nat.zero_le _, rfl, by rw [List.take_zero, hz0]⟩
  case round =>
    obtain ⟨k, hk, rfl, rfl⟩ := hrel
    clear hz0
    by_cases hlt : k < n
    · obtain ⟨a, ha⟩ : ∃ a, l[k]? = some a := ⟨_, List.getElem?_eq_getElem (by rw [← HN.out]; exact hlt)⟩
      obtain ⟨g, cp, hm, c0, c1, _⟩ := H.out.at ha
      obtain ⟨rfl, -, rfl⟩ : p = some ⟨g, 0, none⟩ ∧ n = l.length ∧ cap = cp := by simpa using hm
      have hnr := dOf_near (near_run (l.take k)) r
      rw [List.length_take] at hnr
      have hst := dOf_step (runS (l.take k)) a r (H.out.ok k a ha)
      rw [← runS_take ha] at hst
      have HS := Lib.hid hst
      generalize dOf (runS (l.take k)) r = v at *
      have hw1 : IntKind.i64.wrap (v - 1) = v - 1 := IntWalk.i64_in _ (by omega)
      have hw2 : IntKind.i64.wrap (v + 1) = v + 1 := IntWalk.i64_in _ (by omega)
      clear hnr hst hm ha
      by_cases he : (a.1 : Int) = r
      · have heb : ((a.1 : Int) == r) = true := by simpa using he
        rw [if_pos he] at HS
        clear he
        cases ho : a.2
        · rw [ho] at c1 HS
          clear ho
          go_wp2
          go_round
          case rel => exact ⟨k + 1, by omega, by go_num, by rw [HS.out]; rfl⟩
          case measure => simp [intOf]; omega
        · rw [ho] at c1 HS
          clear ho
          go_wp2
          go_round
          case rel => exact ⟨k + 1, by omega, by go_num, by rw [HS.out]; rfl⟩
          case measure => simp [intOf]; omega
      · have heb : ((a.1 : Int) == r) = false := by simpa using he
        rw [if_neg he] at HS
        clear he
        go_wp2
        go_round
        case rel => exact ⟨k + 1, by omega, by go_num, by rw [HS.out]⟩
        case measure => simp [intOf]; omega
    · go_wp2
      go_ret
      exact ⟨by rw [List.take_of_length_le (by rw [← HN.out]; omega)]; rfl, rfl⟩
end Go.Proofs.YtlmepjpkaionbaaDoor
