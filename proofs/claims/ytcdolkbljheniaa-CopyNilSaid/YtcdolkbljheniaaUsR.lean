/-
  The document's answer: a row of cells (a byte, what its page is): New, Within, State, Touch.
-/
import Derived.Test.YtcdolkbljheniaaUsD
import Derived.Laws.MakeOwn
namespace Go.Proofs.Ytcdolkbljheniaa
open Go.RowKit

/-- A row of N cells: bytes by f, states by h. -/
structure RM (w : World) (g N : Nat) (f h : Nat → Int) : Prop where
  y : ∀ k, k < N → w.cell? ⟨g, k * 2, none⟩ = some (.int .u8 (f k))
  s : ∀ k, k < N → w.cell? ⟨g, k * 2 + 1, none⟩ = some (.int .i64 (h k))
  fr : ∀ k, w.frozen? ⟨g, k, none⟩ = false
  lt : g < w.heap.size
section
variable {w w' : World} {g N : Nat} {f h : Nat → Int}
theorem RM.ch {S : List Nat} (r : RM w g N f h) (hc : Ch S w w') (hg : g ∉ S) : RM w' g N f h :=
  ⟨fun k hk => (hc.cell (p := ⟨g, k * 2, none⟩) r.lt hg).trans (r.y k hk), fun k hk => (hc.cell (p := ⟨g, k * 2 + 1, none⟩) r.lt hg).trans (r.s k hk), fun k => (hc.frozen (p := ⟨g, k, none⟩) r.lt hg).trans (r.fr k), Nat.lt_of_lt_of_le r.lt hc.size⟩
theorem RM.setY (r : RM w g N f h) {k : Nat} (hk : k < N) (v : Int) : RM (w.setCell ⟨g, k * 2, none⟩ (.int .u8 v)) g N (putF f k v) h :=
  ⟨fun i hi => by
    by_cases e : i = k
    · subst e; rw [setCell_same (r.y i hi), putF_same]
    · rw [setCell_other (r.y i hi) (addr_ne_off (by omega)), putF_other _ _ e], fun i hi => setCell_other (r.s i hi) (addr_ne_off (by omega)), fun i => by simpa using r.fr i, by simpa [World.setCell] using r.lt⟩
theorem RM.setS (r : RM w g N f h) {k : Nat} (hk : k < N) (v : Int) : RM (w.setCell ⟨g, k * 2 + 1, none⟩ (.int .i64 v)) g N f (putF h k v) :=
  ⟨fun i hi => setCell_other (r.y i hi) (addr_ne_off (by omega)), fun i hi => by
    by_cases e : i = k
    · subst e; rw [setCell_same (r.s i hi), putF_same]
    · rw [setCell_other (r.s i hi) (addr_ne_off (by omega)), putF_other _ _ e], fun i => by simpa using r.fr i, by simpa [World.setCell] using r.lt⟩
/-- The row's cells as a list. -/
def rowL (N : Nat) (f h : Nat → Int) : List Value := (List.range N).flatMap fun k => [.int .u8 (f k), .int .i64 (h k)]
theorem rowL_len (N : Nat) (f h : Nat → Int) : (rowL N f h).length = N * 2 := by
  unfold rowL
  induction N with
  | zero => rfl
  | succ N ih => rw [List.range_succ, List.flatMap_append, List.length_append, ih]; simp; omega
theorem rowL_at (N : Nat) (f h : Nat → Int) {k : Nat} (hk : k < N) : (rowL N f h)[k * 2]? = some (.int .u8 (f k)) ∧ (rowL N f h)[k * 2 + 1]? = some (.int .i64 (h k)) :=
  flat2_at (fun k => Value.int .u8 (f k)) (fun k => Value.int .i64 (h k)) (List.range N) k k (by simp [hk])
theorem rowL_one (N : Nat) (f h : Nat → Int) : ∀ v ∈ rowL N f h, v.oneCell' = true := by
  intro v hv
  obtain ⟨k, _, hk⟩ := List.mem_flatMap.1 hv
  simp at hk
  rcases hk with rfl | rfl <;> rfl
theorem RM.cells (r : RM w g N f h) : ∀ j u, (rowL N f h)[j]? = some u → w.cell? ((⟨g, 0, none⟩ : Addr).add j) = some u := by
  intro j u hj
  have hl : j < N * 2 := by have := (List.getElem?_eq_some_iff.1 hj).1; rwa [rowL_len] at this
  rw [addr_add, Nat.zero_add]
  obtain ⟨k, e | e⟩ : ∃ k, j = k * 2 ∨ j = k * 2 + 1 := ⟨j / 2, by omega⟩
  · subst e
    have hk : k < N := by omega
    rw [(rowL_at N f h hk).1] at hj
    rw [← hj]
    exact r.y k hk
  · subst e
    have hk : k < N := by omega
    rw [(rowL_at N f h hk).2] at hj
    rw [← hj]
    exact r.s k hk
theorem RM.of_own {lo N cp : Nat} {a : Option Addr} (hN : 0 < N) (r : w.ownsRow lo 85 2 (.slice a N cp) N (rowL N f h)) : ∃ g, a = some ⟨g, 0, none⟩ ∧ lo ≤ g ∧ RM w g N f h := by
  obtain ⟨g, rfl, hlo, hlt, hfr, hc⟩ := own_cells r 0 (by omega)
  exact ⟨g, rfl, hlo, fun k hk => (hc _ (by omega)).trans (rowL_at N f h hk).1, fun k hk => (hc _ (by omega)).trans (rowL_at N f h hk).2, fun k => hfr k, hlt⟩
end

theorem rnew_any {n : Nat} (h1 : 1 ≤ n) (h16 : n ≤ 16) (w : World) :
    Calls Try.prog 9 #[.int .i64 (n : Int)] w fun e w' => ∃ cp, e = .returned (.slice (some ⟨w.heap.size, 0, none⟩) (16 * n) cp) ∧ RM w' w.heap.size (16 * n) (fun _ => 0) (fun _ => 0) ∧ Ch [] w w' ∧ w'.heap.size = w.heap.size + 1 := by
  obtain ⟨i0, hI, hz0, hz1, hz2⟩ : ∃ i : TypeInfo, Try.prog.info? 85 = some i ∧ i.zero = some (.agg #[.int .u8 0, .int .i64 0]) ∧ i.size = 2 ∧ i.bytes = 16 := by
    refine ⟨_, rfl, by kernel_rfl, by kernel_rfl, by kernel_rfl⟩
  have hm : IntKind.i64.wrap ((n : Int) * 16) = (n : Int) * 16 := IntWalk.i64_in _ (by omega)
  have hmk := run_make (P := Try.prog) w 30 85 i0 (.agg #[.int .u8 0, .int .i64 0]) Try.underlying30 hI hz0 .i64 .i64 ((n : Int) * 16) ((n : Int) * 16) (by omega) (Int.le_refl _) (by rw [hz2]; omega) (by omega)
  rw [hz1, show ((n : Int) * 16).toNat = 16 * n by omega] at hmk
  obtain ⟨w2, hw2⟩ : ∃ W, W = w.alloc (.cells (madeCells (Value.agg #[.int .u8 0, .int .i64 0]).cells (16 * n * 2)) 85) := ⟨_, rfl⟩
  have hc : ∀ i, i < 16 * n * 2 → w2.cell? ⟨w.heap.size, i, none⟩ = some ((#[Value.int .u8 0, .int .i64 0] : Array Value)[i % 2]!) := fun i hi => by
    rw [hw2, World.cell?_alloc_at _ _ _ _ rfl]
    simp [madeCells, hi, Value.cells]
  have HR := Lib.hid (show RM w2 w.heap.size (16 * n) (fun _ => 0) (fun _ => 0) from ⟨fun k hk => by rw [hc _ (by omega), show k * 2 % 2 = 0 by omega]; rfl, fun k hk => by rw [hc _ (by omega), show (k * 2 + 1) % 2 = 1 by omega]; rfl, fun k => by rw [hw2]; exact World.frozen?_alloc_new w _ _ _, by rw [hw2]; simp⟩)
  have HC := Lib.hid (show Ch [] w w2 from by rw [hw2]; exact (Ch.refl _ _).alloc _)
  have HZ := Lib.hid (show w2.heap.size = w.heap.size + 1 by rw [hw2]; simp)
  rw [← hw2] at hmk
  clear hw2 hc hI hz0 hz1 hz2 h1 h16
  go_enter Try.func9, Try.ntmps9
  go_wp2
  go_ret
  exact ⟨⟨_, rfl⟩, HR.out, HC.out, HZ.out⟩
theorem within_any (v : Option Addr) (cap N : Nat) (hN : N ≤ 100000) (a m : Int) (w : World) {q : Bool} (hq : decide (wIn N a m) = q) :
    Calls Try.prog 36 #[.slice v N cap, .int .i64 a, .int .i64 m] w fun e w' => e = .returned (.bool q) ∧ w = w' := by
  by_cases h0 : a < 0
  · obtain rfl : false = q := by rw [← hq]; exact (decide_eq_false (by omega)).symm
    have d : decide (a ≥ 0) = false := decide_eq_false (by omega)
    clear hq
    go_enter Try.func36, Try.ntmps36
    go_wp2
    go_ret
    exact ⟨rfl, rfl⟩
  · have d : decide (a ≥ 0) = true := decide_eq_true (by omega)
    by_cases h2 : m < 0
    · obtain rfl : false = q := by rw [← hq]; exact (decide_eq_false (by omega)).symm
      have d2 : decide (m ≥ 0) = false := decide_eq_false (by omega)
      clear hq
      go_enter Try.func36, Try.ntmps36
      go_wp2
      go_ret
      exact ⟨rfl, rfl⟩
    · have d2 : decide (m ≥ 0) = true := decide_eq_true (by omega)
      by_cases h3 : a ≤ (N : Int)
      · have hw : IntKind.i64.wrap ((N : Int) - a) = (N : Int) - a := IntWalk.i64_in _ (by omega)
        by_cases h4 : m ≤ (N : Int) - a
        · obtain rfl : true = q := by rw [← hq]; exact (decide_eq_true ⟨by omega, by omega, h4⟩).symm
          clear hq h0 h2 hN
          go_enter Try.func36, Try.ntmps36
          go_wp2
          go_ret
          exact ⟨rfl, rfl⟩
        · obtain rfl : false = q := by rw [← hq]; exact (decide_eq_false (by omega)).symm
          clear hq h0 h2 hN
          go_enter Try.func36, Try.ntmps36
          go_wp2
          go_ret
          exact ⟨rfl, rfl⟩
      · obtain rfl : false = q := by rw [← hq]; exact (decide_eq_false (by omega)).symm
        clear hq h0 h2 hN
        go_enter Try.func36, Try.ntmps36
        go_wp2
        go_ret
        exact ⟨rfl, rfl⟩
theorem rstate_any {w : World} {g n cap : Nat} {x : MS} (r : RM w g (16 * x.n) x.b (byPage x.s)) (h16 : x.n ≤ 16) (hn : 16 * x.n = n) (p : Int) :
    Calls Try.prog 40 #[.slice (some ⟨g, 0, none⟩) n cap, .int .i64 p] w fun e w' => e = .returned (.int .i64 (stateV x p)) ∧ w = w' := by
  have hq : Int.tdiv (n : Int) 16 = (x.n : Int) := by rw [Int.tdiv_eq_ediv_of_nonneg (by omega)]; omega
  have hwq : IntKind.i64.wrap (x.n : Int) = (x.n : Int) := IntWalk.i64_in _ (by omega)
  by_cases hp : 0 ≤ p ∧ p < x.n
  · obtain ⟨k, rfl⟩ : ∃ k : Nat, p = (k : Int) := ⟨p.toNat, by omega⟩
    have hk : k < x.n := by omega
    have hk' : (k : Int) < (x.n : Int) := by omega
    rw [show stateV x (k : Int) = x.s k by unfold stateV; rw [if_pos hp]; rfl]
    obtain ⟨u, hu⟩ : ∃ u, u = 16 * k := ⟨_, rfl⟩
    have hm : IntKind.i64.wrap ((k : Int) * 16) = (u : Int) := by rw [IntWalk.i64_in _ (by omega)]; omega
    have hun : u < n := by omega
    have hun' : (u : Int) < (n : Int) := by omega
    have c := r.s u (by omega)
    have hb : byPage x.s u = x.s k := by unfold byPage; rw [show u / 16 = k by omega]
    rw [hb] at c
    clear r hp hu hb hn h16
    go_enter Try.func40, Try.ntmps40
    go_wp2
    go_ret
    exact ⟨rfl, rfl⟩
  · rw [show stateV x p = 2 by unfold stateV; rw [if_neg hp]]
    by_cases h0 : p < 0
    · clear r hp hn h16
      go_enter Try.func40, Try.ntmps40
      go_wp2
      go_ret
      exact ⟨rfl, rfl⟩
    · have hge : decide (p ≥ (x.n : Int)) = true := decide_eq_true (by omega)
      have hge2 : decide ((x.n : Int) ≤ p) = true := decide_eq_true (by omega)
      clear r hp hn h16
      go_enter Try.func40, Try.ntmps40
      go_wp2
      go_ret
      exact ⟨rfl, rfl⟩
set_option maxHeartbeats 1000000 in
theorem rtouch_any {w : World} {g N cap : Nat} {f h : Nat → Int} (r : RM w g N f h) (hN : N ≤ 256) (a m : Int) {p q : Int} (hpq : touchR N h a m = (p, q)) :
    Calls Try.prog 31 #[.slice (some ⟨g, 0, none⟩) N cap, .int .i64 a, .int .i64 m] w fun e w' => e = .returned (.tuple #[.int .i64 p, .int .i64 q]) ∧ w = w' := by
  by_cases hin : wIn N a m
  · obtain ⟨k, rfl⟩ : ∃ k : Nat, a = (k : Int) := ⟨a.toNat, by omega⟩
    obtain ⟨n, rfl⟩ : ∃ k : Nat, m = (k : Int) := ⟨m.toNat, by omega⟩
    have hkn : k + n ≤ N := by omega
    have HW := Lib.hid (within_any (some ⟨g, 0, none⟩) cap N (by omega) k n w (decide_eq_true hin))
    unfold touchR at hpq
    rw [if_pos hin, Int.toNat_natCast, Int.toNat_natCast] at hpq
    have HT := Lib.hid hpq
    have HR := Lib.hid r
    clear hpq r hin
    go_enter Try.func31, Try.ntmps31
    go_wp2_with (with_reducible refine HW.out.mono ?_; rintro e w' ⟨rfl, rfl⟩)
    go_loopw [8] (fun i wr => wr = w ∧ ∃ j : Nat, i = .int .i64 (j : Int) ∧ j ≤ n ∧ tch h k n = tch h (k + j) (n - j)) (fun i _ => n - (intOf i).toNat)
    case atStart => exact ⟨rfl, 0, rfl, Nat.zero_le _, rfl⟩
    case round =>
      obtain ⟨rfl, j, rfl, hj1, hj2⟩ := hrel
      have HJ := Lib.hid hj2
      clear hj2
      by_cases hlt : j < n
      · obtain ⟨t, ht⟩ : ∃ t, t = k + j := ⟨_, rfl⟩
        have hadd : IntKind.i64.wrap ((k : Int) + (j : Int)) = (t : Int) := by rw [IntWalk.i64_in _ (by omega)]; omega
        have htN : t < N := by omega
        have htN' : (t : Int) < (N : Int) := by omega
        have c := HR.out.s t htN
        obtain ⟨u, hu⟩ : ∃ u, u = t / 16 := ⟨_, rfl⟩
        have hq : Int.tdiv (t : Int) 16 = (u : Int) := by rw [Int.tdiv_eq_ediv_of_nonneg (by omega)]; omega
        have hwq : IntKind.i64.wrap (u : Int) = (u : Int) := IntWalk.i64_in _ (by omega)
        have hJ := HJ.out
        rw [HT.out, ← ht, show n - j = (n - (j + 1)) + 1 by omega, tch] at hJ
        have HU := Lib.hid hu
        have HTT := Lib.hid ht
        clear hu ht
        by_cases h2 : h t = 2
        · rw [if_neg (by omega), if_pos h2, ← HU.out] at hJ
          obtain ⟨rfl, rfl⟩ : (u : Int) = p ∧ (14 : Int) = q := by simpa using hJ.symm
          rw [h2] at c
          clear h2 hJ HJ HT hj1
          go_wp2
          go_ret2
          exact ⟨rfl, rfl⟩
        · by_cases h0 : h t = 0
          · rw [if_pos h0, ← HU.out] at hJ
            obtain ⟨rfl, rfl⟩ : (u : Int) = p ∧ (15 : Int) = q := by simpa using hJ.symm
            rw [h0] at c
            clear h0 h2 hJ HJ HT hj1
            go_wp2
            go_ret2
            exact ⟨rfl, rfl⟩
          · rw [if_neg h0, if_neg h2] at hJ
            have hb0 : (h t == 0) = false := by simpa using h0
            have hb2 : (h t == 2) = false := by simpa using h2
            have HF := Lib.hid (show tch h k n = tch h (k + (j + 1)) (n - (j + 1)) by rw [HT.out, hJ, HTT.out]; rfl)
            clear h0 h2 hJ HJ hj1
            go_wp2_with fail
            go_roundw
            case rel => exact ⟨by trivial, j + 1, by go_num, by omega, HF.out⟩
            case measure => simp [intOf]; omega
      · obtain ⟨rfl, rfl⟩ : (0 : Int) = p ∧ (0 : Int) = q := by
          have hJ := HJ.out
          rw [HT.out, show n - j = 0 by omega, tch_zero] at hJ
          simpa using hJ.symm
        clear HJ HT hj1
        go_wp2
        go_ret2
        exact ⟨rfl, rfl⟩
  · have HW := Lib.hid (within_any (some ⟨g, 0, none⟩) cap N (by omega) a m w (decide_eq_false hin))
    unfold touchR at hpq
    rw [if_neg hin] at hpq
    obtain ⟨rfl, rfl⟩ : 0 = p ∧ 2 = q := by simpa using hpq
    clear hpq r hin
    go_enter Try.func31, Try.ntmps31
    go_wp2_with (with_reducible refine HW.out.mono ?_; rintro e w' ⟨rfl, rfl⟩)
    go_ret2
    exact ⟨rfl, rfl⟩
end Go.Proofs.Ytcdolkbljheniaa
