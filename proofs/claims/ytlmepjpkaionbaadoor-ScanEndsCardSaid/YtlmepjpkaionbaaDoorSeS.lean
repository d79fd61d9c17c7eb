/-
  The document's answer for sections: Stamps.
-/
import Derived.Test.YtlmepjpkaionbaaDoorSeR
namespace Go.Proofs.YtlmepjpkaionbaaDoor
open Go.RowKit

/-- The cells of a new array of depths. -/
def depZ : Array Value := Array.replicate 64 (.int .i64 0)
theorem depZ_zero (w : World) : Sem.run Tryd.prog (zeroValue 24) w = .ok (.agg depZ) w := by kernel_rfl
/-- An array of depths. -/
structure Dep (w : World) (X : Nat) (d : Nat → Int) : Prop where
  d : ∀ i, i < 64 → w.cell? ⟨X, i, none⟩ = some (.int .i64 (d i))
  fr : ∀ k, w.frozen? ⟨X, k, none⟩ = false
theorem Dep.new (w : World) (t : TypeId) : Dep (w.alloc (.cells depZ t)) w.heap.size (fun _ => 0) :=
  ⟨fun i hi => by rw [World.cell?_alloc_at _ _ _ _ rfl]; simp [depZ, hi], fun k => World.frozen?_alloc_new w _ _ _⟩
theorem Dep.set {w : World} {X : Nat} {d : Nat → Int} (h : Dep w X d) {r : Nat} (hr : r < 64) (v : Int) : Dep (w.setCell ⟨X, r, none⟩ (.int .i64 v)) X (putF d r v) :=
  ⟨fun i hi => by
    by_cases e : i = r
    · subst e; rw [setCell_same (h.d i hi), putF_same]
    · rw [setCell_other (h.d i hi) (addr_ne_off (by omega)), putF_other _ _ e], fun k => by simpa using h.fr k⟩
theorem run_step_d (x : SS) (a : Nat × Bool) : (stepS x a).d = putF x.d a.1 (if a.2 = true then x.d a.1 - 1 else x.d a.1 + 1) := by
  unfold stepS
  cases a.2 <;> rfl
theorem run_step_n (x : SS) (a : Nat × Bool) : (stepS x a).n = if a.2 = true then x.n else (if x.d a.1 = 0 then x.n + 1 else x.n) := by
  unfold stepS
  cases a.2 <;> rfl

set_option maxHeartbeats 2000000 in
theorem rstamps_any {w : World} {D : Nat} {m : Value} {l : List (Nat × Bool)} (h : RD w D m l) (hl : l.length ≤ 1000) (r : Int) :
    Calls Tryd.prog 30 #[m, .int .i64 r] w fun e w' => e = .returned (.tuple #[.int .i64 (runS l).n, .int .i64 (sOf (runS l) r)]) ∧ Ch [] w w' := by
  obtain ⟨n, hn⟩ : ∃ n, n = l.length := ⟨_, rfl⟩
  obtain ⟨p, cap, rfl⟩ := h.form
  rw [← hn] at h hl ⊢
  have hz := depZ_zero w
  have HDp := Lib.hid (Dep.new w 24)
  have H := Lib.hid h
  have HN := Lib.hid hn
  have HC := Lib.hid ((Ch.refl [] w).alloc (.cells depZ 24))
  clear h hn
  go_enter Tryd.func30, Tryd.ntmps30
  go_wp2_with fail
  obtain ⟨X, hX⟩ : ∃ X, X = w.heap.size := ⟨_, rfl⟩
  obtain ⟨w1, hw1⟩ : ∃ W, W = w.alloc (.cells depZ 24) := ⟨_, rfl⟩
  rw [← hX, ← hw1] at HDp ⊢
  rw [← hw1] at HC
  have HX := Lib.hid hX
  clear hz hw1 hX
  go_loopw [7, 8, 9] (fun v u i wr => ∃ k : Nat, k ≤ n ∧ i = .int .i64 (k : Int) ∧ v = .int .i64 (runS (l.take k)).n ∧ u = .int .i64 (sOf (runS (l.take k)) r) ∧ Dep wr X (runS (l.take k)).d ∧ Ch [] w wr) (fun _ _ i _ => n - (intOf i).toNat)
  case atStart => exact ⟨0, Nat.zero_le _, rfl, rfl, by rw [List.take_zero, (run_zero r).2], HDp.out, HC.out⟩
  case round =>
    obtain ⟨k, hk, rfl, rfl, rfl, hdp, hc⟩ := hrel
    clear HDp HC
    by_cases hlt : k < n
    · obtain ⟨a, ha⟩ : ∃ a, l[k]? = some a := ⟨_, List.getElem?_eq_getElem (by rw [← HN.out]; exact hlt)⟩
      obtain ⟨g, cp, hm, c0, c1, _⟩ := (H.out.quiet hc).at ha
      obtain ⟨rfl, -, rfl⟩ : p = some ⟨g, 0, none⟩ ∧ n = l.length ∧ cap = cp := by simpa using hm
      have hnr := near_run (l.take k)
      rw [List.length_take] at hnr
      have ha64 := H.out.ok k a ha
      have ha64' : (a.1 : Int) < 64 := by omega
      have hd1 := hnr.d1 a.1
      have hn1 := hnr.n1
      have hst := sOf_step (runS (l.take k)) a r ha64
      have hsd := run_step_d (runS (l.take k)) a
      have hsn := run_step_n (runS (l.take k)) a
      rw [← runS_take ha] at hst hsd hsn
      have d0 := hdp.d a.1 ha64
      have f0 := hdp.fr a.1
      generalize runS (l.take k) = x at *
      have hw3 : IntKind.i64.wrap (x.n + 1) = x.n + 1 := IntWalk.i64_in _ (by omega)
      have HDp := Lib.hid (hdp.set ha64)
      have HC := Lib.hid (fun v => chSetNew (p := ⟨X, a.1, none⟩) hc (by rw [HX.out]; exact Nat.le_refl _) (.int .i64 v))
      have HSt := Lib.hid hst
      have HSd := Lib.hid hsd
      have HSn := Lib.hid hsn
      clear hnr hst hsd hsn hm ha hdp hc
      cases ho : a.2
      · rw [ho] at c1 HSt HSd HSn
        simp only [Bool.false_eq_true, if_false] at HSt HSd HSn
        obtain ⟨v, hv⟩ : ∃ v, v = x.d a.1 + 1 := ⟨_, rfl⟩
        have hw1 : IntKind.i64.wrap (x.d a.1 + 1) = v := by rw [hv]; exact IntWalk.i64_in _ (by omega)
        rw [← hv] at HSd
        have d1 : (wr.setCell ⟨X, a.1, none⟩ (.int .i64 v)).cell? ⟨X, a.1, none⟩ = some (.int .i64 v) := setCell_same d0
        by_cases h0 : x.d a.1 = 0
        · rw [if_pos h0] at HSn
          have hv1 : v = 1 := by omega
          subst hv1
          by_cases he : (a.1 : Int) = r
          · rw [if_pos ⟨he, h0⟩] at HSt
            have heb : ((a.1 : Int) == r) = true := by simpa using he
            clear hd1 hn1 ho hv h0 he
            go_wp2
            go_roundw
            case rel => exact ⟨k + 1, by omega, by go_num, by rw [HSn.out], by rw [HSt.out], by rw [HSd.out]; exact HDp.out _, HC.out _⟩
            case measure => simp [intOf]; omega
          · rw [if_neg (fun h => he h.1)] at HSt
            have heb : ((a.1 : Int) == r) = false := by simpa using he
            clear hd1 hn1 ho hv h0 he
            go_wp2
            go_roundw
            case rel => exact ⟨k + 1, by omega, by go_num, by rw [HSn.out], by rw [HSt.out], by rw [HSd.out]; exact HDp.out _, HC.out _⟩
            case measure => simp [intOf]; omega
        · rw [if_neg h0] at HSn
          rw [if_neg (fun h => h0 h.2)] at HSt
          have hv1 : (v == 1) = false := by simp; omega
          clear hd1 hn1 ho hv h0
          go_wp2
          go_roundw
          case rel => exact ⟨k + 1, by omega, by go_num, by rw [HSn.out], by rw [HSt.out], by rw [HSd.out]; exact HDp.out _, HC.out _⟩
          case measure => simp [intOf]; omega
      · rw [ho] at c1 HSt HSd HSn
        simp only [if_true] at HSt HSd HSn
        obtain ⟨v, hv⟩ : ∃ v, v = x.d a.1 - 1 := ⟨_, rfl⟩
        have hw1 : IntKind.i64.wrap (x.d a.1 - 1) = v := by rw [hv]; exact IntWalk.i64_in _ (by omega)
        rw [← hv] at HSd
        have d1 : (wr.setCell ⟨X, a.1, none⟩ (.int .i64 v)).cell? ⟨X, a.1, none⟩ = some (.int .i64 v) := setCell_same d0
        by_cases he : (a.1 : Int) = r
        · have heb : ((a.1 : Int) == r) = true := by simpa using he
          by_cases h1 : x.d a.1 = 1
          · rw [if_pos ⟨he, h1⟩] at HSt
            have hv1 : v = 0 := by omega
            subst hv1
            clear hd1 hn1 ho hv h1 he
            go_wp2
            go_roundw
            case rel => exact ⟨k + 1, by omega, by go_num, by rw [HSn.out], by rw [HSt.out], by rw [HSd.out]; exact HDp.out _, HC.out _⟩
            case measure => simp [intOf]; omega
          · rw [if_neg (fun h => h1 h.2)] at HSt
            have hv1 : (v == 0) = false := by simp; omega
            clear hd1 hn1 ho hv h1 he
            go_wp2
            go_roundw
            case rel => exact ⟨k + 1, by omega, by go_num, by rw [HSn.out], by rw [HSt.out], by rw [HSd.out]; exact HDp.out _, HC.out _⟩
            case measure => simp [intOf]; omega
        · rw [if_neg (fun h => he h.1)] at HSt
          have heb : ((a.1 : Int) == r) = false := by simpa using he
          clear hd1 hn1 ho hv he
          go_wp2
          go_roundw
          case rel => exact ⟨k + 1, by omega, by go_num, by rw [HSn.out], by rw [HSt.out], by rw [HSd.out]; exact HDp.out _, HC.out _⟩
          case measure => simp [intOf]; omega
    · go_wp2
      go_ret2
      have e : l.take k = l := List.take_of_length_le (by rw [← HN.out]; omega)
      exact ⟨by rw [e]; rfl, hc⟩
end Go.Proofs.YtlmepjpkaionbaaDoor
