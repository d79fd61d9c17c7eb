/-
  The document's answer for the wheel: its list of timers as a row; Find.
-/
import Derived.Laws.OwnMore
import Derived.Laws.AppendOwnNone
import Derived.OwnWalk
import Derived.Test.YtnndofeomakpiaaGreatDoorMgI
namespace Go.Proofs.YtnndofeomakpiaaGreatDoor
open Go.RowKit

attribute [local go_sem] Oper.semAt_some

theorem infoT : (Tryz.prog.info? 55).map (fun i => (i.zero, i.size, i.bytes)) = some (some (.agg #[.int .i64 0, .int .i64 0, .int .i64 0, .int .u64 0, .int .u64 0]), 5, 40) := by kernel_rfl

/-- A timer, as the document's answer keeps it. -/
def tc (x : Tm) : List Value := [.int .i64 x.id, .int .i64 (x.sp.lv : Int), .int .i64 x.sp.sl, .int .u64 x.sp.at', .int .u64 x.sp.due]
def rt (m : List Tm) : List Value := m.flatMap tc
theorem rt_cons (x : Tm) (t : List Tm) : rt (x :: t) = .int .i64 x.id :: .int .i64 (x.sp.lv : Int) :: .int .i64 x.sp.sl :: .int .u64 x.sp.at' :: .int .u64 x.sp.due :: rt t := by simp [rt, tc]
theorem rt_append (l r : List Tm) : rt (l ++ r) = rt l ++ rt r := by simp [rt]
theorem rt_one (m : List Tm) : ∀ u ∈ rt m, u.oneCell' = true := by
  intro u hu
  simp only [rt, List.mem_flatMap] at hu
  obtain ⟨x, _, hs⟩ := hu
  simp [tc] at hs
  rcases hs with rfl | rfl | rfl | rfl | rfl <;> rfl
theorem rt_len (m : List Tm) : (rt m).length = m.length * 5 := by
  induction m with
  | nil => rfl
  | cons x t ih => rw [rt_cons]; simp [ih]; omega
theorem rt_at (m : List Tm) (k : Nat) (x : Tm) (h : m[k]? = some x) : (rt m)[k * 5]? = some (.int .i64 x.id) ∧ (rt m)[k * 5 + 1]? = some (.int .i64 (x.sp.lv : Int)) ∧ (rt m)[k * 5 + 2]? = some (.int .i64 x.sp.sl) ∧ (rt m)[k * 5 + 3]? = some (.int .u64 x.sp.at') ∧ (rt m)[k * 5 + 4]? = some (.int .u64 x.sp.due) := by
  induction m generalizing k with
  | nil => simp at h
  | cons s t ih =>
    rw [rt_cons]
    cases k with
    | zero => simp at h; subst h; simp
    | succ k =>
      have := ih k (by simpa using h)
      rw [show (k + 1) * 5 = k * 5 + 5 by omega]
      simpa using this
/-- A list of timers in a row. -/
def RT (w : World) (D : Nat) (v : Value) (m : List Tm) : Prop := w.ownsRow D 55 5 v m.length (rt m)
section
variable {w w' : World} {D D' : Nat} {v : Value} {m : List Tm}
theorem RT.mono (h : RT w D v m) (hD : D' ≤ D) : RT w D' v m := own_mono h hD
theorem RT.chP {T : Nat → Prop} (h : RT w D v m) (hc : ChP T w w') (hT : ∀ g, v.ownBlock = some g → ¬ T g) : RT w' D v m := own_chP h hc hT
theorem RT.quiet (h : RT w D v m) (hc : Ch [] w w') : RT w' D v m := h.chP (T := fun _ => False) (.quiet hc) (fun _ _ e => e)
theorem RT.cells (h : RT w D v m) {k : Nat} {x : Tm} (hk : m[k]? = some x) : ∃ g cap, v = .slice (some ⟨g, 0, none⟩) m.length cap ∧ D ≤ g ∧ g < w.heap.size ∧ m.length ≤ cap ∧ cap ≤ maxLen ∧
    w.cell? ⟨g, k * 5, none⟩ = some (.int .i64 x.id) ∧ w.cell? ⟨g, k * 5 + 1, none⟩ = some (.int .i64 (x.sp.lv : Int)) ∧ w.cell? ⟨g, k * 5 + 2, none⟩ = some (.int .i64 x.sp.sl) ∧ w.cell? ⟨g, k * 5 + 3, none⟩ = some (.int .u64 x.sp.at') ∧ w.cell? ⟨g, k * 5 + 4, none⟩ = some (.int .u64 x.sp.due) := by
  have hkl := (List.getElem?_eq_some_iff.1 hk).1
  rcases h.2 with ⟨_, h0⟩ | ⟨g, cap, cur, rfl, hb, hg, hn, hcm, _⟩
  · omega
  · obtain ⟨h1, h2, h3, h4, h5⟩ := rt_at m k x hk
    refine ⟨g, cap, rfl, hb, (Array.getElem?_eq_some_iff.1 hg).1, hn, hcm, ?_, ?_, ?_, ?_, ?_⟩
    · rw [World.ownsRow.cellAt h (k * 5) (by omega)]; exact h1
    · rw [World.ownsRow.cellAt h (k * 5 + 1) (by omega)]; exact h2
    · rw [World.ownsRow.cellAt h (k * 5 + 2) (by omega)]; exact h3
    · rw [World.ownsRow.cellAt h (k * 5 + 3) (by omega)]; exact h4
    · rw [World.ownsRow.cellAt h (k * 5 + 4) (by omega)]; exact h5
end
/-- The answer's wheel as a value. -/
def rw7 (now : Int) (v : Value) : Value := .agg #[.int .u64 now, v]
/-- Where a timer stands in the list; below 0: nowhere. -/
def ixOf (m : List Tm) (k : Int) : Int := match m.findIdx? (fun t => decide (t.id = k)) with | some i => (i : Int) | none => -1
theorem two_new (w : World) (x y : Value) (t : TypeId) : (w.alloc (.cells #[x, y] t)).cell? ⟨w.heap.size, 0, none⟩ = some x ∧ (w.alloc (.cells #[x, y] t)).cell? ⟨w.heap.size, 1, none⟩ = some y := ⟨(Two.new w x y t).c0, (Two.new w x y t).c1⟩
set_option maxRecDepth 100000 in
set_option maxHeartbeats 1000000 in
theorem rfind_any {w : World} {D : Nat} {v : Value} {m : List Tm} (now k : Int) (h : RT w D v m) (hl : m.length ≤ 256) :
    Calls Tryz.prog 17 #[rw7 now v, .int .i64 k] w fun e w' => e = .returned (.int .i64 (ixOf m k)) ∧ Ch [] w w' := by
  obtain ⟨a, cap, rfl⟩ := own_form h
  obtain ⟨L, hL⟩ : ∃ L, L = m.length := ⟨_, rfl⟩
  obtain ⟨R, hR⟩ : ∃ R, R = ixOf m k := ⟨_, rfl⟩
  rw [← hL] at hl ⊢
  rw [← hR]
  have hal := (Ch.refl [] w).alloc (.cells #[.int .u64 now, .slice a L cap] 58)
  have H := Lib.hid (h.quiet ((Ch.refl [] w).alloc (.cells #[.int .u64 now, .slice a L cap] 58)))
  have HAl := Lib.hid hal
  obtain ⟨b0, b1⟩ := two_new w (.int .u64 now) (.slice a L cap) 58
  obtain ⟨W1, hW1⟩ : ∃ W1, w.alloc (.cells #[.int .u64 now, .slice a L cap] 58) = W1 := ⟨_, rfl⟩
  rw [hW1] at H HAl b0 b1
  have HL := Lib.hid hL
  have HR := Lib.hid hR
  clear h hL hR hal
  unfold rw7
  go_enter Tryz.func17, Tryz.ntmps17
  go_wp2_with fail
  go_loopw [5] (fun iv wr => ∃ i : Nat, i ≤ L ∧ iv = .int .i64 (i : Int) ∧ wr = W1 ∧ ∀ t ∈ m.take i, t.id ≠ k) (fun iv _ => L - (intOf iv).toNat)
  case atStart => exact ⟨0, Nat.zero_le _, rfl, rfl, by simp⟩
  case round =>
    obtain ⟨i, hi, rfl, rfl, hno⟩ := hrel
    have HNo := Lib.hid hno
    have hb0 : (0 : Int) ≤ (i : Int) := by omega
    clear hno
    by_cases hlt : i < L
    · have hb1 : (i : Int) < (L : Int) := by omega
      obtain ⟨x, hx⟩ : ∃ x, m[i]? = some x := ⟨_, List.getElem?_eq_getElem (by rw [← HL.out]; exact hlt)⟩
      obtain ⟨g, cap', e, _, _, _, _, c0, _⟩ := H.out.cells hx
      rw [← HL.out] at e
      obtain ⟨rfl, rfl⟩ : a = some ⟨g, 0, none⟩ ∧ cap = cap' := by simpa using e
      have HXx := Lib.hid hx
      obtain ⟨y, hy⟩ : ∃ y, y = x.id := ⟨_, rfl⟩
      rw [← hy] at c0
      by_cases he : y = k
      · have hdec : (y == k) = true := by simpa using he
        have HRi := Lib.hid (show R = (i : Int) by
          rw [HR.out]
          unfold ixOf
          have : m.findIdx? (fun t => decide (t.id = k)) = some i := by
            rw [List.findIdx?_eq_some_iff_getElem]
            obtain ⟨hil, hxe⟩ := List.getElem?_eq_some_iff.1 hx
            refine ⟨hil, by rw [hxe]; simpa [← hy] using he, fun j hj => ?_⟩
            have := HNo.out m[j] (List.mem_take_iff_getElem.2 ⟨j, by omega, rfl⟩)
            simpa using this
          rw [this])
        clear hx hy he e
        go_wp2_with fail
        go_ret
        exact ⟨by rw [HRi.out]; rfl, HAl.out⟩
      · have hdec : (y == k) = false := by simpa using he
        have HNn := Lib.hid (show ∀ t ∈ m.take (i + 1), t.id ≠ k from by
          intro t ht
          rw [List.take_add_one, hx] at ht
          rcases List.mem_append.1 ht with ht | ht
          · exact HNo.out t ht
          · obtain rfl : t = x := by simpa using ht
            rw [← hy]
            exact he)
        clear hx hy he e
        go_wp2_with fail
        go_roundw
        case rel => exact ⟨i + 1, by omega, by go_num, trivial, HNn.out⟩
        case measure => simp [intOf]; omega
    · obtain rfl : L = i := by omega
      have HRi := Lib.hid (show R = -1 by
        rw [HR.out]
        unfold ixOf
        have : m.findIdx? (fun t => decide (t.id = k)) = none := by
          rw [List.findIdx?_eq_none_iff]
          intro t ht
          have := HNo.out t (by rw [HL.out, List.take_length]; exact ht)
          simpa using this
        rw [this])
      go_wp2_with fail
      go_ret
      exact ⟨by rw [HRi.out]; rfl, HAl.out⟩
end Go.Proofs.YtnndofeomakpiaaGreatDoor
