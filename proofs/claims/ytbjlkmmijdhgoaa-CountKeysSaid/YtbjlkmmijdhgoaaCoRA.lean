/-
  The document's answer for counts by keys: its list as a row; Find.
-/
import Derived.Laws.OwnMore
import Derived.Laws.AppendOwnNone
import Derived.OwnWalk
import Derived.Test.YtbjlkmmijdhgoaaCoPlays
import Derived.Test.YtbjlkmmijdhgoaaCoC
namespace Go.Proofs.Ytbjlkmmijdhgoaa
open Go.RowKit

attribute [local go_sem] Oper.semAt_some

theorem infoY : (Try.prog.info? 59).map (fun i => (i.zero, i.size, i.bytes)) = some (some (.agg #[.int .i64 0, .int .i64 0, .int .i64 0, .bool false]), 4, 32) := by kernel_rfl

/-- A key's count, as the document's answer keeps it. -/
def kc (top : Nat) (x : Ct Int) : List Value := [.int .i64 x.1, .int .i64 (x.2.1 : Int), .int .i64 (top : Int), .bool x.2.2]
def rk (top : Nat) (m : List (Ct Int)) : List Value := m.flatMap (kc top)
theorem rk_cons (top : Nat) (x : Ct Int) (t : List (Ct Int)) : rk top (x :: t) = .int .i64 x.1 :: .int .i64 (x.2.1 : Int) :: .int .i64 (top : Int) :: .bool x.2.2 :: rk top t := by simp [rk, kc]
theorem rk_append (top : Nat) (l r : List (Ct Int)) : rk top (l ++ r) = rk top l ++ rk top r := by simp [rk]
theorem rk_one (top : Nat) (m : List (Ct Int)) : ∀ u ∈ rk top m, u.oneCell' = true := by
  intro u hu
  simp only [rk, List.mem_flatMap] at hu
  obtain ⟨x, _, hs⟩ := hu
  simp [kc] at hs
  rcases hs with rfl | rfl | rfl | rfl <;> rfl
theorem kc_one (top : Nat) (x : Ct Int) : ∀ u ∈ kc top x, u.oneCell' = true := by
  intro u hu
  simp [kc] at hu
  rcases hu with rfl | rfl | rfl | rfl <;> rfl
theorem rk_len (top : Nat) (m : List (Ct Int)) : (rk top m).length = m.length * 4 := by
  induction m with
  | nil => rfl
  | cons x t ih => rw [rk_cons]; simp [ih]; omega
theorem rk_at (top : Nat) (m : List (Ct Int)) (k : Nat) (x : Ct Int) (h : m[k]? = some x) : (rk top m)[k * 4]? = some (.int .i64 x.1) ∧ (rk top m)[k * 4 + 1]? = some (.int .i64 (x.2.1 : Int)) ∧ (rk top m)[k * 4 + 2]? = some (.int .i64 (top : Int)) ∧ (rk top m)[k * 4 + 3]? = some (.bool x.2.2) := by
  induction m generalizing k with
  | nil => simp at h
  | cons s t ih =>
    rw [rk_cons]
    cases k with
    | zero => simp at h; subst h; simp
    | succ k =>
      have := ih k (by simpa using h)
      rw [show (k + 1) * 4 = k * 4 + 4 by omega]
      simpa using this
theorem rk_drop (top : Nat) (m : List (Ct Int)) (k : Nat) : (rk top m).drop (k * 4) = rk top (m.drop k) := by
  induction m generalizing k with
  | nil => simp [rk]
  | cons s t ih =>
    cases k with
    | zero => simp
    | succ k =>
      rw [rk_cons, show (k + 1) * 4 = k * 4 + 4 by omega]
      simpa using ih k
theorem rk_set (top : Nat) (m : List (Ct Int)) (k : Nat) (x y : Ct Int) (h : m[k]? = some x) (hxy : x.1 = y.1) : (((rk top m).set (k * 4 + 1) (.int .i64 (y.2.1 : Int))).set (k * 4 + 2) (.int .i64 (top : Int))).set (k * 4 + 3) (.bool y.2.2) = rk top (m.set k y) := by
  induction m generalizing k with
  | nil => simp at h
  | cons t r ih =>
    rw [rk_cons]
    cases k with
    | zero => simp at h; subst h; simp [rk_cons, hxy]
    | succ k =>
      rw [show (k + 1) * 4 = k * 4 + 4 by omega]
      simp only [List.set_cons_succ, rk_cons]
      rw [ih k (by simpa using h)]

/-- A list of keys with their counts, in a row of the call's own from D on. -/
def RK (w : World) (D : Nat) (v : Value) (top : Nat) (m : List (Ct Int)) : Prop := w.ownsRow D 59 4 v m.length (rk top m)
theorem RK.mono {w : World} {D D' top : Nat} {v : Value} {m : List (Ct Int)} (h : RK w D v top m) (hD : D' ≤ D) : RK w D' v top m := own_mono h hD
theorem RK.apart {w w' : World} {S : List Nat} {D top : Nat} {v : Value} {m : List (Ct Int)} (h : RK w D v top m) (hc : Ch S w w') (hS : ∀ k ∈ S, some k ≠ v.ownBlock) : RK w' D v top m := by
  obtain ⟨h1, h2⟩ := h
  refine ⟨h1, ?_⟩
  rcases h2 with h2 | ⟨g, cap, cur, rfl, hb, hg, r⟩
  · exact .inl h2
  · exact .inr ⟨g, cap, cur, rfl, hb, (hc.block g (Array.getElem?_eq_some_iff.1 hg).1 (fun hm => hS g hm rfl)).trans hg, r⟩
theorem RK.quiet {w w' : World} {D top : Nat} {v : Value} {m : List (Ct Int)} (h : RK w D v top m) (hc : Ch [] w w') : RK w' D v top m := h.apart hc (by simp)
theorem RK.cells {w : World} {D top : Nat} {v : Value} {m : List (Ct Int)} (h : RK w D v top m) {k : Nat} {x : Ct Int} (hk : m[k]? = some x) : ∃ g cap, v = .slice (some ⟨g, 0, none⟩) m.length cap ∧ D ≤ g ∧ g < w.heap.size ∧ m.length ≤ cap ∧ cap ≤ maxLen ∧
    w.cell? ⟨g, k * 4, none⟩ = some (.int .i64 x.1) ∧ w.cell? ⟨g, k * 4 + 1, none⟩ = some (.int .i64 (x.2.1 : Int)) ∧ w.cell? ⟨g, k * 4 + 2, none⟩ = some (.int .i64 (top : Int)) ∧ w.cell? ⟨g, k * 4 + 3, none⟩ = some (.bool x.2.2) ∧ ∀ o, w.frozen? ⟨g, o, none⟩ = false := by
  have hkl := (List.getElem?_eq_some_iff.1 hk).1
  rcases h.2 with ⟨_, h0⟩ | ⟨g, cap, cur, rfl, hb, hg, hn, hcm, _⟩
  · omega
  · obtain ⟨h1, h2, h3, h4⟩ := rk_at top m k x hk
    refine ⟨g, cap, rfl, hb, (Array.getElem?_eq_some_iff.1 hg).1, hn, hcm, ?_, ?_, ?_, ?_, fun o => World.ownsRow.frozenAt h o⟩
    · rw [World.ownsRow.cellAt h (k * 4) (by omega)]; exact h1
    · rw [World.ownsRow.cellAt h (k * 4 + 1) (by omega)]; exact h2
    · rw [World.ownsRow.cellAt h (k * 4 + 2) (by omega)]; exact h3
    · rw [World.ownsRow.cellAt h (k * 4 + 3) (by omega)]; exact h4

theorem rfind_in {w : World} {D top : Nat} {v : Value} {A B : List (Ct Int)} {k : Int} {n : Nat} {s : Bool} (h : RK w D v top (A ++ (k, n, s) :: B)) (hA : ∀ x ∈ A, x.1 ≠ k) (hl : (A ++ (k, n, s) :: B).length ≤ 64) :
    Calls Try.prog 26 #[v, .int .i64 k] w fun e w' => e = .returned (.int .i64 (A.length : Int)) ∧ w' = w := by
  obtain ⟨m, hm⟩ : ∃ m, m = A ++ (k, n, s) :: B := ⟨_, rfl⟩
  obtain ⟨L, hL⟩ : ∃ L, L = m.length := ⟨_, rfl⟩
  obtain ⟨a, hla⟩ : ∃ a, a = A.length := ⟨_, rfl⟩
  rw [← hm] at h hl
  have haL : a < L := by rw [hL, hm, hla]; simp
  have H := Lib.hid h
  have HM := Lib.hid hm
  have HAp := Lib.hid hA
  have HLa := Lib.hid hla
  have HL := Lib.hid hL
  obtain ⟨g, cap, rfl, _⟩ := h.cells (k := a) (x := (k, n, s)) (by rw [hm, hla]; simp)
  rw [← hL] at hl ⊢
  rw [← hla]
  clear h hm hL hla hA
  go_enter Try.func26, Try.ntmps26
  go_wp2
  go_loopw [5] (fun iv wr => ∃ i : Nat, i ≤ a ∧ iv = .int .i64 (i : Int) ∧ wr = w) (fun iv _ => L - (intOf iv).toNat)
  case atStart => exact ⟨0, Nat.zero_le _, rfl, rfl⟩
  case round =>
    obtain ⟨i, hi, rfl, rfl⟩ := hrel
    have hb0 : (0 : Int) ≤ (i : Int) := by omega
    have hb1 : (i : Int) < (L : Int) := by omega
    by_cases hlt : i < a
    · obtain ⟨x, hx⟩ : ∃ x, A[i]? = some x := ⟨_, List.getElem?_eq_getElem (by rw [← HLa.out]; exact hlt)⟩
      obtain ⟨g', cap', e, _, _, _, _, c0, _⟩ := H.out.cells (k := i) (x := x) (by rw [HM.out, List.getElem?_append_left (by rw [← HLa.out]; exact hlt)]; exact hx)
      cases e
      have hne : (x.1 == k) = false := by simpa using HAp.out x (List.mem_of_getElem? hx)
      generalize x.1 = y at *
      clear hx
      go_wp2
      go_roundw
      case rel => exact ⟨i + 1, by omega, by go_num, trivial⟩
      case measure => simp [intOf]; omega
    · obtain rfl : i = a := by omega
      obtain ⟨g', cap', e, _, _, _, _, c0, _⟩ := H.out.cells (k := i) (x := (k, n, s)) (by rw [HM.out, HLa.out]; simp)
      cases e
      have hne : (k == k) = true := by simp
      go_wp2
      go_ret
      exact ⟨rfl, rfl⟩

theorem rfind_not {w : World} {D top : Nat} {v : Value} {m : List (Ct Int)} {k : Int} (h : RK w D v top m) (hA : ∀ x ∈ m, x.1 ≠ k) (hl : m.length ≤ 64) :
    Calls Try.prog 26 #[v, .int .i64 k] w fun e w' => e = .returned (.int .i64 (-1)) ∧ w' = w := by
  obtain ⟨a, cap, rfl⟩ := own_form h
  obtain ⟨L, hL⟩ : ∃ L, L = m.length := ⟨_, rfl⟩
  have H := Lib.hid h
  have HAp := Lib.hid hA
  have HL := Lib.hid hL
  rw [← hL] at hl ⊢
  clear h hL hA
  go_enter Try.func26, Try.ntmps26
  go_wp2
  go_loopw [5] (fun iv wr => ∃ i : Nat, i ≤ L ∧ iv = .int .i64 (i : Int) ∧ wr = w) (fun iv _ => L - (intOf iv).toNat)
  case atStart => exact ⟨0, Nat.zero_le _, rfl, rfl⟩
  case round =>
    obtain ⟨i, hi, rfl, rfl⟩ := hrel
    by_cases hlt : i < L
    · have hb0 : (0 : Int) ≤ (i : Int) := by omega
      have hb1 : (i : Int) < (L : Int) := by omega
      obtain ⟨x, hx⟩ : ∃ x, m[i]? = some x := ⟨_, List.getElem?_eq_getElem (by rw [← HL.out]; exact hlt)⟩
      obtain ⟨g', cap', e, _, _, _, _, c0, _⟩ := H.out.cells hx
      cases e
      have hne : (x.1 == k) = false := by simpa using HAp.out x (List.mem_of_getElem? hx)
      generalize x.1 = y at *
      clear hx
      go_wp2
      go_roundw
      case rel => exact ⟨i + 1, by omega, by go_num, trivial⟩
      case measure => simp [intOf]; omega
    · obtain rfl : i = L := by omega
      go_wp2
      go_ret
      exact ⟨rfl, rfl⟩
end Go.Proofs.Ytbjlkmmijdhgoaa
