/-
  What both parses tell; instructions that are parsed are those bytes again; instructions that are compared.
-/
import Derived.Test.YtgldkalagmjkfaaDoorIsT
import Derived.Laws.StructEq
namespace Go.Proofs.YtgldkalagmjkfaaDoor
open Go.RowKit

attribute [local go_sem] Oper.semAt_some

theorem parse_ends (l : List Int) (n : Nat) : ∃ m, 8 * m ≤ n ∧ (∀ i, i < m → chk (decAt l i) = 0) ∧ (n < 8 * m + 8 ∨ chk (decAt l m) ≠ 0) := by
  have key : ∀ d j, n - 8 * j = d → 8 * j ≤ n → (∀ i, i < j → chk (decAt l i) = 0) → ∃ m, 8 * m ≤ n ∧ (∀ i, i < m → chk (decAt l i) = 0) ∧ (n < 8 * m + 8 ∨ chk (decAt l m) ≠ 0) := by
    intro d
    induction d using Nat.strongRecOn with
    | _ d ih =>
      intro j hd hj hok
      by_cases h : n < 8 * j + 8
      · exact ⟨j, hj, hok, .inl h⟩
      · by_cases hc : chk (decAt l j) = 0
        · exact ih (n - 8 * (j + 1)) (by omega) (j + 1) rfl (by omega) (fun i hi => by
            by_cases e : i = j
            · subst e; exact hc
            · exact hok i (by omega))
        · exact ⟨j, hj, hok, .inr hc⟩
  exact key n 0 (by omega) (by omega) (fun i hi => absurd hi (by omega))

theorem enc_at {l : List Int} (hl : byte l) {k : Nat} (hk : 8 * k + 8 ≤ l.length) : enc (decAt l k) = (l.drop (8 * k)).take 8 := by
  have e : ∀ j, j < 8 → ∃ hj : 8 * k + j < l.length, l.getD (8 * k + j) 0 = l[8 * k + j] := fun j hj => ⟨by omega, by rw [List.getD_eq_getElem?_getD, List.getElem?_eq_getElem (by omega)]; rfl⟩
  unfold decAt
  rw [enc_dec (fun j hj => by obtain ⟨h1, h2⟩ := e j hj; rw [h2]; exact hl _ (List.getElem_mem h1))]
  apply List.ext_getElem?
  intro i
  by_cases hi : i < 8
  · rw [List.getElem?_take_of_lt hi, List.getElem?_drop]
    obtain ⟨h1, h2⟩ := e i hi
    rw [List.getElem?_eq_getElem h1, ← h2]
    obtain (rfl | rfl | rfl | rfl | rfl | rfl | rfl | rfl) : i = 0 ∨ i = 1 ∨ i = 2 ∨ i = 3 ∨ i = 4 ∨ i = 5 ∨ i = 6 ∨ i = 7 := by omega
    all_goals rfl
  · rw [List.getElem?_eq_none (by simp; omega), List.getElem?_eq_none (by simp; omega)]
theorem encs_take {l : List Int} (hl : byte l) : ∀ k, 8 * k ≤ l.length → encL (decs l k) = l.take (8 * k) := by
  intro k
  induction k with
  | zero => intro _; simp [decs, encL]
  | succ k ih =>
    intro hk
    rw [decs_succ, encL_snoc, ih (by omega), enc_at hl (by omega), show 8 * (k + 1) = 8 * k + 8 by omega, List.take_add]
theorem encs_all {l : List Int} (hl : byte l) {m : Nat} (hm : l.length = 8 * m) : encL (decs l m) = l := by
  rw [encs_take hl m (by omega), ← hm, List.take_length]
theorem decs_at (l : List Int) (m k : Nat) (hk : k < (decs l m).length) : (decs l m)[k] = decAt l k := by simp [decs]
theorem decs_first {l : List Int} {m : Nat} (h : ∀ i, i < m → chk (decAt l i) = 0) : firstE (decs l m) = 0 :=
  firstE_none fun i hi => by rw [decs_at]; exact h i (by rwa [decs_len] at hi)
theorem byte_at {l : List Int} (hl : byte l) (k : Nat) : ∀ j, j < 8 → 0 ≤ l.getD (8 * k + j) 0 ∧ l.getD (8 * k + j) 0 < 256 := by
  intro j _
  rw [List.getD_eq_getElem?_getD]
  by_cases h : 8 * k + j < l.length
  · rw [List.getElem?_eq_getElem h]
    exact hl _ (List.getElem_mem h)
  · rw [List.getElem?_eq_none (by omega)]; decide
theorem decs_fit {l : List Int} (hl : byte l) (m : Nat) : ∀ x ∈ decs l m, Fit x := by
  intro x hx
  unfold decs at hx
  obtain ⟨k, _, rfl⟩ := List.mem_map.1 hx
  exact dec_fit (fun j hj => (byte_at hl k j hj).1) (fun j hj => (byte_at hl k j hj).2)

/-- What both parses tell where they fail. -/
def failC (l : List Int) (n m : Nat) : Int := if 8 * m + 8 ≤ n then chk (decAt l m) else 10
theorem failC_ne {l : List Int} {n m : Nat} (hend : n < 8 * m + 8 ∨ chk (decAt l m) ≠ 0) : failC l n m ≠ 0 := by
  unfold failC
  split
  · rcases hend with h | h
    · omega
    · exact h
  · decide

set_option maxHeartbeats 2000000 in
/-- Two instructions that are compared. -/
theorem ins_eq (T : TypeId) (hT : T = 34 ∨ T = 29) (x y : I5) (w : World) : (Op.equalIn 10000 T (iv x) (iv y)).run Tryd.prog w = .ok (decide (x = y)) w := by
  obtain ⟨op, d, s, o, i⟩ := x
  obtain ⟨op', d', s', o', i'⟩ := y
  have e4 : Tryd.prog.underlying 3 = some (.int .i64) := Tryd.underlying3
  have hR : decide ((⟨op, d, s, o, i⟩ : I5) = ⟨op', d', s', o', i'⟩) = (op == op' && d == d' && s == s' && o == o' && i == i') := by
    rw [Bool.eq_iff_iff, decide_eq_true_iff]
    simp [and_assoc]
  rw [hR]
  unfold iv
  simp only
  rcases hT with rfl | rfl
  · have ht : Tryd.prog.underlying 34 = some (.struct (Tryd.prog.fieldsOf 34)) := by kernel_rfl
    have hp : Tryd.prog.stoodInHeld 34 = false := by kernel_rfl
    rw [run_equalIn_struct (d := 9999) w 34 _ _ ht hp]
    cases h1 : op == op' <;> cases h2 : d == d' <;> cases h3 : s == s' <;> cases h4 : o == o' <;> cases h5 : i == i' <;>
    simp [Program.fieldsOf, Tryd.underlying34, go_sem, Op.eqFields, run_equalIn_int (P := Tryd.prog) _ _ _ _ _ _ _ e4, h1, h2, h3, h4, h5]
  · have ht : Tryd.prog.underlying 29 = some (.struct (Tryd.prog.fieldsOf 29)) := by kernel_rfl
    have hp : Tryd.prog.stoodInHeld 29 = false := by kernel_rfl
    rw [run_equalIn_struct (d := 9999) w 29 _ _ ht hp]
    cases h1 : op == op' <;> cases h2 : d == d' <;> cases h3 : s == s' <;> cases h4 : o == o' <;> cases h5 : i == i' <;>
    simp [Program.fieldsOf, Tryd.underlying29, go_sem, Op.eqFields, run_equalIn_int (P := Tryd.prog) _ _ _ _ _ _ _ e4, h1, h2, h3, h4, h5]
theorem ins_eql (x y : I5) (w : World) : (binOp .eql 34 (iv x) (iv y)).run Tryd.prog w = .ok (.bool (decide (x = y))) w := by
  have := ins_eq 34 (.inl rfl) x y w
  unfold iv at *
  rw [run_eql_struct, this]
  rfl
theorem ins_neq (x y : I5) (w : World) : (binOp .neq 34 (iv x) (iv y)).run Tryd.prog w = .ok (.bool (!decide (x = y))) w := by
  have := ins_eq 34 (.inl rfl) x y w
  unfold iv at *
  rw [run_neq_struct, this]
  rfl
theorem rins_neq (x y : I5) (w : World) : (binOp .neq 29 (iv x) (iv y)).run Tryd.prog w = .ok (.bool (!decide (x = y))) w := by
  have := ins_eq 29 (.inr rfl) x y w
  unfold iv at *
  rw [run_neq_struct, this]
  rfl
end Go.Proofs.YtgldkalagmjkfaaDoor
