/-
  Num, RefTo, To, Of; things that are compared.
-/
import Derived.Test.YtlffcccicpdnfaaFrA
namespace Go.Proofs.Ytlffcccicpdnfaa
open Go.RowKit Go.BigFrame

attribute [local go_sem] Oper.semAt_some

theorem num_any (n : Nat) (w : World) : Calls Try.prog 9 #[.int .u64 (n : Int)] w fun e w' => e = .returned (vv (num n)) ∧ Ch [] w w' := by
  go_enter Try.func9, Try.ntmps9
  go_wp2
  refine post_val ?_ rfl ((Ch.refl [] _).alloc _)
  simp [results, Try.f9, go_sem]
  rfl
theorem rnum_any (n : Nat) (w : World) : Calls Try.prog 33 #[.int .u64 (n : Int)] w fun e w' => e = .returned (vv (num n)) ∧ Ch [] w w' := by
  go_enter Try.func33, Try.ntmps33
  go_wp2
  refine post_val ?_ rfl ((Ch.refl [] _).alloc _)
  simp [results, Try.f33, go_sem]
  rfl
theorem refto_any (m s g : Int) (w : World) : Calls Try.prog 32 #[.int .i64 m, .agg #[.int .i64 s, .int .i64 g]] w fun e w' => e = .returned (vv (refTo m s g)) ∧ Ch [] w w' := by
  go_enter Try.func32, Try.ntmps32
  go_wp2
  refine post_val ?_ rfl (((Ch.refl [] _).alloc _).alloc _)
  simp [results, Try.f32, go_sem]
  rfl
theorem to5_any (x : V5) (w : World) : Calls Try.prog 11 #[vv x] w fun e w' => e = .returned (vv x) ∧ Ch [] w w' := by
  unfold vv
  go_enter Try.func11, Try.ntmps11
  go_wp2
  refine post_val ?_ rfl (((Ch.refl [] _).alloc _).alloc _)
  simp [results, Try.f11, go_sem]
theorem of5_any (x : V5) (w : World) : Calls Try.prog 31 #[vv x] w fun e w' => e = .returned (vv x) ∧ Ch [] w w' := by
  unfold vv
  go_enter Try.func31, Try.ntmps31
  go_wp2
  refine post_val ?_ rfl (((Ch.refl [] _).alloc _).alloc _)
  simp [results, Try.f31, go_sem]

/-- Are they the same? -/
def eqV (x y : V5) : Bool := x.r == y.r && x.m == y.m && x.s == y.s && x.g == y.g && ((x.n : Int) == (y.n : Int))
theorem eqV_iff {x y : V5} : eqV x y = true ↔ x = y := by
  unfold eqV
  simp only [Bool.and_eq_true, beq_iff_eq]
  constructor
  · rintro ⟨⟨⟨⟨h1, h2⟩, h3⟩, h4⟩, h5⟩
    obtain ⟨a, b, c, d, e⟩ := x
    obtain ⟨a', b', c', d', e'⟩ := y
    simp only at *
    obtain rfl : e = e' := by omega
    subst h1 h2 h3 h4
    rfl
  · rintro rfl; simp
theorem eqV_self (x : V5) : eqV x x = true := eqV_iff.2 rfl
theorem eq_fv (x y : V5) (w : World) : (binOp .eql 38 (vv x) (vv y)).run Try.prog w = .ok (.bool (eqV x y)) w := by
  have ht : Try.prog.underlying 38 = some (.struct (Try.prog.fieldsOf 38)) := by kernel_rfl
  have hp : Try.prog.stoodInHeld 38 = false := by kernel_rfl
  obtain ⟨a, b, c, d, e⟩ := x
  obtain ⟨a', b', c', d', e'⟩ := y
  unfold vv eqV
  simp only
  rw [run_eql_struct, run_equalIn_struct (d := 9999) w 38 _ _ ht hp]
  cases h1 : a == a' <;> cases h2 : b == b' <;> cases h3 : c == c' <;> cases h4 : d == d' <;> cases h5 : ((e : Int) == (e' : Int)) <;>
  simp [Program.fieldsOf, Try.underlying38, Try.underlying36, go_sem, Op.eqFields, h1, h2, h3, h4, h5]
theorem eq_rv (x y : V5) (w : World) : (binOp .neq 29 (vv x) (vv y)).run Try.prog w = .ok (.bool (!(eqV x y))) w := by
  have ht : Try.prog.underlying 29 = some (.struct (Try.prog.fieldsOf 29)) := by kernel_rfl
  have hp : Try.prog.stoodInHeld 29 = false := by kernel_rfl
  obtain ⟨a, b, c, d, e⟩ := x
  obtain ⟨a', b', c', d', e'⟩ := y
  unfold vv eqV
  simp only
  rw [run_neq_struct, run_equalIn_struct (d := 9999) w 29 _ _ ht hp]
  cases h1 : a == a' <;> cases h2 : b == b' <;> cases h3 : c == c' <;> cases h4 : d == d' <;> cases h5 : ((e : Int) == (e' : Int)) <;>
  simp [Program.fieldsOf, Try.underlying29, go_sem, Op.eqFields, h1, h2, h3, h4, h5]
end Go.Proofs.Ytlffcccicpdnfaa
