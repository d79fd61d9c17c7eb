/-
  Closures that read or write a thing; what is done with the thing of a number; registers, words of the stack.
-/
import Derived.Test.YtlffcccicpdnfaaFrB
import Derived.Laws.EntriesVeiled
namespace Go.Proofs.Ytlffcccicpdnfaa
open Go.RowKit Go.BigFrame

attribute [local go_sem] Oper.semAt_some

theorem getW {w : World} {b o X : Nat} {x y : V5} (h : At5 w b o x) (hX : B5 w X y) :
    Calls Try.prog 27 #[.pointer (some ⟨b, o, none⟩), .pointer (some ⟨X, 0, none⟩)] w fun e w' => e = .returned (.tuple #[]) ∧ st5 w X 0 x = w' := by
  obtain ⟨c0, c1, c2, c3, c4⟩ := h
  obtain ⟨⟨d0, d1, d2, d3, d4⟩, hf⟩ := hX
  go_enter Try.func27, Try.ntmps27
  go_wp2
  exact ⟨rfl, .tuple #[], by simp [results, Try.f27, go_sem], rfl, rfl⟩
theorem getR {w : World} {b o X : Nat} {x y : V5} (h : At5 w b o x) (hX : B5 w X y) :
    Calls Try.prog 29 #[.pointer (some ⟨b, o, none⟩), .pointer (some ⟨X, 0, none⟩)] w fun e w' => e = .returned (.tuple #[]) ∧ st5 w X 0 x = w' := by
  obtain ⟨c0, c1, c2, c3, c4⟩ := h
  obtain ⟨⟨d0, d1, d2, d3, d4⟩, hf⟩ := hX
  go_enter Try.func29, Try.ntmps29
  go_wp2
  exact ⟨rfl, .tuple #[], by simp [results, Try.f29, go_sem], rfl, rfl⟩
theorem putW {w : World} {b o X : Nat} {x y : V5} (h : At5 w b o y) (hf : ∀ k, w.frozen? ⟨b, k, none⟩ = false) (hX : B5 w X x) :
    Calls Try.prog 28 #[.pointer (some ⟨b, o, none⟩), .pointer (some ⟨X, 0, none⟩)] w fun e w' => e = .returned (.tuple #[]) ∧ st5 w b o x = w' := by
  obtain ⟨c0, c1, c2, c3, c4⟩ := h
  obtain ⟨⟨d0, d1, d2, d3, d4⟩, -⟩ := hX
  go_enter Try.func28, Try.ntmps28
  go_wp2
  exact ⟨rfl, .tuple #[], by simp [results, Try.f28, go_sem], rfl, rfl⟩
theorem putR {w : World} {b o X : Nat} {x y : V5} (h : At5 w b o y) (hf : ∀ k, w.frozen? ⟨b, k, none⟩ = false) (hX : B5 w X x) :
    Calls Try.prog 30 #[.pointer (some ⟨b, o, none⟩), .pointer (some ⟨X, 0, none⟩)] w fun e w' => e = .returned (.tuple #[]) ∧ st5 w b o x = w' := by
  obtain ⟨c0, c1, c2, c3, c4⟩ := h
  obtain ⟨⟨d0, d1, d2, d3, d4⟩, -⟩ := hX
  go_enter Try.func30, Try.ntmps30
  go_wp2
  exact ⟨rfl, .tuple #[], by simp [results, Try.f30, go_sem], rfl, rfl⟩
theorem with_getW {w : World} {b o k n X : Nat} {x y : V5} (h : At5 w b (o + k * 5) x) (hX : B5 w X y) (hk : k < n) :
    Calls Try.prog 26 #[.slice (some ⟨b, o, none⟩) n n, .int .i64 (k : Int), .func (.func 27) #[] #[.pointer (some ⟨X, 0, none⟩)]] w fun e w' => e = .returned (.int .i64 0) ∧ st5 w X 0 x = w' := by
  have HC := Lib.hid (getW h hX)
  have d1 : ¬ n ≤ k := by omega
  go_enter Try.func26, Try.ntmps26
  go_wp2_with (first | (with_reducible refine HC.out.mono ?_; rintro e w1 ⟨rfl, rfl⟩) | fail)
  go_ret
  exact ⟨rfl, rfl⟩
theorem with_getR {w : World} {b o k n X : Nat} {x y : V5} (h : At5 w b (o + k * 5) x) (hX : B5 w X y) (hk : k < n) :
    Calls Try.prog 26 #[.slice (some ⟨b, o, none⟩) n n, .int .i64 (k : Int), .func (.func 29) #[] #[.pointer (some ⟨X, 0, none⟩)]] w fun e w' => e = .returned (.int .i64 0) ∧ st5 w X 0 x = w' := by
  have HC := Lib.hid (getR h hX)
  have d1 : ¬ n ≤ k := by omega
  go_enter Try.func26, Try.ntmps26
  go_wp2_with (first | (with_reducible refine HC.out.mono ?_; rintro e w1 ⟨rfl, rfl⟩) | fail)
  go_ret
  exact ⟨rfl, rfl⟩
theorem with_putW {w : World} {b o k n X : Nat} {x y : V5} (h : At5 w b (o + k * 5) y) (hf : ∀ k, w.frozen? ⟨b, k, none⟩ = false) (hX : B5 w X x) (hk : k < n) :
    Calls Try.prog 26 #[.slice (some ⟨b, o, none⟩) n n, .int .i64 (k : Int), .func (.func 28) #[] #[.pointer (some ⟨X, 0, none⟩)]] w fun e w' => e = .returned (.int .i64 0) ∧ st5 w b (o + k * 5) x = w' := by
  have HC := Lib.hid (putW h hf hX)
  have d1 : ¬ n ≤ k := by omega
  go_enter Try.func26, Try.ntmps26
  go_wp2_with (first | (with_reducible refine HC.out.mono ?_; rintro e w1 ⟨rfl, rfl⟩) | fail)
  go_ret
  exact ⟨rfl, rfl⟩
theorem with_putR {w : World} {b o k n X : Nat} {x y : V5} (h : At5 w b (o + k * 5) y) (hf : ∀ k, w.frozen? ⟨b, k, none⟩ = false) (hX : B5 w X x) (hk : k < n) :
    Calls Try.prog 26 #[.slice (some ⟨b, o, none⟩) n n, .int .i64 (k : Int), .func (.func 30) #[] #[.pointer (some ⟨X, 0, none⟩)]] w fun e w' => e = .returned (.int .i64 0) ∧ st5 w b (o + k * 5) x = w' := by
  have HC := Lib.hid (putR h hf hX)
  have d1 : ¬ n ≤ k := by omega
  go_enter Try.func26, Try.ntmps26
  go_wp2_with (first | (with_reducible refine HC.out.mono ?_; rintro e w1 ⟨rfl, rfl⟩) | fail)
  go_ret
  exact ⟨rfl, rfl⟩
theorem with_out (b o n : Nat) {at' : Int} (h : at' < 0 ∨ (n : Int) ≤ at') (V : Value) (w : World) :
    Calls Try.prog 26 #[.slice (some ⟨b, o, none⟩) n n, .int .i64 at', V] w fun e w' => e = .returned (.int .i64 2) ∧ w = w' := by
  by_cases h0 : at' < 0
  · clear h
    go_enter Try.func26, Try.ntmps26
    go_wp2_with fail
    go_ret
    exact ⟨rfl, rfl⟩
  · have h1 : (n : Int) ≤ at' := by omega
    clear h
    go_enter Try.func26, Try.ntmps26
    go_wp2_with fail
    go_ret
    exact ⟨rfl, rfl⟩
end Go.Proofs.Ytlffcccicpdnfaa
