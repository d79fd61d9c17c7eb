/-
  A new memory; a memory of a law's own; nil ones; the chapter's example holds.
-/
import Derived.Test.YtcdolkbljheniaaUsW
namespace Go.Proofs.Ytcdolkbljheniaa
open Go.RowKit

attribute [local go_sem] Oper.semAt_some

/-- The cells of a new memory. -/
def memZ (n : Nat) : Array Value := #[.int .i64 (n : Int)] ++ Array.replicate 16 (.int .i64 0) ++ Array.replicate 256 (.int .u8 0)
theorem built_mem (n : Nat) : Try.prog.built 70 [(0, .int .i64 (n : Int))] = some (memZ n) := by kernel_rfl
theorem UM.new {n : Nat} (h1 : 1 ≤ n) (h16 : n ≤ 16) (w : World) (t : TypeId) : UM (w.alloc (.cells (memZ n) t)) w.heap.size (MS.zero n) := by
  have hc : ∀ i, (w.alloc (.cells (memZ n) t)).cell? ⟨w.heap.size, i, none⟩ = (memZ n)[i]? := fun i => World.cell?_alloc_at _ _ _ _ rfl
  refine ⟨h1, h16, ?_, fun i hi => ?_, fun i hi => ?_, fun k => World.frozen?_alloc_new w _ _ _⟩
  · rw [hc]
    unfold memZ
    rw [Array.getElem?_append, if_pos (by simp), Array.getElem?_append, if_pos (by simp)]
    rfl
  · rw [hc]
    unfold memZ
    rw [Array.getElem?_append, if_pos (by simp; omega), Array.getElem?_append, if_neg (by simp)]
    simp [hi, MS.zero]
  · rw [hc]
    unfold memZ
    rw [Array.getElem?_append, if_neg (by simp), show 17 + i - (#[Value.int .i64 (n : Int)] ++ Array.replicate 16 (Value.int .i64 0)).size = i by simp]
    simp [hi, MS.zero]
theorem new_in {n : Nat} (h1 : 1 ≤ n) (h16 : n ≤ 16) (w : World) {b : Nat} (hb : w.heap.size = b) :
    Calls Try.prog 8 #[.int .i64 (n : Int)] w fun e w' => e = .returned (.tuple #[.pointer (some ⟨b, 0, none⟩), .int .i64 0]) ∧ UM w' b (MS.zero n) ∧ Ch [] w w' ∧ w'.heap.size = b + 1 := by
  subst hb
  have hbu := built_mem n
  have HU := Lib.hid (UM.new h1 h16 w 70)
  have d1 : decide ((n : Int) < 1) = false := decide_eq_false (by omega)
  have d2 : decide ((n : Int) > 16) = false := decide_eq_false (by omega)
  have d1' : ¬ n < 1 := by omega
  have d2' : ¬ 16 < n := by omega
  clear h1 h16
  go_enter Try.func8, Try.ntmps8
  go_wp2_with (first | (with_reducible refine wpList_build rfl 70 _ rfl ?_ ?_) | fail)
  go_ret2
  exact ⟨rfl, HU.out, (Ch.refl _ _).alloc _, by simp⟩
theorem new_out {p : Int} (hp : p < 1 ∨ 16 < p) (w : World) :
    Calls Try.prog 8 #[.int .i64 p] w fun e w' => e = .returned (.tuple #[.pointer none, .int .i64 2]) ∧ w = w' := by
  by_cases h0 : p < 1
  · clear hp
    go_enter Try.func8, Try.ntmps8
    go_wp2
    go_ret2
    exact ⟨rfl, rfl⟩
  · have h1 : 16 < p := by omega
    clear hp
    go_enter Try.func8, Try.ntmps8
    go_wp2
    go_ret2
    exact ⟨rfl, rfl⟩
/-- A memory of a law's own. -/
structure UL (w0 w : World) (b : Nat) (x : MS) : Prop where
  u : UM w b x
  ch : Ch [] w0 w
  lo : w0.heap.size ≤ b
section
variable {w0 w w' : World} {b : Nat} {x : MS}
theorem UL.quiet (h : UL w0 w b x) (hc : Ch [] w w') : UL w0 w' b x := ⟨h.u.ch hc (by simp), h.ch.trans hc, h.lo⟩
theorem UL.next {y : MS} (h : UL w0 w b x) (hc : Ch [b] w w') (hu : UM w' b y) : UL w0 w' b y := ⟨hu, h.ch.fresh hc (by simpa using h.lo), h.lo⟩
end
theorem nil_size (w : World) : Calls Try.prog 41 #[.pointer none] w fun e w' => e = .returned (.int .i64 0) ∧ w = w' := by
  go_enter Try.func41, Try.ntmps41
  go_wp2
  go_ret
  exact ⟨rfl, rfl⟩
theorem nil_piece (a m : Int) (w : World) : Calls Try.prog 37 #[.pointer none, .int .i64 a, .int .i64 m] w fun e w' => e = .returned (.tuple #[.slice none 0 0, .int .i64 6]) ∧ w = w' := by
  go_enter Try.func37, Try.ntmps37
  go_wp2
  go_ret2
  exact ⟨rfl, rfl⟩
theorem nil_st (p : Int) (w : World) : Calls Try.prog 39 #[.pointer none, .int .i64 p] w fun e w' => e = .returned (.tuple #[.pointer none, .int .i64 6]) ∧ w = w' := by
  go_enter Try.func39, Try.ntmps39
  go_wp2
  go_ret2
  exact ⟨rfl, rfl⟩
theorem nil_state (p : Int) (w : World) : Calls Try.prog 24 #[.pointer none, .int .i64 p] w fun e w' => e = .returned (.int .i64 2) ∧ w = w' := by
  have HS := Lib.hid (nil_st p w)
  go_enter Try.func24, Try.ntmps24
  go_wp2_with (with_reducible refine HS.out.mono ?_; rintro e w' ⟨rfl, rfl⟩)
  go_ret
  exact ⟨rfl, rfl⟩
theorem nil_bring (p : Int) (w : World) : Calls Try.prog 26 #[.pointer none, .int .i64 p] w fun e w' => e = .returned (.int .i64 6) ∧ w = w' := by
  have HS := Lib.hid (nil_st p w)
  go_enter Try.func26, Try.ntmps26
  go_wp2_with (with_reducible refine HS.out.mono ?_; rintro e w' ⟨rfl, rfl⟩)
  go_ret
  exact ⟨rfl, rfl⟩
theorem nil_evict (p : Int) (w : World) : Calls Try.prog 29 #[.pointer none, .int .i64 p] w fun e w' => e = .returned (.int .i64 6) ∧ w = w' := by
  have HS := Lib.hid (nil_st p w)
  go_enter Try.func29, Try.ntmps29
  go_wp2_with (with_reducible refine HS.out.mono ?_; rintro e w' ⟨rfl, rfl⟩)
  go_ret
  exact ⟨rfl, rfl⟩
theorem nil_break (p : Int) (w : World) : Calls Try.prog 30 #[.pointer none, .int .i64 p] w fun e w' => e = .returned (.int .i64 6) ∧ w = w' := by
  have HS := Lib.hid (nil_st p w)
  go_enter Try.func30, Try.ntmps30
  go_wp2_with (with_reducible refine HS.out.mono ?_; rintro e w' ⟨rfl, rfl⟩)
  go_ret
  exact ⟨rfl, rfl⟩
theorem nil_poke (a : Int) (v : Option Addr) (n cap : Nat) (w : World) : Calls Try.prog 25 #[.pointer none, .int .i64 a, .slice v n cap] w fun e w' => e = .returned (.int .i64 6) ∧ w = w' := by
  have HS := Lib.hid (nil_piece a n w)
  have hcopy := run_copy_none (P := Try.prog) w 23 23 3 5 none v 0 0 n cap (by kernel_rfl) (by kernel_rfl) (by simp)
  go_enter Try.func25, Try.ntmps25
  go_wp2_with (with_reducible refine HS.out.mono ?_; rintro e w' ⟨rfl, rfl⟩)
  go_ret
  exact ⟨rfl, rfl⟩
theorem nil_peek (a m : Int) (w : World) : Calls Try.prog 22 #[.pointer none, .int .i64 a, .int .i64 m] w fun e w' => e = .returned (.tuple #[.slice none 0 0, .int .i64 6]) ∧ w = w' := by
  obtain ⟨i0, hI, hz0, hz1, hz2⟩ : ∃ i : TypeInfo, Try.prog.info? 5 = some i ∧ i.zero = some (.int .u8 0) ∧ i.size = 1 ∧ i.bytes = 1 := by
    refine ⟨_, rfl, by kernel_rfl, by kernel_rfl, by kernel_rfl⟩
  have HP := Lib.hid (nil_piece a m w)
  clear hz0 hz1 hz2
  go_enter Try.func22, Try.ntmps22
  go_wp2_with (first | (with_reducible refine HP.out.mono ?_; rintro e w' ⟨rfl, rfl⟩) | (at_builtin; go_must (refine wpList_append_own_none rfl _ _ 23 rfl w.heap.size 5 i0 1 Try.underlying23 hI (.slice none 0 0) 0 [] rfl (World.ownsRow_nil _ _ _ _) rfl ?_)))
  go_wp2_with fail
  go_ret2
  exact ⟨rfl, rfl⟩
theorem nil_touch (a m : Int) (w : World) : Calls Try.prog 23 #[.pointer none, .int .i64 a, .int .i64 m] w fun e w' => e = .returned (.tuple #[.int .i64 0, .int .i64 6]) ∧ w = w' := by
  have HP := Lib.hid (nil_piece a m w)
  go_enter Try.func23, Try.ntmps23
  go_wp2_with fail
  go_step3
  go_wp2_with (with_reducible refine HP.out.mono ?_; rintro e w' ⟨rfl, rfl⟩)
  try rw [Exit.noGoto_ret]
  go_ret2
  exact ⟨rfl, rfl⟩
end Go.Proofs.Ytcdolkbljheniaa
