/-
  The document's Do at every operation, its Jumps (written by gen/rjump16.py).
-/
import Derived.Test.YtkjeibdoghcgfaaAlF
import Derived.Test.YtkjeibdoghcgfaaIsF
namespace Go.Proofs.Ytkjeibdoghcgfaa
open Go.RowKit Go.BigFrame Go.Lib

attribute [local go_sem] Oper.semAt_some

theorem nm_pl_in : ∀ k : Fin 74, cls (k.val : Int) = 1 ∨ cls (k.val : Int) = 2 → nm (k.val : Int) = nm (pl (k.val : Int)) := by decide +kernel
theorem nm_pl {op : Int} (h : cls op = 1 ∨ cls op = 2) : nm op = nm (pl op) := by
  obtain ⟨h0, h1⟩ := in74 (op := op) (by omega)
  exact all74 (p := fun op => cls op = 1 ∨ cls op = 2 → nm op = nm (pl op)) nm_pl_in op h0 h1 h

theorem rdo_any (op : Int) {a b : Nat} (ha : W64 a) (hb : W64 b) (w : World) :
    Calls Try.prog 10 #[.int .i64 op, .int .u64 (a : Int), .int .u64 (b : Int)] w fun e w' => e = .returned (.tuple #[.int .u64 ((doV op a b : Nat) : Int), .int .i64 (doE op)]) ∧ Ch [] w w' := by
  have HK : ∀ w, Calls Try.prog 19 #[.int .i64 op] w fun e w' => e = .returned (.tuple #[.string ⟨(nm op).toArray⟩, .string ⟨(shp op).toArray⟩, .int .i64 (cls op)]) ∧ Ch [] w w' := fun w => kind_any op w
  by_cases h : cls op = 1
  · obtain ⟨p, hp, hl, _⟩ := pl_alu h
    have e1 : doV op a b = doN p a b := by unfold doV; rw [if_pos h, hp]; rfl
    have e2 : doE op = 0 := by unfold doE; rw [if_pos h]
    rw [nm_pl (.inl h), hp, h] at HK
    rw [e1, e2]
    generalize shp op = sh at HK
    clear e1 e2 h hp
    obtain (rfl | rfl | rfl | rfl | rfl | rfl | rfl | rfl | rfl | rfl | rfl | rfl | rfl) := (show p = 0 ∨ p = 1 ∨ p = 2 ∨ p = 3 ∨ p = 4 ∨ p = 5 ∨ p = 6 ∨ p = 7 ∨ p = 8 ∨ p = 9 ∨ p = 10 ∨ p = 11 ∨ p = 12 by omega)
    · exact rdo_0 (sh := sh) (Lib.hid HK) ha hb w
    · exact rdo_1 (sh := sh) (Lib.hid HK) ha hb w
    · exact rdo_2 (sh := sh) (Lib.hid HK) ha hb w
    · exact rdo_3 (sh := sh) (Lib.hid HK) ha hb w
    · exact rdo_4 (sh := sh) (Lib.hid HK) ha hb w
    · exact rdo_5 (sh := sh) (Lib.hid HK) ha hb w
    · exact rdo_6 (sh := sh) (Lib.hid HK) ha hb w
    · exact rdo_7 (sh := sh) (Lib.hid HK) ha hb w
    · exact rdo_8 (sh := sh) (Lib.hid HK) ha hb w
    · exact rdo_9 (sh := sh) (Lib.hid HK) ha hb w
    · exact rdo_10 (sh := sh) (Lib.hid HK) ha hb w
    · exact rdo_11 (sh := sh) (Lib.hid HK) ha hb w
    · exact rdo_12 (sh := sh) (Lib.hid HK) ha hb w
  · have e1 : doV op a b = 0 := by unfold doV; rw [if_neg h]
    have e2 : doE op = 11 := by unfold doE; rw [if_neg h]
    rw [e1, e2]
    have hn : (cls op != 1) = true := by simpa using h
    have HY := Lib.hid HK
    generalize cls op = c at *
    generalize nm op = l at *
    generalize shp op = sh at *
    clear e1 e2 h ha hb HK
    go_enter Try.func10, Try.ntmps10
    go_wp2_with (first | (with_reducible refine (HY.out _).mono ?_; rintro e w1 ⟨rfl, hc⟩) | fail)
    go_ret2
    exact ⟨rfl, hc⟩

theorem rgo_0 {op : Int} {sh : List UInt8} (HK : Hid (∀ w, Calls Try.prog 19 #[.int .i64 op] w fun e w' => e = .returned (.tuple #[.string ⟨#[106, 97]⟩, .string ⟨sh.toArray⟩, .int .i64 2]) ∧ Ch [] w w')) {a b : Nat} (_ha : W64 a) (_hb : W64 b) (w : World) :
    Calls Try.prog 13 #[.int .i64 op, .int .u64 (a : Int), .int .u64 (b : Int)] w fun e w' => e = .returned (.tuple #[.bool (goN 0 a b), .int .i64 0]) ∧ Ch [] w w' := by
  go_enter Try.func13, Try.ntmps13
  go_wp2_with (first | (with_reducible refine (HK.out _).mono ?_; rintro e w1 ⟨rfl, hc⟩) | fail)
  go_ret2
  exact ⟨rfl, hc⟩
theorem rgo_1 {op : Int} {sh : List UInt8} (HK : Hid (∀ w, Calls Try.prog 19 #[.int .i64 op] w fun e w' => e = .returned (.tuple #[.string ⟨#[106, 101, 113]⟩, .string ⟨sh.toArray⟩, .int .i64 2]) ∧ Ch [] w w')) {a b : Nat} (_ha : W64 a) (_hb : W64 b) (w : World) :
    Calls Try.prog 13 #[.int .i64 op, .int .u64 (a : Int), .int .u64 (b : Int)] w fun e w' => e = .returned (.tuple #[.bool (goN 1 a b), .int .i64 0]) ∧ Ch [] w w' := by
  obtain ⟨t, ht⟩ : ∃ t, ((a : Int) == (b : Int)) = t := ⟨_, rfl⟩
  have hr : goN 1 a b = t := by rw [← ht]; unfold goN; simp only; rw [Bool.eq_iff_iff]; simp <;> omega
  rw [hr]
  clear hr
  generalize (a : Int) = x at *
  generalize (b : Int) = y at *
  go_enter Try.func13, Try.ntmps13
  go_wp2_with (first | (with_reducible refine (HK.out _).mono ?_; rintro e w1 ⟨rfl, hc⟩) | fail)
  go_ret2
  exact ⟨rfl, hc⟩
theorem rgo_2 {op : Int} {sh : List UInt8} (HK : Hid (∀ w, Calls Try.prog 19 #[.int .i64 op] w fun e w' => e = .returned (.tuple #[.string ⟨#[106, 110, 101]⟩, .string ⟨sh.toArray⟩, .int .i64 2]) ∧ Ch [] w w')) {a b : Nat} (_ha : W64 a) (_hb : W64 b) (w : World) :
    Calls Try.prog 13 #[.int .i64 op, .int .u64 (a : Int), .int .u64 (b : Int)] w fun e w' => e = .returned (.tuple #[.bool (goN 2 a b), .int .i64 0]) ∧ Ch [] w w' := by
  obtain ⟨t, ht⟩ : ∃ t, ((a : Int) == (b : Int)) = t := ⟨_, rfl⟩
  have hr : goN 2 a b = !t := by rw [← ht]; unfold goN; simp only; rw [Bool.eq_iff_iff]; simp <;> omega
  rw [hr]
  clear hr
  generalize (a : Int) = x at *
  generalize (b : Int) = y at *
  go_enter Try.func13, Try.ntmps13
  go_wp2_with (first | (with_reducible refine (HK.out _).mono ?_; rintro e w1 ⟨rfl, hc⟩) | fail)
  go_ret2
  exact ⟨rfl, hc⟩
theorem rgo_3 {op : Int} {sh : List UInt8} (HK : Hid (∀ w, Calls Try.prog 19 #[.int .i64 op] w fun e w' => e = .returned (.tuple #[.string ⟨#[106, 103, 116]⟩, .string ⟨sh.toArray⟩, .int .i64 2]) ∧ Ch [] w w')) {a b : Nat} (_ha : W64 a) (_hb : W64 b) (w : World) :
    Calls Try.prog 13 #[.int .i64 op, .int .u64 (a : Int), .int .u64 (b : Int)] w fun e w' => e = .returned (.tuple #[.bool (goN 3 a b), .int .i64 0]) ∧ Ch [] w w' := by
  obtain ⟨t, ht⟩ : ∃ t, decide ((b : Int) < (a : Int)) = t := ⟨_, rfl⟩
  have hr : goN 3 a b = t := by rw [← ht]; unfold goN; simp only; rw [Bool.eq_iff_iff]; simp <;> omega
  rw [hr]
  clear hr
  generalize (a : Int) = x at *
  generalize (b : Int) = y at *
  go_enter Try.func13, Try.ntmps13
  go_wp2_with (first | (with_reducible refine (HK.out _).mono ?_; rintro e w1 ⟨rfl, hc⟩) | fail)
  go_ret2
  exact ⟨rfl, hc⟩
theorem rgo_4 {op : Int} {sh : List UInt8} (HK : Hid (∀ w, Calls Try.prog 19 #[.int .i64 op] w fun e w' => e = .returned (.tuple #[.string ⟨#[106, 103, 101]⟩, .string ⟨sh.toArray⟩, .int .i64 2]) ∧ Ch [] w w')) {a b : Nat} (_ha : W64 a) (_hb : W64 b) (w : World) :
    Calls Try.prog 13 #[.int .i64 op, .int .u64 (a : Int), .int .u64 (b : Int)] w fun e w' => e = .returned (.tuple #[.bool (goN 4 a b), .int .i64 0]) ∧ Ch [] w w' := by
  obtain ⟨t, ht⟩ : ∃ t, decide ((a : Int) < (b : Int)) = t := ⟨_, rfl⟩
  have hr : goN 4 a b = !t := by rw [← ht]; unfold goN; simp only; rw [Bool.eq_iff_iff]; simp <;> omega
  rw [hr]
  clear hr
  generalize (a : Int) = x at *
  generalize (b : Int) = y at *
  go_enter Try.func13, Try.ntmps13
  go_wp2_with (first | (with_reducible refine (HK.out _).mono ?_; rintro e w1 ⟨rfl, hc⟩) | fail)
  go_ret2
  exact ⟨rfl, hc⟩
theorem rgo_5 {op : Int} {sh : List UInt8} (HK : Hid (∀ w, Calls Try.prog 19 #[.int .i64 op] w fun e w' => e = .returned (.tuple #[.string ⟨#[106, 108, 116]⟩, .string ⟨sh.toArray⟩, .int .i64 2]) ∧ Ch [] w w')) {a b : Nat} (_ha : W64 a) (_hb : W64 b) (w : World) :
    Calls Try.prog 13 #[.int .i64 op, .int .u64 (a : Int), .int .u64 (b : Int)] w fun e w' => e = .returned (.tuple #[.bool (goN 5 a b), .int .i64 0]) ∧ Ch [] w w' := by
  obtain ⟨t, ht⟩ : ∃ t, decide ((a : Int) < (b : Int)) = t := ⟨_, rfl⟩
  have hr : goN 5 a b = t := by rw [← ht]; unfold goN; simp only; rw [Bool.eq_iff_iff]; simp <;> omega
  rw [hr]
  clear hr
  generalize (a : Int) = x at *
  generalize (b : Int) = y at *
  go_enter Try.func13, Try.ntmps13
  go_wp2_with (first | (with_reducible refine (HK.out _).mono ?_; rintro e w1 ⟨rfl, hc⟩) | fail)
  go_ret2
  exact ⟨rfl, hc⟩
theorem rgo_6 {op : Int} {sh : List UInt8} (HK : Hid (∀ w, Calls Try.prog 19 #[.int .i64 op] w fun e w' => e = .returned (.tuple #[.string ⟨#[106, 108, 101]⟩, .string ⟨sh.toArray⟩, .int .i64 2]) ∧ Ch [] w w')) {a b : Nat} (_ha : W64 a) (_hb : W64 b) (w : World) :
    Calls Try.prog 13 #[.int .i64 op, .int .u64 (a : Int), .int .u64 (b : Int)] w fun e w' => e = .returned (.tuple #[.bool (goN 6 a b), .int .i64 0]) ∧ Ch [] w w' := by
  obtain ⟨t, ht⟩ : ∃ t, decide ((b : Int) < (a : Int)) = t := ⟨_, rfl⟩
  have hr : goN 6 a b = !t := by rw [← ht]; unfold goN; simp only; rw [Bool.eq_iff_iff]; simp <;> omega
  rw [hr]
  clear hr
  generalize (a : Int) = x at *
  generalize (b : Int) = y at *
  go_enter Try.func13, Try.ntmps13
  go_wp2_with (first | (with_reducible refine (HK.out _).mono ?_; rintro e w1 ⟨rfl, hc⟩) | fail)
  go_ret2
  exact ⟨rfl, hc⟩
theorem rgo_7 {op : Int} {sh : List UInt8} (HK : Hid (∀ w, Calls Try.prog 19 #[.int .i64 op] w fun e w' => e = .returned (.tuple #[.string ⟨#[106, 115, 101, 116]⟩, .string ⟨sh.toArray⟩, .int .i64 2]) ∧ Ch [] w w')) {a b : Nat} (ha : W64 a) (hb : W64 b) (w : World) :
    Calls Try.prog 13 #[.int .i64 op, .int .u64 (a : Int), .int .u64 (b : Int)] w fun e w' => e = .returned (.tuple #[.bool (goN 7 a b), .int .i64 0]) ∧ Ch [] w w' := by
  have HC := Lib.hid (fun w => rbits_and ha hb w)
  obtain ⟨r, hr⟩ : ∃ r, r = a &&& b := ⟨_, rfl⟩
  rw [← hr] at HC
  have h2 : goN 7 a b = decide (r ≠ 0) := by show decide ((a &&& b) ≠ 0) = _; rw [← hr]
  rw [h2]
  clear h2 hr ha hb
  by_cases h : r = 0
  · subst h
    have HC : Hid (∀ w, Calls Try.prog 20 #[.int .u64 (a : Int), .int .u64 (b : Int), .int .i64 0] w fun e w' => e = .returned (.int .u64 0) ∧ w' = w) := HC
    go_enter Try.func13, Try.ntmps13
    go_wp2_with (first | (with_reducible refine (HK.out _).mono ?_; rintro e w1 ⟨rfl, hc⟩) | (with_reducible refine (HC.out _).mono ?_; rintro e w2 ⟨rfl, rfl⟩) | fail)
    go_ret2
    exact ⟨rfl, hc⟩
  · have h0 : 0 < r := Nat.pos_of_ne_zero h
    rw [decide_eq_true h]
    clear h
    go_enter Try.func13, Try.ntmps13
    go_wp2_with (first | (with_reducible refine (HK.out _).mono ?_; rintro e w1 ⟨rfl, hc⟩) | (with_reducible refine (HC.out _).mono ?_; rintro e w2 ⟨rfl, rfl⟩) | fail)
    go_ret2
    exact ⟨rfl, hc⟩
theorem rgo_8 {op : Int} {sh : List UInt8} (HK : Hid (∀ w, Calls Try.prog 19 #[.int .i64 op] w fun e w' => e = .returned (.tuple #[.string ⟨#[106, 115, 103, 116]⟩, .string ⟨sh.toArray⟩, .int .i64 2]) ∧ Ch [] w w')) {a b : Nat} (ha : W64 a) (hb : W64 b) (w : World) :
    Calls Try.prog 13 #[.int .i64 op, .int .u64 (a : Int), .int .u64 (b : Int)] w fun e w' => e = .returned (.tuple #[.bool (goN 8 a b), .int .i64 0]) ∧ Ch [] w w' := by
  have HC := Lib.hid (fun w => less_any hb ha w)
  have h2 : goN 8 a b = decide (sg b < sg a) := rfl
  rw [h2]
  clear h2 ha hb
  generalize decide (sg b < sg a) = t at *
  go_enter Try.func13, Try.ntmps13
  go_wp2_with (first | (with_reducible refine (HK.out _).mono ?_; rintro e w1 ⟨rfl, hc⟩) | (with_reducible refine (HC.out _).mono ?_; rintro e w2 ⟨rfl, rfl⟩) | fail)
  go_ret2
  exact ⟨rfl, hc⟩
theorem rgo_9 {op : Int} {sh : List UInt8} (HK : Hid (∀ w, Calls Try.prog 19 #[.int .i64 op] w fun e w' => e = .returned (.tuple #[.string ⟨#[106, 115, 108, 116]⟩, .string ⟨sh.toArray⟩, .int .i64 2]) ∧ Ch [] w w')) {a b : Nat} (ha : W64 a) (hb : W64 b) (w : World) :
    Calls Try.prog 13 #[.int .i64 op, .int .u64 (a : Int), .int .u64 (b : Int)] w fun e w' => e = .returned (.tuple #[.bool (goN 9 a b), .int .i64 0]) ∧ Ch [] w w' := by
  have HC := Lib.hid (fun w => less_any ha hb w)
  have h2 : goN 9 a b = decide (sg a < sg b) := rfl
  rw [h2]
  clear h2 ha hb
  generalize decide (sg a < sg b) = t at *
  go_enter Try.func13, Try.ntmps13
  go_wp2_with (first | (with_reducible refine (HK.out _).mono ?_; rintro e w1 ⟨rfl, hc⟩) | (with_reducible refine (HC.out _).mono ?_; rintro e w2 ⟨rfl, rfl⟩) | fail)
  go_ret2
  exact ⟨rfl, hc⟩

theorem rjumps_any (op : Int) {a b : Nat} (ha : W64 a) (hb : W64 b) (w : World) :
    Calls Try.prog 13 #[.int .i64 op, .int .u64 (a : Int), .int .u64 (b : Int)] w fun e w' => e = .returned (.tuple #[.bool (goV op a b), .int .i64 (goE op)]) ∧ Ch [] w w' := by
  have HK : ∀ w, Calls Try.prog 19 #[.int .i64 op] w fun e w' => e = .returned (.tuple #[.string ⟨(nm op).toArray⟩, .string ⟨(shp op).toArray⟩, .int .i64 (cls op)]) ∧ Ch [] w w' := fun w => kind_any op w
  by_cases h : cls op = 2
  · obtain ⟨p, hp, hl, _⟩ := pl_jump h
    have e1 : goV op a b = goN p a b := by unfold goV; rw [if_pos h, hp]; congr 1; omega
    have e2 : goE op = 0 := by unfold goE; rw [if_pos h]
    rw [nm_pl (.inr h), hp, h] at HK
    rw [e1, e2]
    generalize shp op = sh at HK
    clear e1 e2 h hp
    obtain (rfl | rfl | rfl | rfl | rfl | rfl | rfl | rfl | rfl | rfl) := (show p = 0 ∨ p = 1 ∨ p = 2 ∨ p = 3 ∨ p = 4 ∨ p = 5 ∨ p = 6 ∨ p = 7 ∨ p = 8 ∨ p = 9 by omega)
    · exact rgo_0 (sh := sh) (Lib.hid HK) ha hb w
    · exact rgo_1 (sh := sh) (Lib.hid HK) ha hb w
    · exact rgo_2 (sh := sh) (Lib.hid HK) ha hb w
    · exact rgo_3 (sh := sh) (Lib.hid HK) ha hb w
    · exact rgo_4 (sh := sh) (Lib.hid HK) ha hb w
    · exact rgo_5 (sh := sh) (Lib.hid HK) ha hb w
    · exact rgo_6 (sh := sh) (Lib.hid HK) ha hb w
    · exact rgo_7 (sh := sh) (Lib.hid HK) ha hb w
    · exact rgo_8 (sh := sh) (Lib.hid HK) ha hb w
    · exact rgo_9 (sh := sh) (Lib.hid HK) ha hb w
  · have e1 : goV op a b = false := by unfold goV; rw [if_neg h]
    have e2 : goE op = 11 := by unfold goE; rw [if_neg h]
    rw [e1, e2]
    have hn : (cls op != 2) = true := by simpa using h
    have HY := Lib.hid HK
    generalize cls op = c at *
    generalize nm op = l at *
    generalize shp op = sh at *
    clear e1 e2 h ha hb HK
    go_enter Try.func13, Try.ntmps13
    go_wp2_with (first | (with_reducible refine (HY.out _).mono ?_; rintro e w1 ⟨rfl, hc⟩) | fail)
    go_ret2
    exact ⟨rfl, hc⟩
end Go.Proofs.Ytkjeibdoghcgfaa
