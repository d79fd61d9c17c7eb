/-
  Several texts in one: Plain: instructions by numbers: what each operation is (by tables of 74), what is wrong with an instruction. · The program's plain, Class, Name, used, with, filled, within, bounded. · The program's with, filled, bounded, Check. · The program's Check. · Instructions in memory. · Rows of instructions of the call's own. · An instruction as the program's and as the document's.
-/
import Derived.Test.YtpbdmlipdfdblaaDoorBase
import Derived.BigQuiet
import Derived.Laws.StructEq
import Derived.Laws.AppendOwnNone
namespace Go.Proofs.YtpbdmlipdfdblaaDoor

/-- The names as the program's table has them: by plain operations. -/
def plT : List (List UInt8) := [[97, 100, 100], [115, 117, 98], [109, 117, 108], [100, 105, 118], [109, 111, 100], [97, 110, 100], [111, 114], [120, 111, 114], [108, 115, 104], [114, 115, 104], [97, 114, 115, 104], [109, 111, 118], [110, 101, 103], [], [], [], [], [], [], [], [], [], [], [], [], [], [], [], [], [], [], [], [106, 97], [106, 101, 113], [106, 110, 101], [106, 103, 116], [106, 103, 101], [106, 108, 116], [106, 108, 101], [106, 115, 101, 116], [106, 115, 103, 116], [106, 115, 108, 116], [], [], [], [], [], [], [], [], [], [], [], [], [], [], [], [], [], [], [], [], [], [], [108, 100, 115, 116], [115, 116, 115, 116], [108, 100, 118], [115, 116, 118], [], [], [], [], [99, 97, 108, 108], [101, 120, 105, 116]]
/-- The names by operations; the shapes of texts (100 the first register, 115 the second, 111 the offset, 105 the number). -/
def nmT : List (List UInt8) := [[97, 100, 100], [115, 117, 98], [109, 117, 108], [100, 105, 118], [109, 111, 100], [97, 110, 100], [111, 114], [120, 111, 114], [108, 115, 104], [114, 115, 104], [97, 114, 115, 104], [109, 111, 118], [110, 101, 103], [], [], [], [97, 100, 100], [115, 117, 98], [109, 117, 108], [100, 105, 118], [109, 111, 100], [97, 110, 100], [111, 114], [120, 111, 114], [108, 115, 104], [114, 115, 104], [97, 114, 115, 104], [109, 111, 118], [], [], [], [], [106, 97], [106, 101, 113], [106, 110, 101], [106, 103, 116], [106, 103, 101], [106, 108, 116], [106, 108, 101], [106, 115, 101, 116], [106, 115, 103, 116], [106, 115, 108, 116], [], [], [], [], [], [], [], [106, 101, 113], [106, 110, 101], [106, 103, 116], [106, 103, 101], [106, 108, 116], [106, 108, 101], [106, 115, 101, 116], [106, 115, 103, 116], [106, 115, 108, 116], [], [], [], [], [], [], [108, 100, 115, 116], [115, 116, 115, 116], [108, 100, 118], [115, 116, 118], [], [], [], [], [99, 97, 108, 108], [101, 120, 105, 116]]
def shT : List (List UInt8) := [[100, 105], [100, 105], [100, 105], [100, 105], [100, 105], [100, 105], [100, 105], [100, 105], [100, 105], [100, 105], [100, 105], [100, 105], [100], [], [], [], [100, 115], [100, 115], [100, 115], [100, 115], [100, 115], [100, 115], [100, 115], [100, 115], [100, 115], [100, 115], [100, 115], [100, 115], [], [], [], [], [111], [100, 105, 111], [100, 105, 111], [100, 105, 111], [100, 105, 111], [100, 105, 111], [100, 105, 111], [100, 105, 111], [100, 105, 111], [100, 105, 111], [], [], [], [], [], [], [], [100, 115, 111], [100, 115, 111], [100, 115, 111], [100, 115, 111], [100, 115, 111], [100, 115, 111], [100, 115, 111], [100, 115, 111], [100, 115, 111], [], [], [], [], [], [], [100, 111], [111, 115], [100, 115, 111], [100, 111, 115], [], [], [], [], [105], []]

def cls (op : Int) : Int :=
  if (0 ≤ op ∧ op ≤ 12) ∨ (16 ≤ op ∧ op ≤ 27) then 1 else if (32 ≤ op ∧ op ≤ 41) ∨ (49 ≤ op ∧ op ≤ 57) then 2 else if 64 ≤ op ∧ op ≤ 67 then 3 else if op = 72 ∨ op = 73 then 4 else 0
def pl (op : Int) : Int := if (16 ≤ op ∧ op ≤ 27) ∨ (49 ≤ op ∧ op ≤ 57) then op - 16 else op
def nm (op : Int) : List UInt8 := if op < 0 then [] else nmT.getD op.toNat []
def shp (op : Int) : List UInt8 := if op < 0 then [] else shT.getD op.toNat []
/-- Does a shape have a letter? -/
def has (l : List UInt8) (c : UInt8) : Bool := l.contains c

theorem all74 {p : Int → Prop} (h : ∀ k : Fin 74, p (k.val : Int)) (op : Int) (h0 : 0 ≤ op) (h1 : op < 74) : p op := by
  have := h ⟨op.toNat, by omega⟩
  simpa [Int.toNat_of_nonneg h0] using this

theorem out_nm {op : Int} (h : op < 0 ∨ 74 ≤ op) : nm op = [] ∧ shp op = [] ∧ cls op = 0 := by
  refine ⟨?_, ?_, ?_⟩
  · unfold nm; split
    · rfl
    · rw [List.getD_eq_getElem?_getD, List.getElem?_eq_none (by show 74 ≤ op.toNat; omega)]; rfl
  · unfold shp; split
    · rfl
    · rw [List.getD_eq_getElem?_getD, List.getElem?_eq_none (by show 74 ≤ op.toNat; omega)]; rfl
  · unfold cls; repeat (first | rw [if_neg (by omega)] | rfl)

theorem none_in : ∀ k : Fin 74, cls (k.val : Int) = 0 → nm (k.val : Int) = [] ∧ shp (k.val : Int) = [] := by decide +kernel
theorem none_of {op : Int} (h : cls op = 0) : nm op = [] ∧ shp op = [] := by
  rcases Int.lt_or_le op 0 with h0 | h0
  · exact ⟨(out_nm (.inl h0)).1, (out_nm (.inl h0)).2.1⟩
  · rcases Int.lt_or_le op 74 with h1 | h1
    · exact all74 (p := fun op => cls op = 0 → nm op = [] ∧ shp op = []) none_in op h0 h1 h
    · exact ⟨(out_nm (.inr h1)).1, (out_nm (.inr h1)).2.1⟩
theorem in74 {op : Int} (h : cls op ≠ 0) : 0 ≤ op ∧ op < 74 := by
  rcases Int.lt_or_le op 0 with h0 | h0
  · exact absurd (out_nm (.inl h0)).2.2 h
  · rcases Int.lt_or_le op 74 with h1 | h1
    · exact ⟨h0, h1⟩
    · exact absurd (out_nm (.inr h1)).2.2 h

/-- The program's name: of the plain operation. -/
theorem pl_nm_in : ∀ k : Fin 74, cls (k.val : Int) ≠ 0 → 0 ≤ pl (k.val : Int) ∧ pl (k.val : Int) < 74 ∧ plT.getD (pl (k.val : Int)).toNat [] = nm (k.val : Int) := by decide +kernel
theorem pl_nm {op : Int} (h : cls op ≠ 0) : 0 ≤ pl op ∧ pl op < 74 ∧ plT.getD (pl op).toNat [] = nm op := by
  obtain ⟨h0, h1⟩ := in74 h
  exact all74 (p := fun op => cls op ≠ 0 → 0 ≤ pl op ∧ pl op < 74 ∧ plT.getD (pl op).toNat [] = nm op) pl_nm_in op h0 h1 h

/-- What an operation uses, by its class. -/
theorem use_alu : ∀ k : Fin 74, cls (k.val : Int) = 1 → has (shp k.val) 100 = true ∧ has (shp k.val) 115 = (pl k.val != k.val) ∧ has (shp k.val) 111 = false ∧ has (shp k.val) 105 = (!(pl k.val != k.val) && ((k.val : Int) != 12)) := by decide +kernel
theorem use_jump : ∀ k : Fin 74, cls (k.val : Int) = 2 → has (shp k.val) 100 = ((k.val : Int) != 32) ∧ has (shp k.val) 115 = (pl k.val != k.val) ∧ has (shp k.val) 111 = true ∧ has (shp k.val) 105 = (!(pl k.val != k.val) && ((k.val : Int) != 32)) := by decide +kernel
theorem use_mem : ∀ k : Fin 74, cls (k.val : Int) = 3 → has (shp k.val) 100 = ((k.val : Int) != 65) ∧ has (shp k.val) 115 = ((k.val : Int) != 64) ∧ has (shp k.val) 111 = true ∧ has (shp k.val) 105 = false := by decide +kernel
theorem use_flow : ∀ k : Fin 74, cls (k.val : Int) = 4 → has (shp k.val) 100 = false ∧ has (shp k.val) 115 = false ∧ has (shp k.val) 111 = false ∧ has (shp k.val) 105 = ((k.val : Int) == 72) := by decide +kernel
theorem uses_alu {op : Int} (h : cls op = 1) : has (shp op) 100 = true ∧ has (shp op) 115 = (pl op != op) ∧ has (shp op) 111 = false ∧ has (shp op) 105 = (!(pl op != op) && (op != 12)) := by
  obtain ⟨h0, h1⟩ := in74 (op := op) (by omega)
  exact all74 (p := fun op => cls op = 1 → has (shp op) 100 = true ∧ has (shp op) 115 = (pl op != op) ∧ has (shp op) 111 = false ∧ has (shp op) 105 = (!(pl op != op) && (op != 12))) use_alu op h0 h1 h
theorem uses_jump {op : Int} (h : cls op = 2) : has (shp op) 100 = (op != 32) ∧ has (shp op) 115 = (pl op != op) ∧ has (shp op) 111 = true ∧ has (shp op) 105 = (!(pl op != op) && (op != 32)) := by
  obtain ⟨h0, h1⟩ := in74 (op := op) (by omega)
  exact all74 (p := fun op => cls op = 2 → has (shp op) 100 = (op != 32) ∧ has (shp op) 115 = (pl op != op) ∧ has (shp op) 111 = true ∧ has (shp op) 105 = (!(pl op != op) && (op != 32))) use_jump op h0 h1 h
theorem uses_mem {op : Int} (h : cls op = 3) : has (shp op) 100 = (op != 65) ∧ has (shp op) 115 = (op != 64) ∧ has (shp op) 111 = true ∧ has (shp op) 105 = false := by
  obtain ⟨h0, h1⟩ := in74 (op := op) (by omega)
  exact all74 (p := fun op => cls op = 3 → has (shp op) 100 = (op != 65) ∧ has (shp op) 115 = (op != 64) ∧ has (shp op) 111 = true ∧ has (shp op) 105 = false) use_mem op h0 h1 h
theorem uses_flow {op : Int} (h : cls op = 4) : has (shp op) 100 = false ∧ has (shp op) 115 = false ∧ has (shp op) 111 = false ∧ has (shp op) 105 = (op == 72) := by
  obtain ⟨h0, h1⟩ := in74 (op := op) (by omega)
  exact all74 (p := fun op => cls op = 4 → has (shp op) 100 = false ∧ has (shp op) 115 = false ∧ has (shp op) 111 = false ∧ has (shp op) 105 = (op == 72)) use_flow op h0 h1 h
theorem uses_none {op : Int} (h : cls op = 0) (c : UInt8) : has (shp op) c = false := by rw [(none_of h).2]; rfl

/-! ### An instruction -/
structure I5 where
  op : Int
  d : Int
  s : Int
  o : Int
  i : Int
deriving DecidableEq

/-- Is all within its bounds? -/
def inB (x : I5) : Prop := 0 ≤ x.d ∧ x.d ≤ 9 ∧ 0 ≤ x.s ∧ x.s ≤ 9 ∧ -32768 ≤ x.o ∧ x.o ≤ 32767 ∧ -2147483648 ≤ x.i ∧ x.i ≤ 2147483647
instance (x : I5) : Decidable (inB x) := by unfold inB; exact inferInstance
/-- Is what it doesn't use 0? -/
def form (x : I5) : Prop := (x.d ≠ 0 → has (shp x.op) 100 = true) ∧ (x.s ≠ 0 → has (shp x.op) 115 = true) ∧ (x.o ≠ 0 → has (shp x.op) 111 = true) ∧ (x.i ≠ 0 → has (shp x.op) 105 = true)
instance (x : I5) : Decidable (form x) := by unfold form; exact inferInstance
def chk (x : I5) : Int := if cls x.op = 0 then 11 else if ¬ inB x then 2 else if ¬ form x then 9 else 0

theorem chk_zero {x : I5} (h : chk x = 0) : cls x.op ≠ 0 ∧ inB x ∧ form x := by
  unfold chk at h
  split at h
  · cases h
  · split at h
    · cases h
    · split at h
      · cases h
      · rename_i a b c
        exact ⟨a, Decidable.not_not.1 b, Decidable.not_not.1 c⟩
theorem chk_cases (x : I5) : chk x = 0 ∨ chk x = 2 ∨ chk x = 9 ∨ chk x = 11 := by
  unfold chk; split
  · simp
  · split
    · simp
    · split <;> simp

end Go.Proofs.YtpbdmlipdfdblaaDoor

namespace Go.Proofs.YtpbdmlipdfdblaaDoor
open Go.RowKit

theorem cls_pl (op : Int) : cls op = if 0 ≤ pl op ∧ pl op ≤ 12 then 1 else if 32 ≤ pl op ∧ pl op ≤ 41 then 2 else if 64 ≤ pl op ∧ pl op ≤ 67 then 3 else if pl op = 72 ∨ pl op = 73 then 4 else 0 := by
  unfold cls pl
  repeat' split
  all_goals omega

theorem cls_cases (op : Int) : cls op = 0 ∨ cls op = 1 ∨ cls op = 2 ∨ cls op = 3 ∨ cls op = 4 := by
  unfold cls
  repeat' split
  all_goals omega

theorem plain_any {op : Int} (h0 : -9223372036854775808 ≤ op) (h1 : op ≤ 9223372036854775807) (w : World) : Calls Tryd.prog 75 #[.int .i64 op] w fun e w' => e = .returned (.int .i64 (pl op)) ∧ w' = w := by
  obtain ⟨p, hp⟩ : ∃ p, p = pl op := ⟨_, rfl⟩
  rw [← hp]
  have HP := Lib.hid hp
  have HB := Lib.hid (And.intro h0 h1)
  clear hp h0 h1
  by_cases hr : (16 ≤ op ∧ op ≤ 27) ∨ (49 ≤ op ∧ op ≤ 57)
  · have hw : IntKind.i64.wrap (op - 16) = op - 16 := by rw [IntKind.wrap_i64]; omega
    have HR := Lib.hid hr
    clear hr
    go_enter Tryd.func75, Tryd.ntmps75
    go_wp2_with fail
    all_goals
      go_ret
      refine ⟨?_, rfl⟩
      have hr := HR.out
      have hp := HP.out
      unfold pl at hp
      rw [if_pos hr] at hp
      exact congrArg (fun z => Ending.returned (.int .i64 z)) (by omega)
  · have HR := Lib.hid hr
    clear hr
    go_enter Tryd.func75, Tryd.ntmps75
    go_wp2_with fail
    all_goals
      go_ret
      refine ⟨?_, rfl⟩
      have hr := HR.out
      have hp := HP.out
      unfold pl at hp
      rw [if_neg hr] at hp
      exact congrArg (fun z => Ending.returned (.int .i64 z)) (by omega)

theorem within_any (n a b : Int) (w : World) : Calls Tryd.prog 76 #[.int .i64 n, .int .i64 a, .int .i64 b] w fun e w' => e = .returned (.bool (decide (a ≤ n) && decide (n ≤ b))) ∧ w' = w := by
  obtain ⟨p, hp⟩ : ∃ p, p = decide (n ≤ b) := ⟨_, rfl⟩
  rw [← hp]
  have HP := Lib.hid hp
  clear hp
  by_cases h : a ≤ n
  · have hd : decide (a ≤ n) = true := decide_eq_true h
    clear h
    rw [hd, Bool.true_and]
    go_enter Tryd.func76, Tryd.ntmps76
    go_wp2_with fail
    go_ret
    exact ⟨congrArg (fun z => Ending.returned (.bool z)) HP.out.symm, rfl⟩
  · have hd : decide (a ≤ n) = false := decide_eq_false h
    clear h
    rw [hd, Bool.false_and]
    go_enter Tryd.func76, Tryd.ntmps76
    go_wp2_with fail
    go_ret
    exact ⟨rfl, rfl⟩

theorem class_any {op : Int} (h0 : -9223372036854775808 ≤ op) (h1 : op ≤ 9223372036854775807) (w : World) : Calls Tryd.prog 52 #[.int .i64 op] w fun e w' => e = .returned (.int .i64 (cls op)) ∧ w' = w := by
  have hc := cls_pl op
  have HX := Lib.hid (fun w => plain_any h0 h1 w)
  generalize pl op = p at *
  generalize cls op = c at *
  have HC := Lib.hid hc
  clear hc h0 h1
  go_enter Tryd.func52, Tryd.ntmps52
  go_wp2_with (with_reducible refine (HX.out _).mono ?_; rintro e w' ⟨rfl, rfl⟩)
  all_goals
    go_ret
    refine ⟨?_, rfl⟩
    have hc := HC.out
    clear HC HX
    try simp only [beq_iff_eq, beq_eq_false_iff_ne, ne_eq] at *
    exact congrArg (fun z => Ending.returned (.int .i64 z)) (by omega)

/-- The end of a call whose answer is a struct in memory. -/
theorem post_val {P : Program} {fn : Func} {V : Value} {S : List Nat} {w0 w : World} {a : Act} (hr : (results fn a.tmps).run P w = .ok V w) (hd : a.defers = []) (hc : Ch S w0 w) : bodyPost P fn (fun e w' => e = .returned V ∧ Ch S w0 w') .ret a w := bodyPost_ret hr hd ⟨rfl, hc⟩
/-- What an operation uses, by its class. -/
theorem used1 {op p : Int} (b1 b2 : Bool) (h1 : (p != op) = b1) (h2 : (op != 12) = b2) (HX : Hid (∀ w, Calls Tryd.prog 75 #[.int .i64 op] w fun e w' => e = .returned (.int .i64 p) ∧ w' = w)) (HY : Hid (∀ w, Calls Tryd.prog 52 #[.int .i64 op] w fun e w' => e = .returned (.int .i64 1) ∧ w' = w)) (w : World) :
    Calls Tryd.prog 51 #[.int .i64 op] w fun e w' => e = .returned (.agg #[.bool (true), .bool (b1), .bool (false), .bool (!b1 && b2)]) ∧ Ch [] w w' := by
  cases b1 <;> cases b2
  all_goals
    go_enter Tryd.func51, Tryd.ntmps51
    go_wp2_with (first
      | (with_reducible refine (HY.out _).mono ?_; rintro e w' ⟨rfl, rfl⟩)
      | (with_reducible refine (HX.out _).mono ?_; rintro e w' ⟨rfl, rfl⟩)
      | fail)
    refine post_val ?_ rfl ((Ch.refl [] _).alloc _)
    simp [results, Tryd.f51, go_sem]
theorem used2 {op p : Int} (b1 b2 : Bool) (h1 : (p != op) = b1) (h2 : (op != 32) = b2) (HX : Hid (∀ w, Calls Tryd.prog 75 #[.int .i64 op] w fun e w' => e = .returned (.int .i64 p) ∧ w' = w)) (HY : Hid (∀ w, Calls Tryd.prog 52 #[.int .i64 op] w fun e w' => e = .returned (.int .i64 2) ∧ w' = w)) (w : World) :
    Calls Tryd.prog 51 #[.int .i64 op] w fun e w' => e = .returned (.agg #[.bool (b2), .bool (b1), .bool (true), .bool (!b1 && b2)]) ∧ Ch [] w w' := by
  cases b1 <;> cases b2
  all_goals
    go_enter Tryd.func51, Tryd.ntmps51
    go_wp2_with (first
      | (with_reducible refine (HY.out _).mono ?_; rintro e w' ⟨rfl, rfl⟩)
      | (with_reducible refine (HX.out _).mono ?_; rintro e w' ⟨rfl, rfl⟩)
      | fail)
    refine post_val ?_ rfl ((Ch.refl [] _).alloc _)
    simp [results, Tryd.f51, go_sem]
theorem used3 {op p : Int} (b1 b2 : Bool) (h1 : (op != 65) = b1) (h2 : (op != 64) = b2) (HX : Hid (∀ w, Calls Tryd.prog 75 #[.int .i64 op] w fun e w' => e = .returned (.int .i64 p) ∧ w' = w)) (HY : Hid (∀ w, Calls Tryd.prog 52 #[.int .i64 op] w fun e w' => e = .returned (.int .i64 3) ∧ w' = w)) (w : World) :
    Calls Tryd.prog 51 #[.int .i64 op] w fun e w' => e = .returned (.agg #[.bool (b1), .bool (b2), .bool (true), .bool (false)]) ∧ Ch [] w w' := by
  cases b1 <;> cases b2
  all_goals
    go_enter Tryd.func51, Tryd.ntmps51
    go_wp2_with (first
      | (with_reducible refine (HY.out _).mono ?_; rintro e w' ⟨rfl, rfl⟩)
      | (with_reducible refine (HX.out _).mono ?_; rintro e w' ⟨rfl, rfl⟩)
      | fail)
    refine post_val ?_ rfl ((Ch.refl [] _).alloc _)
    simp [results, Tryd.f51, go_sem]
theorem used4 {op p : Int} (b1 : Bool) (h1 : (op == 72) = b1) (HX : Hid (∀ w, Calls Tryd.prog 75 #[.int .i64 op] w fun e w' => e = .returned (.int .i64 p) ∧ w' = w)) (HY : Hid (∀ w, Calls Tryd.prog 52 #[.int .i64 op] w fun e w' => e = .returned (.int .i64 4) ∧ w' = w)) (w : World) :
    Calls Tryd.prog 51 #[.int .i64 op] w fun e w' => e = .returned (.agg #[.bool (false), .bool (false), .bool (false), .bool (b1)]) ∧ Ch [] w w' := by
  cases b1
  all_goals
    go_enter Tryd.func51, Tryd.ntmps51
    go_wp2_with (first
      | (with_reducible refine (HY.out _).mono ?_; rintro e w' ⟨rfl, rfl⟩)
      | (with_reducible refine (HX.out _).mono ?_; rintro e w' ⟨rfl, rfl⟩)
      | fail)
    refine post_val ?_ rfl ((Ch.refl [] _).alloc _)
    simp [results, Tryd.f51, go_sem]
theorem used0 {op p : Int} (b1 : Bool) (h1 : (op == 72) = b1) (HX : Hid (∀ w, Calls Tryd.prog 75 #[.int .i64 op] w fun e w' => e = .returned (.int .i64 p) ∧ w' = w)) (HY : Hid (∀ w, Calls Tryd.prog 52 #[.int .i64 op] w fun e w' => e = .returned (.int .i64 0) ∧ w' = w)) (w : World) :
    Calls Tryd.prog 51 #[.int .i64 op] w fun e w' => e = .returned (.agg #[.bool (false), .bool (false), .bool (false), .bool (b1)]) ∧ Ch [] w w' := by
  cases b1
  all_goals
    go_enter Tryd.func51, Tryd.ntmps51
    go_wp2_with (first
      | (with_reducible refine (HY.out _).mono ?_; rintro e w' ⟨rfl, rfl⟩)
      | (with_reducible refine (HX.out _).mono ?_; rintro e w' ⟨rfl, rfl⟩)
      | fail)
    refine post_val ?_ rfl ((Ch.refl [] _).alloc _)
    simp [results, Tryd.f51, go_sem]

theorem used_any {op : Int} (h0 : -9223372036854775808 ≤ op) (h1 : op ≤ 9223372036854775807) (w : World) :
    Calls Tryd.prog 51 #[.int .i64 op] w fun e w' => e = .returned (.agg #[.bool (has (shp op) 100), .bool (has (shp op) 115), .bool (has (shp op) 111), .bool (has (shp op) 105)]) ∧ Ch [] w w' := by
  have HX := Lib.hid (fun w => plain_any h0 h1 w)
  have HY := Lib.hid (fun w => class_any h0 h1 w)
  rcases cls_cases op with h | h | h | h | h
  · rw [h] at HY
    simp only [uses_none h]
    have h72 : (op == 72) = false := by rw [beq_eq_false_iff_ne]; rintro rfl; simp [cls] at h
    exact used0 false h72 HX HY w
  · rw [h] at HY
    obtain ⟨e1, e2, e3, e4⟩ := uses_alu h
    rw [e1, e2, e3, e4]
    exact used1 _ _ rfl rfl HX HY w
  · rw [h] at HY
    obtain ⟨e1, e2, e3, e4⟩ := uses_jump h
    rw [e1, e2, e3, e4]
    exact used2 _ _ rfl rfl HX HY w
  · rw [h] at HY
    obtain ⟨e1, e2, e3, e4⟩ := uses_mem h
    rw [e1, e2, e3, e4]
    exact used3 _ _ rfl rfl HX HY w
  · rw [h] at HY
    obtain ⟨e1, e2, e3, e4⟩ := uses_flow h
    rw [e1, e2, e3, e4]
    exact used4 _ rfl HX HY w
end Go.Proofs.YtpbdmlipdfdblaaDoor

namespace Go.Proofs.YtpbdmlipdfdblaaDoor
open Go.RowKit Go.BigFrame

attribute [local go_sem] Oper.semAt_some

/-- An instruction as a value; its numbers fit. -/
def iv (x : I5) : Value := .agg #[.int .i64 x.op, .int .i64 x.d, .int .i64 x.s, .int .i64 x.o, .int .i64 x.i]
def fit (n : Int) : Prop := -9223372036854775808 ≤ n ∧ n ≤ 9223372036854775807
structure Fit (x : I5) : Prop where
  op : fit x.op
  d : fit x.d
  s : fit x.s
  o : fit x.o
  i : fit x.i

set_option maxHeartbeats 4000000 in
theorem with_any (a b c d p q r s : Bool) (w : World) :
    Calls Tryd.prog 54 #[.agg #[.bool a, .bool b, .bool c, .bool d], .agg #[.bool p, .bool q, .bool r, .bool s]] w fun e w' => e = .returned (.agg #[.bool (a || p), .bool (b || q), .bool (c || r), .bool (d || s)]) ∧ Ch [] w w' := by
  cases a <;> cases b <;> cases c <;> cases d
  all_goals
    go_enter Tryd.func54, Tryd.ntmps54
    go_wp2
    refine post_val ?_ rfl ((((Ch.refl [] _).alloc _).alloc _).alloc _)
    simp [results, Tryd.f54, go_sem]

theorem filled_any (op d s o i : Int) (w : World) :
    Calls Tryd.prog 55 #[.agg #[.int .i64 op, .int .i64 d, .int .i64 s, .int .i64 o, .int .i64 i]] w fun e w' => e = .returned (.agg #[.bool (d != 0), .bool (s != 0), .bool (o != 0), .bool (i != 0)]) ∧ Ch [] w w' := by
  obtain ⟨b1, h1⟩ : ∃ b, (d != 0) = b := ⟨_, rfl⟩
  obtain ⟨b2, h2⟩ : ∃ b, (s != 0) = b := ⟨_, rfl⟩
  obtain ⟨b3, h3⟩ : ∃ b, (o != 0) = b := ⟨_, rfl⟩
  obtain ⟨b4, h4⟩ : ∃ b, (i != 0) = b := ⟨_, rfl⟩
  rw [h1, h2, h3, h4]
  go_enter Tryd.func55, Tryd.ntmps55
  go_wp2
  refine post_val ?_ rfl (((Ch.refl [] _).alloc _).alloc _)
  simp [results, Tryd.f55, go_sem]

theorem bounded_any (op d s o i : Int) (w : World) :
    Calls Tryd.prog 53 #[.agg #[.int .i64 op, .int .i64 d, .int .i64 s, .int .i64 o, .int .i64 i]] w fun e w' => e = .returned (.bool (decide (inB ⟨op, d, s, o, i⟩))) ∧ Ch [] w w' := by
  obtain ⟨b1, h1⟩ : ∃ b, (decide (0 ≤ d) && decide (d ≤ 9)) = b := ⟨_, rfl⟩
  obtain ⟨b2, h2⟩ : ∃ b, (decide (0 ≤ s) && decide (s ≤ 9)) = b := ⟨_, rfl⟩
  obtain ⟨b3, h3⟩ : ∃ b, (decide (-32768 ≤ o) && decide (o ≤ 32767)) = b := ⟨_, rfl⟩
  obtain ⟨b4, h4⟩ : ∃ b, (decide (-2147483648 ≤ i) && decide (i ≤ 2147483647)) = b := ⟨_, rfl⟩
  have hR : decide (inB ⟨op, d, s, o, i⟩) = (b1 && b2 && b3 && b4) := by
    rw [← h1, ← h2, ← h3, ← h4]
    rw [Bool.eq_iff_iff, decide_eq_true_iff]
    simp [inB, and_assoc]
  rw [hR]
  have H1 := Lib.hid (fun w => within_any d 0 9 w)
  have H2 := Lib.hid (fun w => within_any s 0 9 w)
  have H3 := Lib.hid (fun w => within_any o (-32768) 32767 w)
  have H4 := Lib.hid (fun w => within_any i (-2147483648) 2147483647 w)
  rw [h1] at H1
  rw [h2] at H2
  rw [h3] at H3
  rw [h4] at H4
  clear h1 h2 h3 h4 hR
  cases b1 <;> cases b2 <;> cases b3 <;> cases b4
  all_goals
    go_enter Tryd.func53, Tryd.ntmps53
    go_wp2_with (first
      | (with_reducible refine (H1.out _).mono ?_; rintro e w' ⟨rfl, rfl⟩)
      | (with_reducible refine (H2.out _).mono ?_; rintro e w' ⟨rfl, rfl⟩)
      | (with_reducible refine (H3.out _).mono ?_; rintro e w' ⟨rfl, rfl⟩)
      | (with_reducible refine (H4.out _).mono ?_; rintro e w' ⟨rfl, rfl⟩)
      | fail)
    go_ret
    exact ⟨rfl, (Ch.refl [] _).alloc _⟩

end Go.Proofs.YtpbdmlipdfdblaaDoor

namespace Go.Proofs.YtpbdmlipdfdblaaDoor
open Go.RowKit Go.BigFrame

attribute [local go_sem] Oper.semAt_some

/-- Five cells of a block. -/
structure Five (w : World) (b : Nat) (x : I5) : Prop where
  c0 : w.cell? ⟨b, 0, none⟩ = some (.int .i64 x.op)
  c1 : w.cell? ⟨b, 1, none⟩ = some (.int .i64 x.d)
  c2 : w.cell? ⟨b, 2, none⟩ = some (.int .i64 x.s)
  c3 : w.cell? ⟨b, 3, none⟩ = some (.int .i64 x.o)
  c4 : w.cell? ⟨b, 4, none⟩ = some (.int .i64 x.i)
theorem Five.new (w : World) (x : I5) (t : TypeId) : Five (w.alloc (.cells #[.int .i64 x.op, .int .i64 x.d, .int .i64 x.s, .int .i64 x.o, .int .i64 x.i] t)) w.heap.size x :=
  ⟨by rw [World.cell?_alloc_at _ _ _ _ rfl]; rfl, by rw [World.cell?_alloc_at _ _ _ _ rfl]; rfl, by rw [World.cell?_alloc_at _ _ _ _ rfl]; rfl, by rw [World.cell?_alloc_at _ _ _ _ rfl]; rfl, by rw [World.cell?_alloc_at _ _ _ _ rfl]; rfl⟩
theorem Five.lt {w : World} {b : Nat} {x : I5} (h : Five w b x) : b < w.heap.size := cell_lt h.c0
theorem Five.ch {S : List Nat} {w w' : World} {b : Nat} {x : I5} (h : Five w b x) (hc : Ch S w w') (hb : b ∉ S) : Five w' b x :=
  ⟨(hc.cell (p := ⟨b, 0, none⟩) h.lt hb).trans h.c0, (hc.cell (p := ⟨b, 1, none⟩) h.lt hb).trans h.c1, (hc.cell (p := ⟨b, 2, none⟩) h.lt hb).trans h.c2, (hc.cell (p := ⟨b, 3, none⟩) h.lt hb).trans h.c3, (hc.cell (p := ⟨b, 4, none⟩) h.lt hb).trans h.c4⟩
/-- Four booleans in a block. -/
structure Bo4 (w : World) (b : Nat) (p q r s : Bool) : Prop where
  c0 : w.cell? ⟨b, 0, none⟩ = some (.bool p)
  c1 : w.cell? ⟨b, 1, none⟩ = some (.bool q)
  c2 : w.cell? ⟨b, 2, none⟩ = some (.bool r)
  c3 : w.cell? ⟨b, 3, none⟩ = some (.bool s)
theorem Bo4.new (w : World) (p q r s : Bool) (t : TypeId) : Bo4 (w.alloc (.cells #[.bool p, .bool q, .bool r, .bool s] t)) w.heap.size p q r s :=
  ⟨by rw [World.cell?_alloc_at _ _ _ _ rfl]; rfl, by rw [World.cell?_alloc_at _ _ _ _ rfl]; rfl, by rw [World.cell?_alloc_at _ _ _ _ rfl]; rfl, by rw [World.cell?_alloc_at _ _ _ _ rfl]; rfl⟩
theorem Bo4.lt {w : World} {b : Nat} {p q r s : Bool} (h : Bo4 w b p q r s) : b < w.heap.size := cell_lt h.c0
theorem Bo4.ch {S : List Nat} {w w' : World} {b : Nat} {p q r s : Bool} (h : Bo4 w b p q r s) (hc : Ch S w w') (hb : b ∉ S) : Bo4 w' b p q r s :=
  ⟨(hc.cell (p := ⟨b, 0, none⟩) h.lt hb).trans h.c0, (hc.cell (p := ⟨b, 1, none⟩) h.lt hb).trans h.c1, (hc.cell (p := ⟨b, 2, none⟩) h.lt hb).trans h.c2, (hc.cell (p := ⟨b, 3, none⟩) h.lt hb).trans h.c3⟩

/-- What it doesn't use is 0, as the program asks it. -/
theorem form_bools (x : I5) : decide (form x) = ((has (shp x.op) 100 || x.d != 0) == has (shp x.op) 100 && (has (shp x.op) 115 || x.s != 0) == has (shp x.op) 115 && (has (shp x.op) 111 || x.o != 0) == has (shp x.op) 111 && (has (shp x.op) 105 || x.i != 0) == has (shp x.op) 105) := by
  rw [Bool.eq_iff_iff, decide_eq_true_iff]
  unfold form
  cases has (shp x.op) 100 <;> cases has (shp x.op) 115 <;> cases has (shp x.op) 111 <;> cases has (shp x.op) 105 <;> simp [and_assoc]


theorem eq_parts (p q r s a b c d : Bool) (w : World) : (binOp .neq 110 (.agg #[.bool p, .bool q, .bool r, .bool s]) (.agg #[.bool a, .bool b, .bool c, .bool d])).run Tryd.prog w = .ok (.bool (!(p == a && q == b && r == c && s == d))) w := by
  have ht : Tryd.prog.underlying 110 = some (.struct (Tryd.prog.fieldsOf 110)) := by kernel_rfl
  have hp : Tryd.prog.stoodInHeld 110 = false := by kernel_rfl
  rw [run_neq_struct, run_equalIn_struct (d := 9999) w 110 _ _ ht hp]
  have e4 : Tryd.prog.underlying 4 = some .bool := Tryd.underlying4
  cases h1 : p == a <;> cases h2 : q == b <;> cases h3 : r == c <;> cases h4 : s == d <;>
  simp [Program.fieldsOf, Tryd.underlying110, go_sem, Op.eqFields, run_equalIn_bool' (P := Tryd.prog) _ _ _ _ _ e4, h1, h2, h3, h4]

theorem check_none {x : I5} (hx : Fit x) (h : cls x.op = 0) (w : World) : Calls Tryd.prog 33 #[iv x] w fun e w' => e = .returned (.int .i64 11) ∧ Ch [] w w' := by
  obtain ⟨op, d, s, o, i⟩ := x
  have HU := Lib.hid (fun w => used_any hx.op.1 hx.op.2 w)
  have HY := Lib.hid (fun w => class_any hx.op.1 hx.op.2 w)
  have HBd := Lib.hid (fun w => bounded_any op d s o i w)
  have HF := Lib.hid (Five.new w ⟨op, d, s, o, i⟩ 59)
  have HC := Lib.hid ((Ch.refl [] w).alloc (.cells #[.int .i64 op, .int .i64 d, .int .i64 s, .int .i64 o, .int .i64 i] 59))
  simp only at *
  unfold iv
  rw [h] at HY
  generalize has (shp op) 100 = u1 at *
  generalize has (shp op) 115 = u2 at *
  generalize has (shp op) 111 = u3 at *
  generalize has (shp op) 105 = u4 at *
  clear h hx HBd
  go_enter Tryd.func33, Tryd.ntmps33
  go_wp2_with fail
  with_reducible refine (HU.out _).mono ?_
  rintro e w1 ⟨rfl, hc1⟩
  have HF1 := Lib.hid ((HF.out.ch hc1 (by simp)).ch ((Ch.refl [] w1).alloc (.cells #[.bool u1, .bool u2, .bool u3, .bool u4] 110)) (by simp))
  have HB1 := Lib.hid (Bo4.new w1 u1 u2 u3 u4 110)
  have HC1 := Lib.hid ((HC.out.trans hc1).alloc (.cells #[.bool u1, .bool u2, .bool u3, .bool u4] 110))
  clear hc1
  obtain ⟨a0, a1, a2, a3, a4⟩ := HF1.out
  simp only at a0 a1 a2 a3 a4
  go_wp2_with (first
    | (with_reducible refine (HY.out _).mono ?_; rintro e w' ⟨rfl, rfl⟩)
    | fail)
  go_ret
  exact ⟨rfl, HC1.out⟩

theorem check_out {x : I5} (hx : Fit x) (h : cls x.op ≠ 0) (hb : decide (inB x) = false) (w : World) : Calls Tryd.prog 33 #[iv x] w fun e w' => e = .returned (.int .i64 2) ∧ Ch [] w w' := by
  obtain ⟨op, d, s, o, i⟩ := x
  have HU := Lib.hid (fun w => used_any hx.op.1 hx.op.2 w)
  have HY := Lib.hid (fun w => class_any hx.op.1 hx.op.2 w)
  have HBd := Lib.hid (fun w => bounded_any op d s o i w)
  have HF := Lib.hid (Five.new w ⟨op, d, s, o, i⟩ 59)
  have HC := Lib.hid ((Ch.refl [] w).alloc (.cells #[.int .i64 op, .int .i64 d, .int .i64 s, .int .i64 o, .int .i64 i] 59))
  simp only at *
  unfold iv
  rw [hb] at HBd
  have hcb : (cls op == 0) = false := by simpa using h
  generalize has (shp op) 100 = u1 at *
  generalize has (shp op) 115 = u2 at *
  generalize has (shp op) 111 = u3 at *
  generalize has (shp op) 105 = u4 at *
  generalize cls op = c at *
  clear h hx hb
  go_enter Tryd.func33, Tryd.ntmps33
  go_wp2_with fail
  with_reducible refine (HU.out _).mono ?_
  rintro e w1 ⟨rfl, hc1⟩
  have HF1 := Lib.hid ((HF.out.ch hc1 (by simp)).ch ((Ch.refl [] w1).alloc (.cells #[.bool u1, .bool u2, .bool u3, .bool u4] 110)) (by simp))
  have HB1 := Lib.hid (Bo4.new w1 u1 u2 u3 u4 110)
  have HC1 := Lib.hid ((HC.out.trans hc1).alloc (.cells #[.bool u1, .bool u2, .bool u3, .bool u4] 110))
  clear hc1
  obtain ⟨a0, a1, a2, a3, a4⟩ := HF1.out
  simp only at a0 a1 a2 a3 a4
  go_wp2_with (first
    | (with_reducible refine (HY.out _).mono ?_; rintro e w' ⟨rfl, rfl⟩)
    | (with_reducible refine (HBd.out _).mono ?_; rintro e w2 ⟨rfl, hc2⟩; have HC2 := Lib.hid (HC1.out.trans hc2); clear hc2)
    | fail)
  go_ret
  exact ⟨rfl, HC2.out⟩

set_option maxHeartbeats 2000000 in
theorem check_form {x : I5} (hx : Fit x) (h : cls x.op ≠ 0) (hb : decide (inB x) = true) (w : World) : Calls Tryd.prog 33 #[iv x] w fun e w' => e = .returned (.int .i64 (if form x then 0 else 9)) ∧ Ch [] w w' := by
  have hfb := form_bools x
  obtain ⟨op, d, s, o, i⟩ := x
  have HU := Lib.hid (fun w => used_any hx.op.1 hx.op.2 w)
  have HY := Lib.hid (fun w => class_any hx.op.1 hx.op.2 w)
  have HBd := Lib.hid (fun w => bounded_any op d s o i w)
  have HF := Lib.hid (Five.new w ⟨op, d, s, o, i⟩ 59)
  have HC := Lib.hid ((Ch.refl [] w).alloc (.cells #[.int .i64 op, .int .i64 d, .int .i64 s, .int .i64 o, .int .i64 i] 59))
  simp only at *
  unfold iv
  rw [hb] at HBd
  have hcb : (cls op == 0) = false := by simpa using h
  have HFi := Lib.hid (fun w => filled_any op d s o i w)
  obtain ⟨r, hr⟩ : ∃ r, (if form ⟨op, d, s, o, i⟩ then (0 : Int) else 9) = r := ⟨_, rfl⟩
  rw [hr]
  obtain ⟨b, hbf⟩ : ∃ b, decide (form ⟨op, d, s, o, i⟩) = b := ⟨_, rfl⟩
  have hrb : r = if b = true then 0 else 9 := by rw [← hr, ← hbf]; simp
  rw [hbf] at hfb
  clear hr hbf
  generalize has (shp op) 100 = u1 at *
  generalize has (shp op) 115 = u2 at *
  generalize has (shp op) 111 = u3 at *
  generalize has (shp op) 105 = u4 at *
  generalize cls op = c at *
  obtain ⟨b1, h1⟩ : ∃ b, (d != 0) = b := ⟨_, rfl⟩
  obtain ⟨b2, h2⟩ : ∃ b, (s != 0) = b := ⟨_, rfl⟩
  obtain ⟨b3, h3⟩ : ∃ b, (o != 0) = b := ⟨_, rfl⟩
  obtain ⟨b4, h4⟩ : ∃ b, (i != 0) = b := ⟨_, rfl⟩
  rw [h1, h2, h3, h4] at HFi hfb
  have HW := Lib.hid (fun w => with_any u1 u2 u3 u4 b1 b2 b3 b4 w)
  have HN := Lib.hid (fun w => eq_parts (u1 || b1) (u2 || b2) (u3 || b3) (u4 || b4) u1 u2 u3 u4 w)
  rw [← hfb] at HN
  clear h1 h2 h3 h4 hfb
  obtain ⟨v1, e1⟩ : ∃ v, (u1 || b1) = v := ⟨_, rfl⟩
  obtain ⟨v2, e2⟩ : ∃ v, (u2 || b2) = v := ⟨_, rfl⟩
  obtain ⟨v3, e3⟩ : ∃ v, (u3 || b3) = v := ⟨_, rfl⟩
  obtain ⟨v4, e4⟩ : ∃ v, (u4 || b4) = v := ⟨_, rfl⟩
  rw [e1, e2, e3, e4] at HW HN
  clear e1 e2 e3 e4 h hx hb
  go_enter Tryd.func33, Tryd.ntmps33
  go_wp2_with fail
  with_reducible refine (HU.out _).mono ?_
  rintro e w1 ⟨rfl, hc1⟩
  have HF1 := Lib.hid ((HF.out.ch hc1 (by simp)).ch ((Ch.refl [] w1).alloc (.cells #[.bool u1, .bool u2, .bool u3, .bool u4] 110)) (by simp))
  have HB1 := Lib.hid (Bo4.new w1 u1 u2 u3 u4 110)
  have HC1 := Lib.hid ((HC.out.trans hc1).alloc (.cells #[.bool u1, .bool u2, .bool u3, .bool u4] 110))
  clear hc1
  obtain ⟨w2, hw2⟩ : ∃ w2, w1.alloc (.cells #[.bool u1, .bool u2, .bool u3, .bool u4] 110) = w2 := ⟨_, rfl⟩
  rw [hw2] at HF1 HB1 HC1
  have HWn := Lib.hid hw2
  obtain ⟨a0, a1, a2, a3, a4⟩ := HF1.out
  simp only at a0 a1 a2 a3 a4
  rw [← hw2] at a0 a1 a2 a3 a4
  clear hw2
  go_wp2_with (first
    | (with_reducible refine (HY.out _).mono ?_; rintro e w' ⟨rfl, rfl⟩)
    | fail)
  rw [HWn.out] at a0 a1 a2 a3 a4 ⊢
  with_reducible refine (HBd.out _).mono ?_
  rintro e w3 ⟨rfl, hc3⟩
  have HF3 := Lib.hid (HF1.out.ch hc3 (by simp))
  have HB3 := Lib.hid (HB1.out.ch hc3 (by simp))
  have HC3 := Lib.hid (HC1.out.trans hc3)
  clear hc3 a0 a1 a2 a3 a4
  obtain ⟨G, f', hf1, hf2⟩ := worlds_of w3
  have hx0 : ∀ g : G, (f' g).cell? ⟨w.heap.size, 0, none⟩ = some (.int .i64 op) := fun g => (HF3.out.ch (hf1 g) (by simp)).c0
  have hx1 : ∀ g : G, (f' g).cell? ⟨w.heap.size, 1, none⟩ = some (.int .i64 d) := fun g => (HF3.out.ch (hf1 g) (by simp)).c1
  have hx2 : ∀ g : G, (f' g).cell? ⟨w.heap.size, 2, none⟩ = some (.int .i64 s) := fun g => (HF3.out.ch (hf1 g) (by simp)).c2
  have hx3 : ∀ g : G, (f' g).cell? ⟨w.heap.size, 3, none⟩ = some (.int .i64 o) := fun g => (HF3.out.ch (hf1 g) (by simp)).c3
  have hx4 : ∀ g : G, (f' g).cell? ⟨w.heap.size, 4, none⟩ = some (.int .i64 i) := fun g => (HF3.out.ch (hf1 g) (by simp)).c4
  have hy0 : ∀ g : G, (f' g).cell? ⟨w1.heap.size, 0, none⟩ = some (.bool u1) := fun g => (HB3.out.ch (hf1 g) (by simp)).c0
  have hy1 : ∀ g : G, (f' g).cell? ⟨w1.heap.size, 1, none⟩ = some (.bool u2) := fun g => (HB3.out.ch (hf1 g) (by simp)).c1
  have hy2 : ∀ g : G, (f' g).cell? ⟨w1.heap.size, 2, none⟩ = some (.bool u3) := fun g => (HB3.out.ch (hf1 g) (by simp)).c2
  have hy3 : ∀ g : G, (f' g).cell? ⟨w1.heap.size, 3, none⟩ = some (.bool u4) := fun g => (HB3.out.ch (hf1 g) (by simp)).c3
  have hne : Nonempty G := ⟨(hf2 w3 (Ch.refl _ _)).choose⟩
  have HX1 := Lib.hid hf1
  have HX2 := Lib.hid hf2
  have HQ := Ch.refl [] w3
  have hn := HN.out
  clear hf1 hf2
  go_wp2_with fail
  refine wp_region_worlds f' (by kernel_rfl) (by kernel_rfl) (HX2.out _ HQ.drew) ?_
  repeat (go_big_quiet_step (first
    | (with_reducible refine (HFi.out _).mono ?_; rintro r w' ⟨rfl, hcw⟩; exact ⟨rfl, HX2.out w' ((HX1.out _).trans hcw)⟩)
    | (with_reducible refine (HW.out _).mono ?_; rintro r w' ⟨rfl, hcw⟩; exact ⟨rfl, HX2.out w' ((HX1.out _).trans hcw)⟩)))
  refine wpQuiet_nil ?_
  rintro _ ⟨gz, rfl⟩
  have HZ := Lib.hid (HC3.out.trans (HX1.out gz))
  generalize f' gz = wz at *
  clear hx0 hx1 hx2 hx3 hx4 hy0 hy1 hy2 hy3 hne HQ hn
  cases b
  · go_wp2
    go_ret
    exact ⟨by first | rfl | (rw [hrb]; rfl), HZ.out⟩
  · go_wp2
    go_ret
    exact ⟨by first | rfl | (rw [hrb]; rfl), HZ.out⟩

theorem check_any {x : I5} (hx : Fit x) (w : World) : Calls Tryd.prog 33 #[iv x] w fun e w' => e = .returned (.int .i64 (chk x)) ∧ Ch [] w w' := by
  by_cases h : cls x.op = 0
  · have hc : chk x = 11 := by unfold chk; rw [if_pos h]
    rw [hc]; exact check_none hx h w
  · by_cases hb : inB x
    · have hc : chk x = if form x then 0 else 9 := by
        unfold chk; rw [if_neg h, if_neg (by simpa using hb)]
        by_cases hf : form x <;> simp [hf]
      rw [hc]; exact check_form hx h (decide_eq_true hb) w
    · have hc : chk x = 2 := by unfold chk; rw [if_neg h, if_pos hb]
      rw [hc]; exact check_out hx h (decide_eq_false hb) w
end Go.Proofs.YtpbdmlipdfdblaaDoor

namespace Go.Proofs.YtpbdmlipdfdblaaDoor
open Go.RowKit

/-- Instructions in memory: five cells each. -/
def fiv (x : I5) : List Value := [.int .i64 x.op, .int .i64 x.d, .int .i64 x.s, .int .i64 x.o, .int .i64 x.i]
structure FiveO (w : World) (b o : Nat) (x : I5) : Prop where
  c0 : w.cell? ⟨b, o, none⟩ = some (.int .i64 x.op)
  c1 : w.cell? ⟨b, o + 1, none⟩ = some (.int .i64 x.d)
  c2 : w.cell? ⟨b, o + 2, none⟩ = some (.int .i64 x.s)
  c3 : w.cell? ⟨b, o + 3, none⟩ = some (.int .i64 x.o)
  c4 : w.cell? ⟨b, o + 4, none⟩ = some (.int .i64 x.i)
theorem FiveO.ch {S : List Nat} {w w' : World} {b o : Nat} {x : I5} (h : FiveO w b o x) (hc : Ch S w w') (hb : b ∉ S) : FiveO w' b o x :=
  have hl := cell_lt h.c0
  ⟨(hc.cell (p := ⟨b, o, none⟩) hl hb).trans h.c0, (hc.cell (p := ⟨b, o + 1, none⟩) hl hb).trans h.c1, (hc.cell (p := ⟨b, o + 2, none⟩) hl hb).trans h.c2, (hc.cell (p := ⟨b, o + 3, none⟩) hl hb).trans h.c3, (hc.cell (p := ⟨b, o + 4, none⟩) hl hb).trans h.c4⟩
def InsAt (w : World) (a : Option Addr) (L : List I5) : Prop := L = [] ∨ ∃ b off, a = some ⟨b, off, none⟩ ∧ ∀ i (hi : i < L.length), FiveO w b (off + i * 5) L[i]
theorem InsAt.ch {w w' : World} {S : List Nat} {a : Option Addr} {L : List I5} (h : InsAt w a L) (hc : Ch S w w') (hS : ∀ y, a = some y → y.block ∉ S) : InsAt w' a L := by
  rcases h with rfl | ⟨b, off, rfl, hk⟩
  · exact .inl rfl
  · exact .inr ⟨b, off, rfl, fun i hi => (hk i hi).ch hc (hS ⟨b, off, none⟩ rfl)⟩
end Go.Proofs.YtpbdmlipdfdblaaDoor

namespace Go.Proofs.YtpbdmlipdfdblaaDoor
open Go.RowKit

theorem own_new {w w' : World} {a : World} {lo e s m : Nat} {v : Value} {ys : List Value} (h : Ch [] a w) (hg : w.grownBy w' v.ownBlock) (hlo : a.heap.size ≤ lo) (hv : w.ownsRow lo e s v m ys) : Ch [] a w' := by
  refine h.kept hg (fun r hr => ?_)
  rcases hv.2 with ⟨rfl, _⟩ | ⟨g, cap, cur, rfl, hb, _⟩
  · simp [Value.ownBlock] at hr
  · have : g = r := by simpa [Value.ownBlock] using hr
    omega

/-- Instructions of the call's own. -/
def IR (w : World) (lo T : Nat) (v : Value) (L : List I5) : Prop := w.ownsRow lo T 5 v L.length (L.flatMap fiv)
theorem fivs_len (L : List I5) : (L.flatMap fiv).length = L.length * 5 := by
  induction L with
  | nil => rfl
  | cons x l ih => simp [fiv] at ih ⊢; omega
theorem fivs_at (L : List I5) (k : Nat) (hk : k < L.length) : (L.flatMap fiv)[k * 5]? = some (.int .i64 L[k].op) ∧ (L.flatMap fiv)[k * 5 + 1]? = some (.int .i64 L[k].d) ∧ (L.flatMap fiv)[k * 5 + 2]? = some (.int .i64 L[k].s) ∧ (L.flatMap fiv)[k * 5 + 3]? = some (.int .i64 L[k].o) ∧ (L.flatMap fiv)[k * 5 + 4]? = some (.int .i64 L[k].i) := by
  induction L generalizing k with
  | nil => simp at hk
  | cons x l ih =>
    cases k with
    | zero => simp [fiv]
    | succ k =>
      have h := ih k (by simpa using hk)
      rw [List.flatMap_cons]
      have e : ∀ j, (fiv x ++ l.flatMap fiv)[(k + 1) * 5 + j]? = (l.flatMap fiv)[k * 5 + j]? := fun j => by
        rw [List.getElem?_append_right (by simp [fiv]; omega)]
        congr 1
        simp [fiv]; omega
      have e0 := e 0
      rw [Nat.add_zero, Nat.add_zero] at e0
      rw [e0, e 1, e 2, e 3, e 4]
      exact h
theorem IR.form {w : World} {lo T : Nat} {v : Value} {L : List I5} (h : IR w lo T v L) : ∃ a cap, v = .slice a L.length cap ∧ InsAt w a L ∧ ∀ y, a = some y → lo ≤ y.block ∧ y.block < w.heap.size := by
  unfold IR at h
  by_cases h0 : L = []
  · subst h0
    rcases h.2 with ⟨rfl, _⟩ | ⟨g, cp, cur, rfl, hb, hg, _⟩
    · exact ⟨none, 0, rfl, .inl rfl, by simp⟩
    · refine ⟨some ⟨g, 0, none⟩, cp, rfl, .inl rfl, fun y e => ?_⟩
      cases e
      exact ⟨hb, (Array.getElem?_eq_some_iff.1 hg).1⟩
  · have hl : 0 < L.length := List.length_pos_iff.2 h0
    obtain ⟨a, cap, rfl⟩ := own_form h
    obtain ⟨g, rfl, hb, hs, _, hc⟩ := own_cells h 0 (by omega)
    refine ⟨some ⟨g, 0, none⟩, cap, rfl, .inr ⟨g, 0, rfl, fun i hi => ?_⟩, fun y e => by cases e; exact ⟨hb, hs⟩⟩
    rw [Nat.zero_add]
    obtain ⟨k0, k1, k2, k3, k4⟩ := fivs_at L i hi
    exact ⟨(hc _ (by omega)).trans k0, (hc _ (by omega)).trans k1, (hc _ (by omega)).trans k2, (hc _ (by omega)).trans k3, (hc _ (by omega)).trans k4⟩
theorem IR.nil (w : World) (lo T : Nat) : IR w lo T (.slice none 0 0) [] := World.ownsRow_nil _ _ _ _
theorem IR.ch {w w' : World} {S : List Nat} {lo T : Nat} {v : Value} {L : List I5} (h : IR w lo T v L) (hc : Ch S w w') (hS : ∀ k ∈ S, k < lo) : IR w' lo T v L := own_ch h hc hS
theorem IR.snoc {w : World} {lo T : Nat} {v : Value} {L : List I5} {x : I5} (h : w.ownsRow lo T 5 v (L.length + 1) (L.flatMap fiv ++ fiv x)) : IR w lo T v (L ++ [x]) := by
  unfold IR
  simpa using h
theorem cells_five (w : World) (x : I5) (t : TypeId) : ∀ j u, (fiv x)[j]? = some u → (w.alloc (.cells #[.int .i64 x.op, .int .i64 x.d, .int .i64 x.s, .int .i64 x.o, .int .i64 x.i] t)).cell? ((⟨w.heap.size, 0, none⟩ : Addr).add j) = some u := by
  intro j u hj
  rw [addr_add, Nat.zero_add, World.cell?_alloc_at _ _ _ _ rfl]
  unfold fiv at hj
  match j, hj with
  | 0, hj => simpa using hj
  | 1, hj => simpa using hj
  | 2, hj => simpa using hj
  | 3, hj => simpa using hj
  | 4, hj => simpa using hj

end Go.Proofs.YtpbdmlipdfdblaaDoor

namespace Go.Proofs.YtpbdmlipdfdblaaDoor
open Go.RowKit

attribute [local go_sem] Oper.semAt_some

theorem to_any (x : I5) (w : World) : Calls Tryd.prog 28 #[iv x] w fun e w' => e = .returned (iv x) ∧ Ch [] w w' := by
  obtain ⟨op, d, s, o, i⟩ := x
  have HF := Lib.hid (Five.new w ⟨op, d, s, o, i⟩ 80)
  have HB := Lib.hid ((Ch.refl [] w).alloc (.cells #[.int .i64 op, .int .i64 d, .int .i64 s, .int .i64 o, .int .i64 i] 80))
  have HF2 := Lib.hid (HF.out.ch ((Ch.refl [] _).alloc (.cells #[.int .i64 0, .int .i64 0, .int .i64 0, .int .i64 0, .int .i64 0] 59)) (by simp))
  obtain ⟨a0, a1, a2, a3, a4⟩ := HF2.out
  simp only at a0 a1 a2 a3 a4
  unfold iv
  go_enter Tryd.func28, Tryd.ntmps28
  go_wp2
  refine post_val ?_ rfl (HB.out.alloc _)
  simp [results, Tryd.f28, go_sem]
theorem fit_of {n : Int} (h0 : -1000000 ≤ n) (h1 : n ≤ 1000000) : fit n := ⟨by omega, by omega⟩
end Go.Proofs.YtpbdmlipdfdblaaDoor
