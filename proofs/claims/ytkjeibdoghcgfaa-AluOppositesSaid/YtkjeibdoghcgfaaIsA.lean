/-
  Plain: what each operation is (by tables of 74).
-/
import Derived.Test.YtkjeibdoghcgfaaBase
namespace Go.Proofs.Ytkjeibdoghcgfaa

/-- The names by operations; the shapes of texts (100 the first register, 115 the second, 111 the offset, 105 the number). -/
def nmT : List (List UInt8) := [[97, 100, 100], [115, 117, 98], [109, 117, 108], [100, 105, 118], [109, 111, 100], [97, 110, 100], [111, 114], [120, 111, 114], [108, 115, 104], [114, 115, 104], [97, 114, 115, 104], [109, 111, 118], [110, 101, 103], [], [], [], [97, 100, 100], [115, 117, 98], [109, 117, 108], [100, 105, 118], [109, 111, 100], [97, 110, 100], [111, 114], [120, 111, 114], [108, 115, 104], [114, 115, 104], [97, 114, 115, 104], [109, 111, 118], [], [], [], [], [106, 97], [106, 101, 113], [106, 110, 101], [106, 103, 116], [106, 103, 101], [106, 108, 116], [106, 108, 101], [106, 115, 101, 116], [106, 115, 103, 116], [106, 115, 108, 116], [], [], [], [], [], [], [], [106, 101, 113], [106, 110, 101], [106, 103, 116], [106, 103, 101], [106, 108, 116], [106, 108, 101], [106, 115, 101, 116], [106, 115, 103, 116], [106, 115, 108, 116], [], [], [], [], [], [], [108, 100, 115, 116], [115, 116, 115, 116], [108, 100, 118], [115, 116, 118], [], [], [], [], [99, 97, 108, 108], [101, 120, 105, 116]]
def shT : List (List UInt8) := [[100, 105], [100, 105], [100, 105], [100, 105], [100, 105], [100, 105], [100, 105], [100, 105], [100, 105], [100, 105], [100, 105], [100, 105], [100], [], [], [], [100, 115], [100, 115], [100, 115], [100, 115], [100, 115], [100, 115], [100, 115], [100, 115], [100, 115], [100, 115], [100, 115], [100, 115], [], [], [], [], [111], [100, 105, 111], [100, 105, 111], [100, 105, 111], [100, 105, 111], [100, 105, 111], [100, 105, 111], [100, 105, 111], [100, 105, 111], [100, 105, 111], [], [], [], [], [], [], [], [100, 115, 111], [100, 115, 111], [100, 115, 111], [100, 115, 111], [100, 115, 111], [100, 115, 111], [100, 115, 111], [100, 115, 111], [100, 115, 111], [], [], [], [], [], [], [100, 111], [111, 115], [100, 115, 111], [100, 111, 115], [], [], [], [], [105], []]

def cls (op : Int) : Int :=
  if (0 ≤ op ∧ op ≤ 12) ∨ (16 ≤ op ∧ op ≤ 27) then 1 else if (32 ≤ op ∧ op ≤ 41) ∨ (49 ≤ op ∧ op ≤ 57) then 2 else if 64 ≤ op ∧ op ≤ 67 then 3 else if op = 72 ∨ op = 73 then 4 else 0
def pl (op : Int) : Int := if (16 ≤ op ∧ op ≤ 27) ∨ (49 ≤ op ∧ op ≤ 57) then op - 16 else op
def nm (op : Int) : List UInt8 := if op < 0 then [] else nmT.getD op.toNat []
def shp (op : Int) : List UInt8 := if op < 0 then [] else shT.getD op.toNat []
theorem all74 {p : Int → Prop} (h : ∀ k : Fin 74, p (k.val : Int)) (op : Int) (h0 : 0 ≤ op) (h1 : op < 74) : p op := by
  have := h ⟨op.toNat, by omega⟩
  simpa [Int.toNat_of_nonneg h0] using this

theorem out_nm {op : Int} (h : op < 0 ∨ 74 ≤ op) : nm op = [] ∧ shp op = [] ∧ cls op = 0 := by
  refine ⟨?_, ?_, ?_⟩
  · unfold nm; split
    · rfl
    · rw [List.getD_eq_getElem?_getD, List.getElem?_eq_none (by show 74 ≤ op.toNat; omega)]; rfl
  · unfold shp; split
    · rfl
    · rw [List.getD_eq_getElem?_getD, List.getElem?_eq_none (by show 74 ≤ op.toNat; omega)]; rfl
  · unfold cls; repeat (first | rw [if_neg (by omega)] | rfl)

theorem none_in : ∀ k : Fin 74, cls (k.val : Int) = 0 → nm (k.val : Int) = [] ∧ shp (k.val : Int) = [] := by decide +kernel
theorem none_of {op : Int} (h : cls op = 0) : nm op = [] ∧ shp op = [] := by
  rcases Int.lt_or_le op 0 with h0 | h0
  · exact ⟨(out_nm (.inl h0)).1, (out_nm (.inl h0)).2.1⟩
  · rcases Int.lt_or_le op 74 with h1 | h1
    · exact all74 (p := fun op => cls op = 0 → nm op = [] ∧ shp op = []) none_in op h0 h1 h
    · exact ⟨(out_nm (.inr h1)).1, (out_nm (.inr h1)).2.1⟩
theorem in74 {op : Int} (h : cls op ≠ 0) : 0 ≤ op ∧ op < 74 := by
  rcases Int.lt_or_le op 0 with h0 | h0
  · exact absurd (out_nm (.inl h0)).2.2 h
  · rcases Int.lt_or_le op 74 with h1 | h1
    · exact ⟨h0, h1⟩
    · exact absurd (out_nm (.inr h1)).2.2 h

open Go.RowKit
theorem cls_pl (op : Int) : cls op = if 0 ≤ pl op ∧ pl op ≤ 12 then 1 else if 32 ≤ pl op ∧ pl op ≤ 41 then 2 else if 64 ≤ pl op ∧ pl op ≤ 67 then 3 else if pl op = 72 ∨ pl op = 73 then 4 else 0 := by
  unfold cls pl
  repeat' split
  all_goals omega

theorem cls_cases (op : Int) : cls op = 0 ∨ cls op = 1 ∨ cls op = 2 ∨ cls op = 3 ∨ cls op = 4 := by
  unfold cls
  repeat' split
  all_goals omega

theorem plain_any {op : Int} (h0 : -9223372036854775808 ≤ op) (h1 : op ≤ 9223372036854775807) (w : World) : Calls Try.prog 24 #[.int .i64 op] w fun e w' => e = .returned (.int .i64 (pl op)) ∧ w' = w := by
  obtain ⟨p, hp⟩ : ∃ p, p = pl op := ⟨_, rfl⟩
  rw [← hp]
  have HP := Lib.hid hp
  have HB := Lib.hid (And.intro h0 h1)
  clear hp h0 h1
  by_cases hr : (16 ≤ op ∧ op ≤ 27) ∨ (49 ≤ op ∧ op ≤ 57)
  · have hw : IntKind.i64.wrap (op - 16) = op - 16 := by rw [IntKind.wrap_i64]; omega
    have HR := Lib.hid hr
    clear hr
    go_enter Try.func24, Try.ntmps24
    go_wp2_with fail
    all_goals
      go_ret
      refine ⟨?_, rfl⟩
      have hr := HR.out
      have hp := HP.out
      unfold pl at hp
      rw [if_pos hr] at hp
      exact congrArg (fun z => Ending.returned (.int .i64 z)) (by omega)
  · have HR := Lib.hid hr
    clear hr
    go_enter Try.func24, Try.ntmps24
    go_wp2_with fail
    all_goals
      go_ret
      refine ⟨?_, rfl⟩
      have hr := HR.out
      have hp := HP.out
      unfold pl at hp
      rw [if_neg hr] at hp
      exact congrArg (fun z => Ending.returned (.int .i64 z)) (by omega)

theorem class_any {op : Int} (h0 : -9223372036854775808 ≤ op) (h1 : op ≤ 9223372036854775807) (w : World) : Calls Try.prog 16 #[.int .i64 op] w fun e w' => e = .returned (.int .i64 (cls op)) ∧ w' = w := by
  have hc := cls_pl op
  have HX := Lib.hid (fun w => plain_any h0 h1 w)
  generalize pl op = p at *
  generalize cls op = c at *
  have HC := Lib.hid hc
  clear hc h0 h1
  go_enter Try.func16, Try.ntmps16
  go_wp2_with (with_reducible refine (HX.out _).mono ?_; rintro e w' ⟨rfl, rfl⟩)
  all_goals
    go_ret
    refine ⟨?_, rfl⟩
    have hc := HC.out
    clear HC HX
    try simp only [beq_iff_eq, beq_eq_false_iff_ne, ne_eq] at *
    exact congrArg (fun z => Ending.returned (.int .i64 z)) (by omega)

/-- The end of a call whose answer is a struct in memory. -/
theorem post_val {P : Program} {fn : Func} {V : Value} {S : List Nat} {w0 w : World} {a : Act} (hr : (results fn a.tmps).run P w = .ok V w) (hd : a.defers = []) (hc : Ch S w0 w) : bodyPost P fn (fun e w' => e = .returned V ∧ Ch S w0 w') .ret a w := bodyPost_ret hr hd ⟨rfl, hc⟩
end Go.Proofs.Ytkjeibdoghcgfaa
