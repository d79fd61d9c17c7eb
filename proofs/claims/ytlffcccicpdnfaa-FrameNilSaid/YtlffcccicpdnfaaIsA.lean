/-
  Plain: instructions by numbers: what each operation is (by tables of 74), what is wrong with an instruction.
-/
import Derived.Test.YtlffcccicpdnfaaBase
namespace Go.Proofs.Ytlffcccicpdnfaa

/-- The names as the program's table has them: by plain operations. -/
def plT : List (List UInt8) := [[97, 100, 100], [115, 117, 98], [109, 117, 108], [100, 105, 118], [109, 111, 100], [97, 110, 100], [111, 114], [120, 111, 114], [108, 115, 104], [114, 115, 104], [97, 114, 115, 104], [109, 111, 118], [110, 101, 103], [], [], [], [], [], [], [], [], [], [], [], [], [], [], [], [], [], [], [], [106, 97], [106, 101, 113], [106, 110, 101], [106, 103, 116], [106, 103, 101], [106, 108, 116], [106, 108, 101], [106, 115, 101, 116], [106, 115, 103, 116], [106, 115, 108, 116], [], [], [], [], [], [], [], [], [], [], [], [], [], [], [], [], [], [], [], [], [], [], [108, 100, 115, 116], [115, 116, 115, 116], [108, 100, 118], [115, 116, 118], [], [], [], [], [99, 97, 108, 108], [101, 120, 105, 116]]
/-- The names by operations; the shapes of texts (100 the first register, 115 the second, 111 the offset, 105 the number). -/
def nmT : List (List UInt8) := [[97, 100, 100], [115, 117, 98], [109, 117, 108], [100, 105, 118], [109, 111, 100], [97, 110, 100], [111, 114], [120, 111, 114], [108, 115, 104], [114, 115, 104], [97, 114, 115, 104], [109, 111, 118], [110, 101, 103], [], [], [], [97, 100, 100], [115, 117, 98], [109, 117, 108], [100, 105, 118], [109, 111, 100], [97, 110, 100], [111, 114], [120, 111, 114], [108, 115, 104], [114, 115, 104], [97, 114, 115, 104], [109, 111, 118], [], [], [], [], [106, 97], [106, 101, 113], [106, 110, 101], [106, 103, 116], [106, 103, 101], [106, 108, 116], [106, 108, 101], [106, 115, 101, 116], [106, 115, 103, 116], [106, 115, 108, 116], [], [], [], [], [], [], [], [106, 101, 113], [106, 110, 101], [106, 103, 116], [106, 103, 101], [106, 108, 116], [106, 108, 101], [106, 115, 101, 116], [106, 115, 103, 116], [106, 115, 108, 116], [], [], [], [], [], [], [108, 100, 115, 116], [115, 116, 115, 116], [108, 100, 118], [115, 116, 118], [], [], [], [], [99, 97, 108, 108], [101, 120, 105, 116]]
def shT : List (List UInt8) := [[100, 105], [100, 105], [100, 105], [100, 105], [100, 105], [100, 105], [100, 105], [100, 105], [100, 105], [100, 105], [100, 105], [100, 105], [100], [], [], [], [100, 115], [100, 115], [100, 115], [100, 115], [100, 115], [100, 115], [100, 115], [100, 115], [100, 115], [100, 115], [100, 115], [100, 115], [], [], [], [], [111], [100, 105, 111], [100, 105, 111], [100, 105, 111], [100, 105, 111], [100, 105, 111], [100, 105, 111], [100, 105, 111], [100, 105, 111], [100, 105, 111], [], [], [], [], [], [], [], [100, 115, 111], [100, 115, 111], [100, 115, 111], [100, 115, 111], [100, 115, 111], [100, 115, 111], [100, 115, 111], [100, 115, 111], [100, 115, 111], [], [], [], [], [], [], [100, 111], [111, 115], [100, 115, 111], [100, 111, 115], [], [], [], [], [105], []]

def cls (op : Int) : Int :=
  if (0 ≤ op ∧ op ≤ 12) ∨ (16 ≤ op ∧ op ≤ 27) then 1 else if (32 ≤ op ∧ op ≤ 41) ∨ (49 ≤ op ∧ op ≤ 57) then 2 else if 64 ≤ op ∧ op ≤ 67 then 3 else if op = 72 ∨ op = 73 then 4 else 0
def pl (op : Int) : Int := if (16 ≤ op ∧ op ≤ 27) ∨ (49 ≤ op ∧ op ≤ 57) then op - 16 else op
def nm (op : Int) : List UInt8 := if op < 0 then [] else nmT.getD op.toNat []
def shp (op : Int) : List UInt8 := if op < 0 then [] else shT.getD op.toNat []
/-- Does a shape have a letter? -/
def has (l : List UInt8) (c : UInt8) : Bool := l.contains c

theorem all74 {p : Int → Prop} (h : ∀ k : Fin 74, p (k.val : Int)) (op : Int) (h0 : 0 ≤ op) (h1 : op < 74) : p op := by
  have := h ⟨op.toNat, by omega⟩
  simpa [Int.toNat_of_nonneg h0] using this

theorem out_nm {op : Int} (h : op < 0 ∨ 74 ≤ op) : nm op = [] ∧ shp op = [] ∧ cls op = 0 := by
  refine ⟨?_, ?_, ?_⟩
  · unfold nm; split
    · rfl
    · rw [List.getD_eq_getElem?_getD, List.getElem?_eq_none (by show 74 ≤ op.toNat; omega)]; rfl
  · unfold shp; split
    · rfl
    · rw [List.getD_eq_getElem?_getD, List.getElem?_eq_none (by show 74 ≤ op.toNat; omega)]; rfl
  · unfold cls; repeat (first | rw [if_neg (by omega)] | rfl)

theorem none_in : ∀ k : Fin 74, cls (k.val : Int) = 0 → nm (k.val : Int) = [] ∧ shp (k.val : Int) = [] := by decide +kernel
theorem none_of {op : Int} (h : cls op = 0) : nm op = [] ∧ shp op = [] := by
  rcases Int.lt_or_le op 0 with h0 | h0
  · exact ⟨(out_nm (.inl h0)).1, (out_nm (.inl h0)).2.1⟩
  · rcases Int.lt_or_le op 74 with h1 | h1
    · exact all74 (p := fun op => cls op = 0 → nm op = [] ∧ shp op = []) none_in op h0 h1 h
    · exact ⟨(out_nm (.inr h1)).1, (out_nm (.inr h1)).2.1⟩
theorem in74 {op : Int} (h : cls op ≠ 0) : 0 ≤ op ∧ op < 74 := by
  rcases Int.lt_or_le op 0 with h0 | h0
  · exact absurd (out_nm (.inl h0)).2.2 h
  · rcases Int.lt_or_le op 74 with h1 | h1
    · exact ⟨h0, h1⟩
    · exact absurd (out_nm (.inr h1)).2.2 h

/-- The program's name: of the plain operation. -/
theorem pl_nm_in : ∀ k : Fin 74, cls (k.val : Int) ≠ 0 → 0 ≤ pl (k.val : Int) ∧ pl (k.val : Int) < 74 ∧ plT.getD (pl (k.val : Int)).toNat [] = nm (k.val : Int) := by decide +kernel
theorem pl_nm {op : Int} (h : cls op ≠ 0) : 0 ≤ pl op ∧ pl op < 74 ∧ plT.getD (pl op).toNat [] = nm op := by
  obtain ⟨h0, h1⟩ := in74 h
  exact all74 (p := fun op => cls op ≠ 0 → 0 ≤ pl op ∧ pl op < 74 ∧ plT.getD (pl op).toNat [] = nm op) pl_nm_in op h0 h1 h

/-- What an operation uses, by its class. -/
theorem use_alu : ∀ k : Fin 74, cls (k.val : Int) = 1 → has (shp k.val) 100 = true ∧ has (shp k.val) 115 = (pl k.val != k.val) ∧ has (shp k.val) 111 = false ∧ has (shp k.val) 105 = (!(pl k.val != k.val) && ((k.val : Int) != 12)) := by decide +kernel
theorem use_jump : ∀ k : Fin 74, cls (k.val : Int) = 2 → has (shp k.val) 100 = ((k.val : Int) != 32) ∧ has (shp k.val) 115 = (pl k.val != k.val) ∧ has (shp k.val) 111 = true ∧ has (shp k.val) 105 = (!(pl k.val != k.val) && ((k.val : Int) != 32)) := by decide +kernel
theorem use_mem : ∀ k : Fin 74, cls (k.val : Int) = 3 → has (shp k.val) 100 = ((k.val : Int) != 65) ∧ has (shp k.val) 115 = ((k.val : Int) != 64) ∧ has (shp k.val) 111 = true ∧ has (shp k.val) 105 = false := by decide +kernel
theorem use_flow : ∀ k : Fin 74, cls (k.val : Int) = 4 → has (shp k.val) 100 = false ∧ has (shp k.val) 115 = false ∧ has (shp k.val) 111 = false ∧ has (shp k.val) 105 = ((k.val : Int) == 72) := by decide +kernel
theorem uses_alu {op : Int} (h : cls op = 1) : has (shp op) 100 = true ∧ has (shp op) 115 = (pl op != op) ∧ has (shp op) 111 = false ∧ has (shp op) 105 = (!(pl op != op) && (op != 12)) := by
  obtain ⟨h0, h1⟩ := in74 (op := op) (by omega)
  exact all74 (p := fun op => cls op = 1 → has (shp op) 100 = true ∧ has (shp op) 115 = (pl op != op) ∧ has (shp op) 111 = false ∧ has (shp op) 105 = (!(pl op != op) && (op != 12))) use_alu op h0 h1 h
theorem uses_jump {op : Int} (h : cls op = 2) : has (shp op) 100 = (op != 32) ∧ has (shp op) 115 = (pl op != op) ∧ has (shp op) 111 = true ∧ has (shp op) 105 = (!(pl op != op) && (op != 32)) := by
  obtain ⟨h0, h1⟩ := in74 (op := op) (by omega)
  exact all74 (p := fun op => cls op = 2 → has (shp op) 100 = (op != 32) ∧ has (shp op) 115 = (pl op != op) ∧ has (shp op) 111 = true ∧ has (shp op) 105 = (!(pl op != op) && (op != 32))) use_jump op h0 h1 h
theorem uses_mem {op : Int} (h : cls op = 3) : has (shp op) 100 = (op != 65) ∧ has (shp op) 115 = (op != 64) ∧ has (shp op) 111 = true ∧ has (shp op) 105 = false := by
  obtain ⟨h0, h1⟩ := in74 (op := op) (by omega)
  exact all74 (p := fun op => cls op = 3 → has (shp op) 100 = (op != 65) ∧ has (shp op) 115 = (op != 64) ∧ has (shp op) 111 = true ∧ has (shp op) 105 = false) use_mem op h0 h1 h
theorem uses_flow {op : Int} (h : cls op = 4) : has (shp op) 100 = false ∧ has (shp op) 115 = false ∧ has (shp op) 111 = false ∧ has (shp op) 105 = (op == 72) := by
  obtain ⟨h0, h1⟩ := in74 (op := op) (by omega)
  exact all74 (p := fun op => cls op = 4 → has (shp op) 100 = false ∧ has (shp op) 115 = false ∧ has (shp op) 111 = false ∧ has (shp op) 105 = (op == 72)) use_flow op h0 h1 h
theorem uses_none {op : Int} (h : cls op = 0) (c : UInt8) : has (shp op) c = false := by rw [(none_of h).2]; rfl

/-! ### An instruction -/
structure I5 where
  op : Int
  d : Int
  s : Int
  o : Int
  i : Int
deriving DecidableEq

/-- Is all within its bounds? -/
def inB (x : I5) : Prop := 0 ≤ x.d ∧ x.d ≤ 9 ∧ 0 ≤ x.s ∧ x.s ≤ 9 ∧ -32768 ≤ x.o ∧ x.o ≤ 32767 ∧ -2147483648 ≤ x.i ∧ x.i ≤ 2147483647
instance (x : I5) : Decidable (inB x) := by unfold inB; exact inferInstance
/-- Is what it doesn't use 0? -/
def form (x : I5) : Prop := (x.d ≠ 0 → has (shp x.op) 100 = true) ∧ (x.s ≠ 0 → has (shp x.op) 115 = true) ∧ (x.o ≠ 0 → has (shp x.op) 111 = true) ∧ (x.i ≠ 0 → has (shp x.op) 105 = true)
instance (x : I5) : Decidable (form x) := by unfold form; exact inferInstance
def chk (x : I5) : Int := if cls x.op = 0 then 11 else if ¬ inB x then 2 else if ¬ form x then 9 else 0

theorem chk_zero {x : I5} (h : chk x = 0) : cls x.op ≠ 0 ∧ inB x ∧ form x := by
  unfold chk at h
  split at h
  · cases h
  · split at h
    · cases h
    · split at h
      · cases h
      · rename_i a b c
        exact ⟨a, Decidable.not_not.1 b, Decidable.not_not.1 c⟩
theorem chk_cases (x : I5) : chk x = 0 ∨ chk x = 2 ∨ chk x = 9 ∨ chk x = 11 := by
  unfold chk; split
  · simp
  · split
    · simp
    · split <;> simp

end Go.Proofs.Ytlffcccicpdnfaa
