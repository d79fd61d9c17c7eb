/-
  Plain: instructions by numbers: what each operation is (by tables of 74), what is wrong with an instruction, its bytes, its text; there and back; unlike right ones have unlike texts and bytes.
-/
import Derived.Lib.ItoaNum
namespace Go.Proofs.YtgldkalagmjkfaaDoor

/-- The names as the program's table has them: by plain operations. -/
def plT : List (List UInt8) := [[97, 100, 100], [115, 117, 98], [109, 117, 108], [100, 105, 118], [109, 111, 100], [97, 110, 100], [111, 114], [120, 111, 114], [108, 115, 104], [114, 115, 104], [97, 114, 115, 104], [109, 111, 118], [110, 101, 103], [], [], [], [], [], [], [], [], [], [], [], [], [], [], [], [], [], [], [], [106, 97], [106, 101, 113], [106, 110, 101], [106, 103, 116], [106, 103, 101], [106, 108, 116], [106, 108, 101], [106, 115, 101, 116], [106, 115, 103, 116], [106, 115, 108, 116], [], [], [], [], [], [], [], [], [], [], [], [], [], [], [], [], [], [], [], [], [], [], [108, 100, 115, 116], [115, 116, 115, 116], [108, 100, 118], [115, 116, 118], [], [], [], [], [99, 97, 108, 108], [101, 120, 105, 116]]
/-- The names by operations; the shapes of texts (100 the first register, 115 the second, 111 the offset, 105 the number). -/
def nmT : List (List UInt8) := [[97, 100, 100], [115, 117, 98], [109, 117, 108], [100, 105, 118], [109, 111, 100], [97, 110, 100], [111, 114], [120, 111, 114], [108, 115, 104], [114, 115, 104], [97, 114, 115, 104], [109, 111, 118], [110, 101, 103], [], [], [], [97, 100, 100], [115, 117, 98], [109, 117, 108], [100, 105, 118], [109, 111, 100], [97, 110, 100], [111, 114], [120, 111, 114], [108, 115, 104], [114, 115, 104], [97, 114, 115, 104], [109, 111, 118], [], [], [], [], [106, 97], [106, 101, 113], [106, 110, 101], [106, 103, 116], [106, 103, 101], [106, 108, 116], [106, 108, 101], [106, 115, 101, 116], [106, 115, 103, 116], [106, 115, 108, 116], [], [], [], [], [], [], [], [106, 101, 113], [106, 110, 101], [106, 103, 116], [106, 103, 101], [106, 108, 116], [106, 108, 101], [106, 115, 101, 116], [106, 115, 103, 116], [106, 115, 108, 116], [], [], [], [], [], [], [108, 100, 115, 116], [115, 116, 115, 116], [108, 100, 118], [115, 116, 118], [], [], [], [], [99, 97, 108, 108], [101, 120, 105, 116]]
def shT : List (List UInt8) := [[100, 105], [100, 105], [100, 105], [100, 105], [100, 105], [100, 105], [100, 105], [100, 105], [100, 105], [100, 105], [100, 105], [100, 105], [100], [], [], [], [100, 115], [100, 115], [100, 115], [100, 115], [100, 115], [100, 115], [100, 115], [100, 115], [100, 115], [100, 115], [100, 115], [100, 115], [], [], [], [], [111], [100, 105, 111], [100, 105, 111], [100, 105, 111], [100, 105, 111], [100, 105, 111], [100, 105, 111], [100, 105, 111], [100, 105, 111], [100, 105, 111], [], [], [], [], [], [], [], [100, 115, 111], [100, 115, 111], [100, 115, 111], [100, 115, 111], [100, 115, 111], [100, 115, 111], [100, 115, 111], [100, 115, 111], [100, 115, 111], [], [], [], [], [], [], [100, 111], [111, 115], [100, 115, 111], [100, 111, 115], [], [], [], [], [105], []]

def cls (op : Int) : Int :=
  if (0 ≤ op ∧ op ≤ 12) ∨ (16 ≤ op ∧ op ≤ 27) then 1 else if (32 ≤ op ∧ op ≤ 41) ∨ (49 ≤ op ∧ op ≤ 57) then 2 else if 64 ≤ op ∧ op ≤ 67 then 3 else if op = 72 ∨ op = 73 then 4 else 0
def pl (op : Int) : Int := if (16 ≤ op ∧ op ≤ 27) ∨ (49 ≤ op ∧ op ≤ 57) then op - 16 else op
def nm (op : Int) : List UInt8 := if op < 0 then [] else nmT.getD op.toNat []
def shp (op : Int) : List UInt8 := if op < 0 then [] else shT.getD op.toNat []
/-- Does a shape have a letter? -/
def has (l : List UInt8) (c : UInt8) : Bool := l.contains c

theorem all74 {p : Int → Prop} (h : ∀ k : Fin 74, p (k.val : Int)) (op : Int) (h0 : 0 ≤ op) (h1 : op < 74) : p op := by
  have := h ⟨op.toNat, by omega⟩
  simpa [Int.toNat_of_nonneg h0] using this

theorem out_nm {op : Int} (h : op < 0 ∨ 74 ≤ op) : nm op = [] ∧ shp op = [] ∧ cls op = 0 := by
  refine ⟨?_, ?_, ?_⟩
  · unfold nm; split
    · rfl
    · rw [List.getD_eq_getElem?_getD, List.getElem?_eq_none (by show 74 ≤ op.toNat; omega)]; rfl
  · unfold shp; split
    · rfl
    · rw [List.getD_eq_getElem?_getD, List.getElem?_eq_none (by show 74 ≤ op.toNat; omega)]; rfl
  · unfold cls; repeat (first | rw [if_neg (by omega)] | rfl)

theorem none_in : ∀ k : Fin 74, cls (k.val : Int) = 0 → nm (k.val : Int) = [] ∧ shp (k.val : Int) = [] := by decide +kernel
theorem none_of {op : Int} (h : cls op = 0) : nm op = [] ∧ shp op = [] := by
  rcases Int.lt_or_le op 0 with h0 | h0
  · exact ⟨(out_nm (.inl h0)).1, (out_nm (.inl h0)).2.1⟩
  · rcases Int.lt_or_le op 74 with h1 | h1
    · exact all74 (p := fun op => cls op = 0 → nm op = [] ∧ shp op = []) none_in op h0 h1 h
    · exact ⟨(out_nm (.inr h1)).1, (out_nm (.inr h1)).2.1⟩
theorem in74 {op : Int} (h : cls op ≠ 0) : 0 ≤ op ∧ op < 74 := by
  rcases Int.lt_or_le op 0 with h0 | h0
  · exact absurd (out_nm (.inl h0)).2.2 h
  · rcases Int.lt_or_le op 74 with h1 | h1
    · exact ⟨h0, h1⟩
    · exact absurd (out_nm (.inr h1)).2.2 h

/-- The program's name: of the plain operation. -/
theorem pl_nm_in : ∀ k : Fin 74, cls (k.val : Int) ≠ 0 → 0 ≤ pl (k.val : Int) ∧ pl (k.val : Int) < 74 ∧ plT.getD (pl (k.val : Int)).toNat [] = nm (k.val : Int) := by decide +kernel
theorem pl_nm {op : Int} (h : cls op ≠ 0) : 0 ≤ pl op ∧ pl op < 74 ∧ plT.getD (pl op).toNat [] = nm op := by
  obtain ⟨h0, h1⟩ := in74 h
  exact all74 (p := fun op => cls op ≠ 0 → 0 ≤ pl op ∧ pl op < 74 ∧ plT.getD (pl op).toNat [] = nm op) pl_nm_in op h0 h1 h

/-- What an operation uses, by its class. -/
theorem use_alu : ∀ k : Fin 74, cls (k.val : Int) = 1 → has (shp k.val) 100 = true ∧ has (shp k.val) 115 = (pl k.val != k.val) ∧ has (shp k.val) 111 = false ∧ has (shp k.val) 105 = (!(pl k.val != k.val) && ((k.val : Int) != 12)) := by decide +kernel
theorem use_jump : ∀ k : Fin 74, cls (k.val : Int) = 2 → has (shp k.val) 100 = ((k.val : Int) != 32) ∧ has (shp k.val) 115 = (pl k.val != k.val) ∧ has (shp k.val) 111 = true ∧ has (shp k.val) 105 = (!(pl k.val != k.val) && ((k.val : Int) != 32)) := by decide +kernel
theorem use_mem : ∀ k : Fin 74, cls (k.val : Int) = 3 → has (shp k.val) 100 = ((k.val : Int) != 65) ∧ has (shp k.val) 115 = ((k.val : Int) != 64) ∧ has (shp k.val) 111 = true ∧ has (shp k.val) 105 = false := by decide +kernel
theorem use_flow : ∀ k : Fin 74, cls (k.val : Int) = 4 → has (shp k.val) 100 = false ∧ has (shp k.val) 115 = false ∧ has (shp k.val) 111 = false ∧ has (shp k.val) 105 = ((k.val : Int) == 72) := by decide +kernel
theorem uses_alu {op : Int} (h : cls op = 1) : has (shp op) 100 = true ∧ has (shp op) 115 = (pl op != op) ∧ has (shp op) 111 = false ∧ has (shp op) 105 = (!(pl op != op) && (op != 12)) := by
  obtain ⟨h0, h1⟩ := in74 (op := op) (by omega)
  exact all74 (p := fun op => cls op = 1 → has (shp op) 100 = true ∧ has (shp op) 115 = (pl op != op) ∧ has (shp op) 111 = false ∧ has (shp op) 105 = (!(pl op != op) && (op != 12))) use_alu op h0 h1 h
theorem uses_jump {op : Int} (h : cls op = 2) : has (shp op) 100 = (op != 32) ∧ has (shp op) 115 = (pl op != op) ∧ has (shp op) 111 = true ∧ has (shp op) 105 = (!(pl op != op) && (op != 32)) := by
  obtain ⟨h0, h1⟩ := in74 (op := op) (by omega)
  exact all74 (p := fun op => cls op = 2 → has (shp op) 100 = (op != 32) ∧ has (shp op) 115 = (pl op != op) ∧ has (shp op) 111 = true ∧ has (shp op) 105 = (!(pl op != op) && (op != 32))) use_jump op h0 h1 h
theorem uses_mem {op : Int} (h : cls op = 3) : has (shp op) 100 = (op != 65) ∧ has (shp op) 115 = (op != 64) ∧ has (shp op) 111 = true ∧ has (shp op) 105 = false := by
  obtain ⟨h0, h1⟩ := in74 (op := op) (by omega)
  exact all74 (p := fun op => cls op = 3 → has (shp op) 100 = (op != 65) ∧ has (shp op) 115 = (op != 64) ∧ has (shp op) 111 = true ∧ has (shp op) 105 = false) use_mem op h0 h1 h
theorem uses_flow {op : Int} (h : cls op = 4) : has (shp op) 100 = false ∧ has (shp op) 115 = false ∧ has (shp op) 111 = false ∧ has (shp op) 105 = (op == 72) := by
  obtain ⟨h0, h1⟩ := in74 (op := op) (by omega)
  exact all74 (p := fun op => cls op = 4 → has (shp op) 100 = false ∧ has (shp op) 115 = false ∧ has (shp op) 111 = false ∧ has (shp op) 105 = (op == 72)) use_flow op h0 h1 h
theorem uses_none {op : Int} (h : cls op = 0) (c : UInt8) : has (shp op) c = false := by rw [(none_of h).2]; rfl

/-! ### An instruction -/
structure I5 where
  op : Int
  d : Int
  s : Int
  o : Int
  i : Int
deriving DecidableEq

/-- Is all within its bounds? -/
def inB (x : I5) : Prop := 0 ≤ x.d ∧ x.d ≤ 9 ∧ 0 ≤ x.s ∧ x.s ≤ 9 ∧ -32768 ≤ x.o ∧ x.o ≤ 32767 ∧ -2147483648 ≤ x.i ∧ x.i ≤ 2147483647
instance (x : I5) : Decidable (inB x) := by unfold inB; exact inferInstance
/-- Is what it doesn't use 0? -/
def form (x : I5) : Prop := (x.d ≠ 0 → has (shp x.op) 100 = true) ∧ (x.s ≠ 0 → has (shp x.op) 115 = true) ∧ (x.o ≠ 0 → has (shp x.op) 111 = true) ∧ (x.i ≠ 0 → has (shp x.op) 105 = true)
instance (x : I5) : Decidable (form x) := by unfold form; exact inferInstance
def chk (x : I5) : Int := if cls x.op = 0 then 11 else if ¬ inB x then 2 else if ¬ form x then 9 else 0

theorem chk_zero {x : I5} (h : chk x = 0) : cls x.op ≠ 0 ∧ inB x ∧ form x := by
  unfold chk at h
  split at h
  · cases h
  · split at h
    · cases h
    · split at h
      · cases h
      · rename_i a b c
        exact ⟨a, Decidable.not_not.1 b, Decidable.not_not.1 c⟩
theorem chk_cases (x : I5) : chk x = 0 ∨ chk x = 2 ∨ chk x = 9 ∨ chk x = 11 := by
  unfold chk; split
  · simp
  · split
    · simp
    · split <;> simp

/-! ### Bytes -/
def enc (x : I5) : List Int := [x.op % 256, (16 * x.d + x.s) % 256, x.o % 256, (x.o / 256) % 256, x.i % 256, (x.i / 256) % 256, (x.i / 65536) % 256, (x.i / 16777216) % 256]
def sgn (n half : Int) : Int := if n ≥ half then n - 2 * half else n
/-- The instruction of eight bytes, right or not. -/
def dec (b : Nat → Int) : I5 := ⟨b 0, b 1 / 16, b 1 % 16, sgn (b 2 + 256 * b 3) 32768, sgn (b 4 + 256 * b 5 + 65536 * b 6 + 16777216 * b 7) 2147483648⟩
theorem enc_length (x : I5) : (enc x).length = 8 := rfl
theorem enc_byte (x : I5) : ∀ b ∈ enc x, 0 ≤ b ∧ b < 256 := by
  intro b hb
  simp only [enc, List.mem_cons, List.not_mem_nil, or_false] at hb
  rcases hb with rfl | rfl | rfl | rfl | rfl | rfl | rfl | rfl <;> omega

theorem dec_enc {x : I5} (h : chk x = 0) (b : Nat → Int) (hb : ∀ j, j < 8 → (enc x)[j]? = some (b j)) : dec b = x := by
  obtain ⟨hc, ⟨h1, h2, h3, h4, h5, h6, h7, h8⟩, _⟩ := chk_zero h
  obtain ⟨k0, k1⟩ := in74 hc
  have e0 := hb 0 (by decide); have e1 := hb 1 (by decide); have e2 := hb 2 (by decide); have e3 := hb 3 (by decide)
  have e4 := hb 4 (by decide); have e5 := hb 5 (by decide); have e6 := hb 6 (by decide); have e7 := hb 7 (by decide)
  clear hb h
  simp only [enc, List.getElem?_cons_zero, List.getElem?_cons_succ, Option.some.injEq] at e0 e1 e2 e3 e4 e5 e6 e7
  obtain ⟨op, d, s, o, i⟩ := x
  simp only at *
  have g0 : b 0 = op := by omega
  have g1 : b 1 / 16 = d := by omega
  have g2 : b 1 % 16 = s := by omega
  have g3 : sgn (b 2 + 256 * b 3) 32768 = o := by unfold sgn; split <;> omega
  have g4 : sgn (b 4 + 256 * b 5 + 65536 * b 6 + 16777216 * b 7) 2147483648 = i := by clear e0 e1 e2 e3 g0 g1 g2 g3; unfold sgn; split <;> omega
  unfold dec
  rw [g0, g1, g2, g3, g4]

theorem enc_dec {b : Nat → Int} (hb : ∀ j, j < 8 → 0 ≤ b j ∧ b j < 256) : enc (dec b) = [b 0, b 1, b 2, b 3, b 4, b 5, b 6, b 7] := by
  have e0 := hb 0 (by decide); have e1 := hb 1 (by decide); have e2 := hb 2 (by decide); have e3 := hb 3 (by decide)
  have e4 := hb 4 (by decide); have e5 := hb 5 (by decide); have e6 := hb 6 (by decide); have e7 := hb 7 (by decide)
  clear hb
  unfold enc dec
  have g3 : sgn (b 2 + 256 * b 3) 32768 % 256 = b 2 ∧ sgn (b 2 + 256 * b 3) 32768 / 256 % 256 = b 3 := by unfold sgn; split <;> constructor <;> omega
  have g4 : sgn (b 4 + 256 * b 5 + 65536 * b 6 + 16777216 * b 7) 2147483648 % 256 = b 4 := by clear g3; unfold sgn; split <;> omega
  have g5 : sgn (b 4 + 256 * b 5 + 65536 * b 6 + 16777216 * b 7) 2147483648 / 256 % 256 = b 5 := by clear g3 g4; unfold sgn; split <;> omega
  have g6 : sgn (b 4 + 256 * b 5 + 65536 * b 6 + 16777216 * b 7) 2147483648 / 65536 % 256 = b 6 := by clear g3 g4 g5; unfold sgn; split <;> omega
  have g7 : sgn (b 4 + 256 * b 5 + 65536 * b 6 + 16777216 * b 7) 2147483648 / 16777216 % 256 = b 7 := by clear g3 g4 g5 g6; unfold sgn; split <;> omega
  simp only [g3.1, g3.2, g4, g5, g6, g7]
  rw [show b 0 % 256 = b 0 by omega, show (16 * (b 1 / 16) + b 1 % 16) % 256 = b 1 by omega]

theorem enc_inj {x y : I5} (hx : chk x = 0) (hy : chk y = 0) (h : enc x = enc y) : x = y := by
  have e : ∀ j, j < 8 → (enc x)[j]? = some ((enc x).getD j 0) := fun j hj => by
    rw [List.getD_eq_getElem?_getD, List.getElem?_eq_getElem (by simpa [enc_length] using hj)]; rfl
  rw [← dec_enc hx _ e, dec_enc hy _ (by rw [← h]; exact e)]

/-! ### Text -/
open Go.Lib
def part (x : I5) (c : UInt8) : List UInt8 := if c = 100 then 114 :: itoa x.d else if c = 115 then 114 :: itoa x.s else if c = 111 then itoa x.o else itoa x.i
/-- What stands behind the first part; all parts. -/
def jn : List (List UInt8) → List UInt8
  | [] => []
  | a :: l => 44 :: 32 :: (a ++ jn l)
def jn0 : List (List UInt8) → List UInt8
  | [] => []
  | a :: l => 32 :: (a ++ jn l)
def txt (x : I5) : List UInt8 := nm x.op ++ jn0 ((shp x.op).map (part x))

theorem dec_digit (u : Nat) : ∀ b ∈ decDigits u, 48 ≤ b.toNat ∧ b.toNat ≤ 57 := by
  induction u using Nat.strongRecOn with
  | _ u ih =>
    intro b hb
    rw [decDigits] at hb
    split at hb
    · rename_i h
      simp only [List.mem_cons, List.not_mem_nil, or_false] at hb
      subst hb
      rw [UInt8.toNat_ofNat_of_lt' (by show _ < 256; omega)]
      omega
    · rename_i h
      simp only [List.mem_append, List.mem_cons, List.not_mem_nil, or_false] at hb
      rcases hb with hb | rfl
      · exact ih (u / 10) (by omega) b hb
      · rw [UInt8.toNat_ofNat_of_lt' (by show _ < 256; omega)]
        omega
theorem dec_ne (u : Nat) : decDigits u ≠ [] := by
  rw [decDigits]; split <;> simp
/-- A numeral's value. -/
def val (l : List UInt8) : Nat := l.foldl (fun a b => 10 * a + (b.toNat - 48)) 0
theorem val_dec (u : Nat) : val (decDigits u) = u := by
  induction u using Nat.strongRecOn with
  | _ u ih =>
    rw [decDigits]
    split
    · rename_i h
      unfold val
      simp only [List.foldl_cons, List.foldl_nil]
      rw [UInt8.toNat_ofNat_of_lt' (by show _ < 256; omega)]
      omega
    · rename_i h
      have := ih (u / 10) (by omega)
      unfold val at this ⊢
      rw [List.foldl_append, this]
      simp only [List.foldl_cons, List.foldl_nil]
      rw [UInt8.toNat_ofNat_of_lt' (by show _ < 256; omega)]
      omega
theorem itoa_byte (n : Int) : ∀ b ∈ itoa n, b = 45 ∨ (48 ≤ b.toNat ∧ b.toNat ≤ 57) := by
  intro b hb
  unfold itoa at hb
  split at hb
  · simp only [List.mem_cons] at hb
    rcases hb with rfl | hb
    · exact .inl rfl
    · exact .inr (dec_digit _ b hb)
  · exact .inr (dec_digit _ b hb)
theorem itoa_ne (n : Int) : itoa n ≠ [] := by
  unfold itoa; split
  · simp
  · exact dec_ne _
theorem itoa_inj {n m : Int} (h : itoa n = itoa m) : n = m := by
  unfold itoa at h
  split at h
  · split at h
    · have := congrArg val (List.cons.inj h).2
      rw [val_dec, val_dec] at this
      omega
    · have hm : (45 : UInt8) ∈ decDigits m.toNat := by rw [← h]; simp
      have := dec_digit _ _ hm
      simp at this
  · split at h
    · have hm : (45 : UInt8) ∈ decDigits n.toNat := by rw [h]; simp
      have := dec_digit _ _ hm
      simp at this
    · have := congrArg val h
      rw [val_dec, val_dec] at this
      omega
theorem itoa_not {n : Int} {c : UInt8} (hc : c = 44 ∨ c = 32 ∨ c = 114) : c ∉ itoa n := by
  intro h
  rcases itoa_byte n c h with h | h
  · subst h; simp at hc
  · rcases hc with rfl | rfl | rfl <;> simp at h
theorem part_not (x : I5) (l : UInt8) : (44 : UInt8) ∉ part x l := by
  unfold part
  split
  · simp [itoa_not]
  · split
    · simp [itoa_not]
    · split <;> exact itoa_not (by simp)

/-- What stands ahead of a separator. -/
theorem ahead (c : UInt8) : ∀ (a b r s : List UInt8), c ∉ a → c ∉ b → (∀ y, r.head? = some y → y = c) → (∀ y, s.head? = some y → y = c) → a ++ r = b ++ s → a = b ∧ r = s
  | [], [], r, s, _, _, _, _, h => ⟨rfl, by simpa using h⟩
  | [], y :: b, r, s, _, hb, hr, _, h => by
    have : r.head? = some y := by simp at h; rw [h]; rfl
    exact absurd (hr y this) (fun e => hb (by simp [e]))
  | y :: a, [], r, s, ha, _, _, hs, h => by
    have : s.head? = some y := by simp at h; rw [← h]; rfl
    exact absurd (hs y this) (fun e => ha (by simp [e]))
  | y :: a, z :: b, r, s, ha, hb, hr, hs, h => by
    simp only [List.cons_append, List.cons.injEq] at h
    obtain ⟨h1, h2⟩ := ahead c a b r s (fun e => ha (by simp [e])) (fun e => hb (by simp [e])) hr hs h.2
    exact ⟨by rw [h.1, h1], h2⟩
theorem jn_head (l : List (List UInt8)) : ∀ y, (jn l).head? = some y → y = 44 := by
  intro y h
  cases l with
  | nil => simp [jn] at h
  | cons a l => simp [jn] at h; exact h.symm
theorem jn0_head (l : List (List UInt8)) : ∀ y, (jn0 l).head? = some y → y = 32 := by
  intro y h
  cases l with
  | nil => simp [jn0] at h
  | cons a l => simp [jn0] at h; exact h.symm
theorem jn_inj : ∀ (l m : List (List UInt8)), (∀ a ∈ l, (44 : UInt8) ∉ a) → (∀ a ∈ m, (44 : UInt8) ∉ a) → jn l = jn m → l = m
  | [], [], _, _, _ => rfl
  | [], b :: m, _, _, h => by simp [jn] at h
  | a :: l, [], _, _, h => by simp [jn] at h
  | a :: l, b :: m, ha, hb, h => by
    simp only [jn, List.cons.injEq, true_and] at h
    obtain ⟨h1, h2⟩ := ahead 44 a b (jn l) (jn m) (ha a (by simp)) (hb b (by simp)) (jn_head l) (jn_head m) h
    rw [h1, jn_inj l m (fun x hx => ha x (by simp [hx])) (fun x hx => hb x (by simp [hx])) h2]
theorem jn0_inj (l m : List (List UInt8)) (hl : ∀ a ∈ l, (44 : UInt8) ∉ a) (hm : ∀ a ∈ m, (44 : UInt8) ∉ a) (h : jn0 l = jn0 m) : l = m := by
  cases l with
  | nil => cases m with
    | nil => rfl
    | cons b m => simp [jn0] at h
  | cons a l => cases m with
    | nil => simp [jn0] at h
    | cons b m =>
      simp only [jn0, List.cons.injEq, true_and] at h
      exact jn_inj (a :: l) (b :: m) hl hm (by simp only [jn, h])

theorem nm_not_in : ∀ k : Fin 74, (32 : UInt8) ∉ nm (k.val : Int) := by decide +kernel
theorem nm_ne_in : ∀ k : Fin 74, cls (k.val : Int) ≠ 0 → nm (k.val : Int) ≠ [] := by decide +kernel
/-- Operations with one name: the same, or with a register and without. -/
def mate (k j : Nat) : Bool := k == j || (shp k == [100, 105] && shp j == [100, 115]) || (shp k == [100, 115] && shp j == [100, 105]) || (shp k == [100, 105, 111] && shp j == [100, 115, 111]) || (shp k == [100, 115, 111] && shp j == [100, 105, 111])
theorem mates : ∀ k j : Fin 74, cls (k.val : Int) ≠ 0 → cls (j.val : Int) ≠ 0 → nm (k.val : Int) = nm (j.val : Int) → mate k.val j.val = true := by decide +kernel

theorem map_at {x y : I5} {l m : List UInt8} (h : l.map (part x) = m.map (part y)) (j : Nat) (c e : UInt8) (hc : l[j]? = some c) (he : m[j]? = some e) : part x c = part y e := by
  have := congrArg (·[j]?) h
  simpa [hc, he] using this
theorem part_ne (x y : I5) : part x 105 ≠ part y 115 ∧ part x 115 ≠ part y 105 := by
  have e1 : ∀ x : I5, part x 105 = itoa x.i := fun _ => rfl
  have e2 : ∀ x : I5, part x 115 = 114 :: itoa x.s := fun _ => rfl
  rw [e1, e2, e1, e2]
  constructor
  · intro h
    exact itoa_not (n := x.i) (c := 114) (by simp) (by rw [h]; simp)
  · intro h
    exact itoa_not (n := y.i) (c := 114) (by simp) (by rw [← h]; simp)

theorem field {a b : Int} {l : List UInt8} {c : UInt8} (ha : a ≠ 0 → has l c = true) (hb : b ≠ 0 → has l c = true) (h : c ∈ l → a = b) : a = b := by
  by_cases hc : c ∈ l
  · exact h hc
  · have hn : has l c = false := by
      unfold has; rw [Bool.eq_false_iff]; intro e; exact hc (by simpa using e)
    have h1 : a = 0 := Decidable.byContradiction fun e => by rw [hn] at ha; exact absurd (ha e) (by simp)
    have h2 : b = 0 := Decidable.byContradiction fun e => by rw [hn] at hb; exact absurd (hb e) (by simp)
    rw [h1, h2]

theorem txt_inj {x y : I5} (hx : chk x = 0) (hy : chk y = 0) (h : txt x = txt y) : x = y := by
  obtain ⟨cx, _, fx⟩ := chk_zero hx
  obtain ⟨cy, _, fy⟩ := chk_zero hy
  obtain ⟨ox0, ox1⟩ := in74 cx
  obtain ⟨oy0, oy1⟩ := in74 cy
  have nx : (32 : UInt8) ∉ nm x.op := all74 (p := fun op => (32 : UInt8) ∉ nm op) nm_not_in _ ox0 ox1
  have ny : (32 : UInt8) ∉ nm y.op := all74 (p := fun op => (32 : UInt8) ∉ nm op) nm_not_in _ oy0 oy1
  obtain ⟨hn, ht⟩ := ahead 32 _ _ _ _ nx ny (jn0_head _) (jn0_head _) h
  have hp : ∀ (z : I5) (l : List UInt8), ∀ a ∈ l.map (part z), (44 : UInt8) ∉ a := by
    intro z l a ha
    obtain ⟨c, _, rfl⟩ := List.mem_map.1 ha
    exact part_not z c
  have hm := jn0_inj _ _ (hp x _) (hp y _) ht
  obtain ⟨p, hpx⟩ : ∃ p : Fin 74, x.op = (p.val : Int) := ⟨⟨x.op.toNat, by omega⟩, (Int.toNat_of_nonneg ox0).symm⟩
  obtain ⟨q, hqy⟩ : ∃ q : Fin 74, y.op = (q.val : Int) := ⟨⟨y.op.toNat, by omega⟩, (Int.toNat_of_nonneg oy0).symm⟩
  have hmate := mates p q (by rw [← hpx]; exact cx) (by rw [← hqy]; exact cy) (by rw [← hpx, ← hqy]; exact hn)
  unfold mate at hmate
  rw [← hpx, ← hqy] at hmate
  simp only [Bool.or_eq_true, Bool.and_eq_true, beq_iff_eq] at hmate
  obtain ⟨ne1, ne2⟩ := part_ne x y
  rcases hmate with (((h1 | ⟨h1, h2⟩) | ⟨h1, h2⟩) | ⟨h1, h2⟩) | ⟨h1, h2⟩
  · have hop : x.op = y.op := by rw [hpx, hqy, h1]
    rw [hop] at hm
    have he : ∀ c ∈ shp y.op, part x c = part y c := List.map_inj_left.1 hm
    obtain ⟨fx1, fx2, fx3, fx4⟩ := fx
    rw [hop] at fx1 fx2 fx3 fx4
    obtain ⟨fy1, fy2, fy3, fy4⟩ := fy
    have g1 : x.d = y.d := field fx1 fy1 fun hc => by
      have := he 100 hc
      exact itoa_inj (List.cons.inj this).2
    have g2 : x.s = y.s := field fx2 fy2 fun hc => by
      have := he 115 hc
      exact itoa_inj (List.cons.inj this).2
    have g3 : x.o = y.o := field fx3 fy3 fun hc => itoa_inj (he 111 hc)
    have g4 : x.i = y.i := field fx4 fy4 fun hc => itoa_inj (he 105 hc)
    cases x; cases y
    simp only at hop g1 g2 g3 g4
    subst hop g1 g2 g3 g4
    rfl
  · rw [h1, h2] at hm
    exact absurd (map_at hm 1 105 115 rfl rfl) ne1
  · rw [h1, h2] at hm
    exact absurd (map_at hm 1 115 105 rfl rfl) ne2
  · rw [h1, h2] at hm
    exact absurd (map_at hm 1 105 115 rfl rfl) ne1
  · rw [h1, h2] at hm
    exact absurd (map_at hm 1 115 105 rfl rfl) ne2
theorem txt_ne {x : I5} (h : chk x = 0) : txt x ≠ [] := by
  obtain ⟨c, _, _⟩ := chk_zero h
  obtain ⟨h0, h1⟩ := in74 c
  have := all74 (p := fun op => cls op ≠ 0 → nm op ≠ []) nm_ne_in _ h0 h1 c
  unfold txt
  intro e
  exact this (List.append_eq_nil_iff.1 e).1
end Go.Proofs.YtgldkalagmjkfaaDoor
