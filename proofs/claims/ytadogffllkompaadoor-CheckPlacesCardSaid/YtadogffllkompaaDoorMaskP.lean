/-
  Plain mathematics of 64-bit words: digits, the count of ones by halves, the list of ones, turning. No program in sight.
-/
import Derived.Laws.BitsAllLaws
import Derived.Lib.TrailingZeros
namespace Go.Proofs.YtadogffllkompaaDoor.Pl

/-! ### Digits -/
def ofD (k : Nat) : List Nat → Nat
  | [] => 0
  | d :: r => d + 2 ^ k * ofD k r

def pairUp : List Nat → List Nat
  | a :: b :: r => (a + b) :: pairUp r
  | _ => []

def Mk (k : Nat) : Nat → Nat
  | 0 => 0
  | n + 1 => (2 ^ k - 1) + 2 ^ (2 * k) * Mk k n

theorem and_digit (k d e D E : Nat) (hd : d < 2 ^ k) (he : e < 2 ^ k) : (d + 2 ^ k * D) &&& (e + 2 ^ k * E) = (d &&& e) + 2 ^ k * (D &&& E) := by
  have hde : d &&& e < 2 ^ k := Nat.and_lt_two_pow _ he
  apply Nat.eq_of_testBit_eq
  intro j
  rw [Nat.add_comm d, Nat.add_comm e, Nat.add_comm (d &&& e), Nat.testBit_and, Nat.testBit_two_pow_mul_add _ hd, Nat.testBit_two_pow_mul_add _ he, Nat.testBit_two_pow_mul_add _ hde]
  by_cases h : j < k <;> simp [h]

theorem and_low (k a : Nat) (h : a < 2 ^ k) : a &&& (2 ^ k - 1) = a := by
  rw [Nat.and_two_pow_sub_one_eq_mod, Nat.mod_eq_of_lt h]

theorem two_mul_pow (k : Nat) : 2 ^ (2 * k) = 2 ^ k * 2 ^ k := by rw [show 2 * k = k + k by omega, Nat.pow_add]

theorem and_step (k a b R M : Nat) (ha : a < 2 ^ k) (hb : b < 2 ^ k) : (a + 2 ^ k * (b + 2 ^ k * R)) &&& ((2 ^ k - 1) + 2 ^ (2 * k) * M) = a + 2 ^ (2 * k) * (R &&& M) := by
  have hp : 0 < 2 ^ k := Nat.pow_pos (by decide)
  have e1 : a + 2 ^ k * (b + 2 ^ k * R) = a + 2 ^ k * (b + 2 ^ k * R) := rfl
  rw [two_mul_pow, Nat.mul_assoc, and_digit k a (2 ^ k - 1) _ _ ha (by omega), and_low k a ha]
  have e2 : (2 ^ k * M : Nat) = 0 + 2 ^ k * M := by omega
  rw [e2, and_digit k b 0 _ _ hb hp]
  simp [Nat.mul_assoc]

theorem half (k : Nat) : ∀ (n : Nat) (ds : List Nat), ds.length = 2 * n → (∀ d ∈ ds, d < 2 ^ k) →
    (ofD k ds / 2 ^ k &&& Mk k n) + (ofD k ds &&& Mk k n) = ofD (2 * k) (pairUp ds)
  | 0, [], _, _ => by simp [ofD, Mk, pairUp]
  | n + 1, [], h, _ => by simp at h
  | 0, _ :: _, h, _ => by simp at h
  | n + 1, [_], h, _ => by simp at h; omega
  | n + 1, a :: b :: r, h, hd => by
    have hp : 0 < 2 ^ k := Nat.pow_pos (by decide)
    have ha : a < 2 ^ k := hd a (by simp)
    have hb : b < 2 ^ k := hd b (by simp)
    have ih := half k n r (by simp at h; omega) (fun d hm => hd d (by simp [hm]))
    have e1 : ofD k (a :: b :: r) = a + 2 ^ k * (b + 2 ^ k * ofD k r) := rfl
    have e2 : (a + 2 ^ k * (b + 2 ^ k * ofD k r)) / 2 ^ k = b + 2 ^ k * (ofD k r % 2 ^ k + 2 ^ k * (ofD k r / 2 ^ k)) := by
      rw [Nat.add_mul_div_left _ _ hp, Nat.div_eq_of_lt ha, Nat.zero_add, Nat.mod_add_div]
    rw [e1, e2]
    have e3 : ofD (2 * k) (pairUp (a :: b :: r)) = (a + b) + 2 ^ (2 * k) * ofD (2 * k) (pairUp r) := by simp only [pairUp, ofD]
    have e4 : Mk k (n + 1) = (2 ^ k - 1) + 2 ^ (2 * k) * Mk k n := rfl
    rw [e3, e4, and_step k b _ _ _ hb (Nat.mod_lt _ hp), and_step k a b _ _ ha hb, ← ih, Nat.mul_add]
    omega

/-- The third step: the halves are added before the mask. -/
theorem half3 (k : Nat) : ∀ (n : Nat) (ds : List Nat), ds.length = 2 * n → (∀ d ∈ ds, 2 * d < 2 ^ k) →
    (ofD k ds / 2 ^ k + ofD k ds &&& Mk k n) = ofD (2 * k) (pairUp ds)
  | 0, [], _, _ => by simp [ofD, Mk, pairUp]
  | n + 1, [], h, _ => by simp at h
  | 0, _ :: _, h, _ => by simp at h
  | n + 1, [_], h, _ => by simp at h; omega
  | n + 1, a :: b :: r, h, hd => by
    have hp : 0 < 2 ^ k := Nat.pow_pos (by decide)
    have ha : 2 * a < 2 ^ k := hd a (by simp)
    have hb : 2 * b < 2 ^ k := hd b (by simp)
    have ih := half3 k n r (by simp at h; omega) (fun d hm => hd d (by simp [hm]))
    have e1 : ofD k (a :: b :: r) = a + 2 ^ k * (b + 2 ^ k * ofD k r) := rfl
    have e2 : (a + 2 ^ k * (b + 2 ^ k * ofD k r)) / 2 ^ k = b + 2 ^ k * ofD k r := by
      rw [Nat.add_mul_div_left _ _ (by omega), Nat.div_eq_of_lt (by omega), Nat.zero_add]
    have hm : 2 * (ofD k r % 2 ^ k) < 2 ^ k := by
      cases r with
      | nil => simpa [ofD] using hp
      | cons c r =>
        have hc := hd c (by simp)
        show 2 * ((c + 2 ^ k * ofD k r) % 2 ^ k) < 2 ^ k
        rw [Nat.add_mul_mod_self_left, Nat.mod_eq_of_lt (by omega)]
        exact hc
    have e3 : b + 2 ^ k * ofD k r + (a + 2 ^ k * (b + 2 ^ k * ofD k r)) = (a + b) + 2 ^ k * ((b + ofD k r % 2 ^ k) + 2 ^ k * (ofD k r / 2 ^ k + ofD k r)) := by
      have hmod := Nat.mod_add_div (ofD k r) (2 ^ k)
      generalize ofD k r % 2 ^ k = m at *
      generalize ofD k r / 2 ^ k = q at *
      rw [← hmod]
      simp only [Nat.mul_add]
      omega
    have e5 : ofD (2 * k) (pairUp (a :: b :: r)) = (a + b) + 2 ^ (2 * k) * ofD (2 * k) (pairUp r) := by simp only [pairUp, ofD]
    have e4 : Mk k (n + 1) = (2 ^ k - 1) + 2 ^ (2 * k) * Mk k n := rfl
    rw [e1, e2, e3, e5, e4, and_step k _ _ _ _ (by omega) (by omega), ih]

theorem pairUp_length : ∀ (n : Nat) (ds : List Nat), ds.length = 2 * n → (pairUp ds).length = n
  | 0, [], _ => rfl
  | n + 1, [], h => by simp at h
  | 0, _ :: _, h => by simp at h
  | n + 1, [_], h => by simp at h; omega
  | n + 1, _ :: _ :: r, h => by simp [pairUp, pairUp_length n r (by simp at h; omega)]
theorem pairUp_sum : ∀ (n : Nat) (ds : List Nat), ds.length = 2 * n → (pairUp ds).sum = ds.sum
  | 0, [], _ => rfl
  | n + 1, [], h => by simp at h
  | 0, _ :: _, h => by simp at h
  | n + 1, [_], h => by simp at h; omega
  | n + 1, _ :: _ :: r, h => by simp [pairUp, pairUp_sum n r (by simp at h; omega)]; omega
theorem pairUp_le (c : Nat) : ∀ (ds : List Nat), (∀ d ∈ ds, d ≤ c) → ∀ d ∈ pairUp ds, d ≤ 2 * c
  | [], _, d, h => by simp [pairUp] at h
  | [_], _, d, h => by simp [pairUp] at h
  | a :: b :: r, hd, d, h => by
    simp only [pairUp, List.mem_cons] at h
    rcases h with rfl | h
    · have := hd a (by simp); have := hd b (by simp); omega
    · exact pairUp_le c r (fun d hm => hd d (by simp [hm])) d h

/-! ### The bits of a word -/
def bitsN : Nat → Nat → List Nat
  | 0, _ => []
  | n + 1, x => x % 2 :: bitsN n (x / 2)

theorem bitsN_length : ∀ (n x : Nat), (bitsN n x).length = n
  | 0, _ => rfl
  | n + 1, x => by simp [bitsN, bitsN_length n]
theorem bitsN_le : ∀ (n x : Nat), ∀ d ∈ bitsN n x, d ≤ 1
  | 0, _, d, h => by simp [bitsN] at h
  | n + 1, x, d, h => by
    simp only [bitsN, List.mem_cons] at h
    rcases h with rfl | h
    · omega
    · exact bitsN_le n _ d h
theorem ofD_bitsN : ∀ (n x : Nat), x < 2 ^ n → ofD 1 (bitsN n x) = x
  | 0, x, h => by simp at h; simp [bitsN, ofD, h]
  | n + 1, x, h => by
    have := ofD_bitsN n (x / 2) (by rw [Nat.pow_succ] at h; omega)
    simp only [bitsN, ofD, this]
    omega

/-- How many ones a word has. -/
def pc (x : Nat) : Nat := (bitsN 64 x).sum

theorem add256 (a b X Y : Nat) : (a + 256 * X) + (b + 256 * Y) = (a + b) + 256 * (X + Y) := by omega
theorem add256' (a b X : Nat) : (a + 256 * X) + b = (a + b) + 256 * X := by omega
theorem dv1 (a X : Nat) (h : a < 256) : (a + 256 * X) / 256 = X := by omega
theorem dv2 (a b X : Nat) (h : a < 256) (h' : b < 256) : (a + 256 * (b + 256 * X)) / 65536 = X := by omega
theorem dv4 (a b c d X : Nat) (h : a < 256) (h' : b < 256) (h2 : c < 256) (h3 : d < 256) : (a + 256 * (b + 256 * (c + 256 * (d + 256 * X)))) / 4294967296 = X := by
  have e : (4294967296 : Nat) = 65536 * 65536 := by decide
  rw [e, ← Nat.div_div_eq_div_mul, dv2 _ _ _ h h', dv2 _ _ _ h2 h3]
theorem bn (a X A B : Nat) (h : a ≤ A) (h' : X ≤ B) : a + 256 * X ≤ A + 256 * B := by omega
theorem md (a X : Nat) (h : a < 128) : (a + 256 * X) % 128 = a := by omega

theorem eight (e0 e1 e2 e3 e4 e5 e6 e7 : Nat) (h0 : e0 ≤ 8) (h1 : e1 ≤ 8) (h2 : e2 ≤ 8) (h3 : e3 ≤ 8) (h4 : e4 ≤ 8) (h5 : e5 ≤ 8) (h6 : e6 ≤ 8) (h7 : e7 ≤ 8) (x x4 x5 x6 : Nat)
    (hx : x = e0 + 256 * (e1 + 256 * (e2 + 256 * (e3 + 256 * (e4 + 256 * (e5 + 256 * (e6 + 256 * e7)))))))
    (g4 : x4 = x + x / 256) (g5 : x5 = x4 + x4 / 65536) (g6 : x6 = x5 + x5 / 4294967296) :
    x ≤ 8 + 256 * (8 + 256 * (8 + 256 * (8 + 256 * (8 + 256 * (8 + 256 * (8 + 256 * 8)))))) ∧
    x4 ≤ 16 + 256 * (16 + 256 * (16 + 256 * (16 + 256 * (16 + 256 * (16 + 256 * (16 + 256 * 8)))))) ∧
    x5 ≤ 32 + 256 * (32 + 256 * (32 + 256 * (32 + 256 * (32 + 256 * (24 + 256 * (16 + 256 * 8)))))) ∧
    x6 ≤ 64 + 256 * (64 + 256 * (64 + 256 * (64 + 256 * (32 + 256 * (24 + 256 * (16 + 256 * 8)))))) ∧ x6 % 128 = e0 + e1 + (e2 + e3) + (e4 + e5 + (e6 + e7)) := by
  have f4 : x4 = (e0 + e1) + 256 * ((e1 + e2) + 256 * ((e2 + e3) + 256 * ((e3 + e4) + 256 * ((e4 + e5) + 256 * ((e5 + e6) + 256 * ((e6 + e7) + 256 * e7)))))) := by
    rw [g4, hx, dv1 _ _ (by clear hx g4 g5 g6; omega)]
    rw [add256, add256, add256, add256, add256, add256, add256']
  have f5 : x5 = (e0 + e1 + (e2 + e3)) + 256 * ((e1 + e2 + (e3 + e4)) + 256 * ((e2 + e3 + (e4 + e5)) + 256 * ((e3 + e4 + (e5 + e6)) + 256 * ((e4 + e5 + (e6 + e7)) + 256 * ((e5 + e6 + e7) + 256 * ((e6 + e7) + 256 * e7)))))) := by
    rw [g5, f4, dv2 _ _ _ (by clear f4 hx g4 g5 g6; omega) (by clear f4 hx g4 g5 g6; omega)]
    rw [add256, add256, add256, add256, add256, add256']
  have f6 : x6 = (e0 + e1 + (e2 + e3) + (e4 + e5 + (e6 + e7))) + 256 * ((e1 + e2 + (e3 + e4) + (e5 + e6 + e7)) + 256 * ((e2 + e3 + (e4 + e5) + (e6 + e7)) + 256 * ((e3 + e4 + (e5 + e6) + e7) + 256 * ((e4 + e5 + (e6 + e7)) + 256 * ((e5 + e6 + e7) + 256 * ((e6 + e7) + 256 * e7)))))) := by
    rw [g6, f5, dv4 _ _ _ _ _ (by clear f4 f5 hx g4 g5 g6; omega) (by clear f4 f5 hx g4 g5 g6; omega) (by clear f4 f5 hx g4 g5 g6; omega) (by clear f4 f5 hx g4 g5 g6; omega)]
    rw [add256, add256, add256, add256']
  clear g4 g5 g6
  refine ⟨?_, ?_, ?_, ?_, ?_⟩
  · rw [hx]; repeat (refine bn _ _ _ _ (by clear hx f4 f5 f6; omega) ?_)
    exact h7
  · rw [f4]; repeat (refine bn _ _ _ _ (by clear hx f4 f5 f6; omega) ?_)
    exact h7
  · rw [f5]; repeat (refine bn _ _ _ _ (by clear hx f4 f5 f6; omega) ?_)
    exact h7
  · rw [f6]; repeat (refine bn _ _ _ _ (by clear hx f4 f5 f6; omega) ?_)
    exact h7
  · rw [f6, md _ _ (by clear hx f4 f5 f6; omega)]

theorem ofD8 (e0 e1 e2 e3 e4 e5 e6 e7 : Nat) : ofD 8 [e0, e1, e2, e3, e4, e5, e6, e7] = e0 + 256 * (e1 + 256 * (e2 + 256 * (e3 + 256 * (e4 + 256 * (e5 + 256 * (e6 + 256 * e7)))))) := by
  simp only [ofD, Nat.reducePow, Nat.mul_zero, Nat.add_zero]

theorem list8 (l : List Nat) (h : l.length = 8) : ∃ e0 e1 e2 e3 e4 e5 e6 e7, l = [e0, e1, e2, e3, e4, e5, e6, e7] := by
  match l, h with
  | [e0, e1, e2, e3, e4, e5, e6, e7], _ => exact ⟨e0, e1, e2, e3, e4, e5, e6, e7, rfl⟩

theorem Mk1 : Mk 1 32 = 6148914691236517205 := by decide +kernel
theorem Mk2 : Mk 2 16 = 3689348814741910323 := by decide +kernel
theorem Mk4 : Mk 4 8 = 1085102592571150095 := by decide +kernel

/-- THE COUNT BY HALVES, IN NUMBERS. -/
theorem pc_steps (x x1 x2 x3 x4 x5 x6 : Nat) (hx : x < 18446744073709551616)
    (g1 : x1 = (x / 2 &&& 6148914691236517205) + (x &&& 6148914691236517205))
    (g2 : x2 = (x1 / 4 &&& 3689348814741910323) + (x1 &&& 3689348814741910323))
    (g3 : x3 = (x2 / 16 + x2 &&& 1085102592571150095))
    (g4 : x4 = x3 + x3 / 256) (g5 : x5 = x4 + x4 / 65536) (g6 : x6 = x5 + x5 / 4294967296) :
    x3 < 4611686018427387904 ∧ x4 < 4611686018427387904 ∧ x5 < 4611686018427387904 ∧ x6 < 9223372036854775808 ∧ x6 % 128 = pc x := by
  have b0 := ofD_bitsN 64 x (by simpa using hx)
  have l0 := bitsN_length 64 x
  have k0 : ∀ d ∈ bitsN 64 x, d ≤ 1 := bitsN_le 64 x
  have l1 := pairUp_length 32 _ l0
  have k1 := pairUp_le 1 _ k0
  have l2 := pairUp_length 16 _ l1
  have k2 := pairUp_le _ _ k1
  have l3 := pairUp_length 8 _ l2
  have k3 := pairUp_le _ _ k2
  have s1 := pairUp_sum 32 _ l0
  have s2 := pairUp_sum 16 _ l1
  have s3 := pairUp_sum 8 _ l2
  have e1 := half 1 32 _ l0 (fun d hd => by have := k0 d hd; omega)
  rw [b0, Mk1] at e1
  have e2 := half 2 16 _ l1 (fun d hd => by have := k1 d hd; omega)
  rw [show 2 * 1 = 2 from rfl] at e1
  rw [← e1, Mk2] at e2
  have e3 := half3 4 8 _ l2 (fun d hd => by have := k2 d hd; omega)
  rw [show 2 * 2 = 4 from rfl] at e2
  rw [← e2, Mk4] at e3
  rw [show 2 * 4 = 8 from rfl] at e3
  obtain ⟨c0, c1, c2, c3, c4, c5, c6, c7, hl⟩ := list8 _ l3
  have hs : pc x = c0 + c1 + (c2 + c3) + (c4 + c5 + (c6 + c7)) := by
    show (bitsN 64 x).sum = _
    rw [← s1, ← s2, ← s3, hl]
    simp
    omega
  rw [hl] at e3 k3
  simp only [List.mem_cons, List.not_mem_nil, or_false, forall_eq_or_imp, forall_eq] at k3
  obtain ⟨q0, q1, q2, q3, q4, q5, q6, q7⟩ := k3
  rw [ofD8] at e3
  have x1e : x / 2 ^ 1 = x / 2 := rfl
  have x2e : ((x / 2 &&& 6148914691236517205) + (x &&& 6148914691236517205)) / 2 ^ 2 = x1 / 4 := by rw [g1]
  have key : x3 = c0 + 256 * (c1 + 256 * (c2 + 256 * (c3 + 256 * (c4 + 256 * (c5 + 256 * (c6 + 256 * c7)))))) := by
    rw [← e3, g3, g2, g1]
  obtain ⟨z0, z1, z2, z3, z4⟩ := eight c0 c1 c2 c3 c4 c5 c6 c7 q0 q1 q2 q3 q4 q5 q6 q7 x3 x4 x5 x6 key g4 g5 g6
  rw [hs]
  clear e1 e2 e3 key g1 g2 g3 g4 g5 g6 hs hl x2e s1 s2 s3 b0 k0 k1 k2
  exact ⟨Nat.lt_of_le_of_lt z0 (by decide), Nat.lt_of_le_of_lt z1 (by decide), Nat.lt_of_le_of_lt z2 (by decide), Nat.lt_of_le_of_lt z3 (by decide), z4⟩
end Go.Proofs.YtadogffllkompaaDoor.Pl
