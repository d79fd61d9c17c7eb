/-
  Bytes: plain, in memory; the document's Same; holds, word.
-/
import Derived.Test.YtlffcccicpdnfaaFrS
namespace Go.Proofs.Ytlffcccicpdnfaa
open Go.RowKit Go.BigFrame

attribute [local go_sem] Oper.semAt_some

/-- The word of some bytes, the lowest first. -/
def leN : List Nat → Nat
  | [] => 0
  | x :: l => x + 256 * leN l
theorem leN_snoc (x : Nat) : ∀ l : List Nat, leN (l ++ [x]) = leN l + x * 256 ^ l.length
  | [] => by simp [leN]
  | y :: l => by
    have := leN_snoc x l
    simp only [List.cons_append, leN, this, List.length_cons, Nat.pow_succ]
    rw [Nat.mul_add, ← Nat.mul_assoc, ← Nat.mul_assoc, Nat.mul_comm 256 x, Nat.mul_right_comm x 256]
    omega
theorem leN_lt : ∀ l : List Nat, (∀ x ∈ l, x < 256) → leN l < 256 ^ l.length
  | [], _ => by simp [leN]
  | x :: l, h => by
    have h1 := h x (by simp)
    have h2 := leN_lt l (fun y hy => h y (by simp [hy]))
    simp only [leN, List.length_cons, Nat.pow_succ]
    generalize 256 ^ l.length = P at *
    omega
theorem leN_at : ∀ (l : List Nat) (k : Nat) (hk : k < l.length), (∀ x ∈ l, x < 256) → leN l / 256 ^ k % 256 = l[k]
  | x :: l, 0, _, h => by
    have h1 := h x (by simp)
    simp only [leN, Nat.pow_zero, Nat.div_one, List.getElem_cons_zero]
    omega
  | x :: l, k + 1, hk, h => by
    have h1 := h x (by simp)
    have ih := leN_at l k (by simpa using hk) (fun y hy => h y (by simp [hy]))
    rw [List.getElem_cons_succ, ← ih, Nat.pow_succ, Nat.mul_comm, ← Nat.div_div_eq_div_mul]
    simp only [leN]
    rw [show (x + 256 * leN l) / 256 = leN l by omega]
/-- The bytes of a word. -/
def leB (n : Nat) : List Nat := (List.range 8).map fun k => n / 256 ^ k % 256
theorem leB_len (n : Nat) : (leB n).length = 8 := by simp [leB]
theorem leB_leN {l : List Nat} (h8 : l.length = 8) (h : ∀ x ∈ l, x < 256) : leB (leN l) = l := by
  apply List.ext_getElem (by rw [leB_len, h8])
  intro i h1 h2
  simp only [leB, List.getElem_map, List.getElem_range]
  exact leN_at l i h2 h
theorem leB_lt (n : Nat) : ∀ x ∈ leB n, x < 256 := by
  intro x hx
  obtain ⟨k, _, rfl⟩ := List.mem_map.1 hx
  exact Nat.mod_lt _ (by decide)

/-- So many words of those bytes, from k on. -/
def wrF (F : FV) (k : Nat) (l : List Nat) : Nat → FV
  | 0 => F
  | i + 1 => upd (wrF F k l i) (k + i) (num (leN ((l.drop (8 * i)).take 8)))
/-- The bytes of so many words, from k on. -/
def rdB (F : FV) (k : Nat) : Nat → List Nat
  | 0 => []
  | i + 1 => rdB F k i ++ leB (F (k + i)).n
theorem rdB_len (F : FV) (k : Nat) : ∀ i, (rdB F k i).length = 8 * i
  | 0 => rfl
  | i + 1 => by rw [rdB, List.length_append, rdB_len F k i, leB_len]; omega
theorem wrF_out (F : FV) (k : Nat) (l : List Nat) : ∀ (i j : Nat), (j < k ∨ k + i ≤ j) → wrF F k l i j = F j
  | 0, _, _ => rfl
  | i + 1, j, h => by rw [wrF, upd_other _ _ (by omega), wrF_out F k l i j (by omega)]
theorem wrF_in (F : FV) (k : Nat) (l : List Nat) : ∀ (i j : Nat), j < i → wrF F k l i (k + j) = num (leN ((l.drop (8 * j)).take 8))
  | i + 1, j, h => by
    by_cases e : j = i
    · subst e; rw [wrF, upd_same]
    · rw [wrF, upd_other _ _ (by omega), wrF_in F k l i j (by omega)]
theorem rd_wr (F : FV) (k : Nat) (l : List Nat) (r : Nat) (hl : l.length = 8 * r) (h : ∀ x ∈ l, x < 256) : ∀ i, i ≤ r → rdB (wrF F k l r) k i = l.take (8 * i)
  | 0, _ => by simp [rdB]
  | i + 1, hi => by
    rw [rdB, rd_wr F k l r hl h i (by omega), wrF_in F k l r i (by omega)]
    show _ ++ leB (leN _) = _
    rw [leB_leN (by rw [List.length_take, List.length_drop]; omega) (fun x hx => h x (List.mem_of_mem_drop (List.mem_of_mem_take hx))), show 8 * (i + 1) = 8 * i + 8 by omega, List.take_add]
/-- Things of a frame, one behind the other. -/
def things (F : FV) (k n : Nat) : List V5 := (List.range n).map fun i => F (k + i)
theorem things_len (F : FV) (k n : Nat) : (things F k n).length = n := by simp [things]
theorem things_at (F : FV) (k n i : Nat) (hi : i < (things F k n).length) : (things F k n)[i] = F (k + i) := by simp [things]

/-- Bytes in memory. -/
def BA (w : World) (a : Option Addr) (l : List Nat) : Prop := l = [] ∨ ∃ b off, a = some ⟨b, off, none⟩ ∧ ∀ i (hi : i < l.length), w.cell? ⟨b, off + i, none⟩ = some (.int .u8 (l[i] : Int))
theorem BA.ch {w w' : World} {S : List Nat} {a : Option Addr} {l : List Nat} (h : BA w a l) (hc : Ch S w w') (hS : ∀ y, a = some y → y.block ∉ S) : BA w' a l := by
  rcases h with rfl | ⟨b, off, rfl, hk⟩
  · exact .inl rfl
  · refine .inr ⟨b, off, rfl, fun i hi => ?_⟩
    have h1 := hk i hi
    exact (hc.cell (p := ⟨b, off + i, none⟩) (cell_lt h1) (hS ⟨b, off, none⟩ rfl)).trans h1
theorem BA.take {w : World} {a : Option Addr} {l : List Nat} (h : BA w a l) (k : Nat) : BA w a (l.take k) := by
  rcases h with rfl | ⟨b, off, rfl, hk⟩
  · exact .inl (by simp)
  · refine .inr ⟨b, off, rfl, fun i hi => ?_⟩
    rw [hk i (by simp at hi; omega), List.getElem_take]
/-- Bytes in a row of the call's own. -/
def u8l (l : List Nat) : List Value := l.map fun (x : Nat) => Value.int .u8 ((x : Nat) : Int)
def BW (w : World) (lo : Nat) (v : Value) (l : List Nat) : Prop := w.ownsRow lo 5 1 v l.length (u8l l)
theorem BW.nil (w : World) (lo : Nat) : BW w lo (.slice none 0 0) [] := World.ownsRow_nil _ _ _ _
theorem BW.ch {w w' : World} {S : List Nat} {lo : Nat} {v : Value} {l : List Nat} (h : BW w lo v l) (hc : Ch S w w') (hS : ∀ k ∈ S, k < lo) : BW w' lo v l := own_ch h hc hS
theorem BW.snoc {w : World} {lo : Nat} {v : Value} {l : List Nat} {x : Nat} (h : w.ownsRow lo 5 1 v (l.length + 1) (u8l l ++ [.int .u8 (x : Int)])) : BW w lo v (l ++ [x]) := by
  unfold BW u8l
  unfold u8l at h
  simpa using h
theorem BW.form {w : World} {lo : Nat} {v : Value} {l : List Nat} (h : BW w lo v l) : ∃ a cap, v = .slice a l.length cap ∧ BA w a l ∧ ∀ y, a = some y → lo ≤ y.block ∧ y.block < w.heap.size := by
  unfold BW at h
  rcases h.2 with ⟨rfl, h0⟩ | ⟨g, cp, cur, rfl, hb, hg, _⟩
  · exact ⟨none, 0, by rw [h0], .inl (List.eq_nil_of_length_eq_zero h0), fun y e => by cases e⟩
  · refine ⟨some ⟨g, 0, none⟩, cp, rfl, .inr ⟨g, 0, rfl, fun i hi => ?_⟩, fun y e => ?_⟩
    · have := h.cells rfl i (.int .u8 (l[i] : Int)) (by simp [u8l, hi])
      rwa [addr_add] at this
    · cases e
      exact ⟨hb, (Array.getElem?_eq_some_iff.1 hg).1⟩
theorem cells_u8 (w : World) (x : Nat) (t : TypeId) : ∀ j u, [Value.int .u8 (x : Int)][j]? = some u → (w.alloc (.cells #[.int .u8 (x : Int)] t)).cell? ((⟨w.heap.size, 0, none⟩ : Addr).add j) = some u := by
  intro j u hj
  rw [addr_add, Nat.zero_add, World.cell?_alloc_at _ _ _ _ rfl]
  match j, hj with
  | 0, hj => simpa using hj

theorem sameb_any {w : World} {a1 a2 : Option Addr} {l : List Nat} {n : Nat} (c1 c2 : Nat) (hn : l.length = n) (hn2 : n ≤ 100000) (h1 : BA w a1 l) (h2 : BA w a2 l) :
    Calls Try.prog 20 #[.slice a1 n c1, .slice a2 n c2] w fun e w' => e = .returned (.bool true) ∧ Ch [] w w' := by
  have H1 := Lib.hid h1
  have H2 := Lib.hid h2
  have HN := Lib.hid hn
  clear h1 h2 hn
  go_enter Try.func20, Try.ntmps20
  go_wp2_with fail
  go_loopw [5] (fun i wr => Ch [] w wr ∧ ∃ j : Nat, i = .int .i64 (j : Int) ∧ j ≤ n) (fun i _ => n - (intOf i).toNat)
  case atStart => exact ⟨Ch.refl _ _, 0, rfl, Nat.zero_le _⟩
  case round =>
    obtain ⟨hcw, j, rfl, hj1⟩ := hrel
    by_cases hlt : j < n
    · have hjl : j < l.length := by rw [HN.out]; exact hlt
      have hlt' : (j : Int) < (n : Int) := by omega
      have k1 := H1.out.ch hcw (by simp)
      have k2 := H2.out.ch hcw (by simp)
      have HC := Lib.hid hcw
      rcases k1 with rfl | ⟨b1, o1, rfl, k1⟩
      · simp at hjl
      · rcases k2 with rfl | ⟨b2, o2, rfl, k2⟩
        · simp at hjl
        · have d1 := k1 j hjl
          have d2 := k2 j hjl
          generalize (l[j] : Int) = z at d1 d2
          clear k1 k2 hcw
          go_wp2_with fail
          go_region
          go_wp2_with fail
          go_roundw
          case rel => exact ⟨HC.out.drew, j + 1, by go_num, by omega⟩
          case measure => simp [intOf]; omega
    · obtain rfl : j = n := by omega
      have HC := Lib.hid hcw
      clear hcw
      go_wp2
      go_ret
      exact ⟨rfl, HC.out⟩

/-- Has a stack so many words from there on? -/
def hol (a n : Int) : Prop := 0 ≤ a ∧ 0 ≤ n ∧ n ≤ 8 - a
instance (a n : Int) : Decidable (hol a n) := by unfold hol; exact inferInstance
theorem holds_any {a n : Int} (ha : fit a) (w : World) : Calls Try.prog 34 #[.int .i64 a, .int .i64 n] w fun e w' => e = .returned (.bool (decide (hol a n))) ∧ w = w' := by
  by_cases h0 : 0 ≤ a
  · by_cases h1 : 0 ≤ n
    · have hw : IntKind.i64.wrap (8 - a) = 8 - a := by rw [IntKind.wrap_i64]; have := ha.2; omega
      have he : decide (hol a n) = decide (n ≤ 8 - a) := by unfold hol; simp [h0, h1]
      rw [he]
      obtain ⟨q, hq⟩ : ∃ q, 8 - a = q := ⟨_, rfl⟩
      have hw2 : IntKind.i64.wrap (8 - a) = q := by rw [hw, hq]
      rw [hq]
      clear he hw hq ha
      go_enter Try.func34, Try.ntmps34
      go_wp2_with fail
      go_ret
      exact ⟨rfl, rfl⟩
    · have he : decide (hol a n) = false := decide_eq_false (by unfold hol; omega)
      rw [he]
      clear he ha
      go_enter Try.func34, Try.ntmps34
      go_wp2_with fail
      go_ret
      exact ⟨rfl, rfl⟩
  · have he : decide (hol a n) = false := decide_eq_false (by unfold hol; omega)
    rw [he]
    clear he ha
    go_enter Try.func34, Try.ntmps34
    go_wp2_with fail
    go_ret
    exact ⟨rfl, rfl⟩
end Go.Proofs.Ytlffcccicpdnfaa
