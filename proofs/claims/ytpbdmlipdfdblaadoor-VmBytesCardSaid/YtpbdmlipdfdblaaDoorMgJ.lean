/-
  Several texts in one: Bytes: plain, in memory; the document's Same; holds, word. · The program's word, Write. · The program's Read. · The document's Read. · The document's Write. (Written by gen/rwrite18.py.)
-/
import Derived.Test.YtpbdmlipdfdblaaDoorMgI
import Derived.Deep.WholeRow
namespace Go.Proofs.YtpbdmlipdfdblaaDoor
open Go.RowKit Go.BigFrame

attribute [local go_sem] Oper.semAt_some

/-- The word of some bytes, the lowest first. -/
def leN : List Nat → Nat
  | [] => 0
  | x :: l => x + 256 * leN l
theorem leN_snoc (x : Nat) : ∀ l : List Nat, leN (l ++ [x]) = leN l + x * 256 ^ l.length
  | [] => by simp [leN]
  | y :: l => by
    have := leN_snoc x l
    simp only [List.cons_append, leN, this, List.length_cons, Nat.pow_succ]
    rw [Nat.mul_add, ← Nat.mul_assoc, ← Nat.mul_assoc, Nat.mul_comm 256 x, Nat.mul_right_comm x 256]
    omega
theorem leN_lt : ∀ l : List Nat, (∀ x ∈ l, x < 256) → leN l < 256 ^ l.length
  | [], _ => by simp [leN]
  | x :: l, h => by
    have h1 := h x (by simp)
    have h2 := leN_lt l (fun y hy => h y (by simp [hy]))
    simp only [leN, List.length_cons, Nat.pow_succ]
    generalize 256 ^ l.length = P at *
    omega
theorem leN_at : ∀ (l : List Nat) (k : Nat) (hk : k < l.length), (∀ x ∈ l, x < 256) → leN l / 256 ^ k % 256 = l[k]
  | x :: l, 0, _, h => by
    have h1 := h x (by simp)
    simp only [leN, Nat.pow_zero, Nat.div_one, List.getElem_cons_zero]
    omega
  | x :: l, k + 1, hk, h => by
    have h1 := h x (by simp)
    have ih := leN_at l k (by simpa using hk) (fun y hy => h y (by simp [hy]))
    rw [List.getElem_cons_succ, ← ih, Nat.pow_succ, Nat.mul_comm, ← Nat.div_div_eq_div_mul]
    simp only [leN]
    rw [show (x + 256 * leN l) / 256 = leN l by omega]
/-- The bytes of a word. -/
def leB (n : Nat) : List Nat := (List.range 8).map fun k => n / 256 ^ k % 256
theorem leB_len (n : Nat) : (leB n).length = 8 := by simp [leB]
theorem leB_leN {l : List Nat} (h8 : l.length = 8) (h : ∀ x ∈ l, x < 256) : leB (leN l) = l := by
  apply List.ext_getElem (by rw [leB_len, h8])
  intro i h1 h2
  simp only [leB, List.getElem_map, List.getElem_range]
  exact leN_at l i h2 h
theorem leB_lt (n : Nat) : ∀ x ∈ leB n, x < 256 := by
  intro x hx
  obtain ⟨k, _, rfl⟩ := List.mem_map.1 hx
  exact Nat.mod_lt _ (by decide)

/-- So many words of those bytes, from k on. -/
def wrF (F : FV) (k : Nat) (l : List Nat) : Nat → FV
  | 0 => F
  | i + 1 => upd (wrF F k l i) (k + i) (num (leN ((l.drop (8 * i)).take 8)))
/-- The bytes of so many words, from k on. -/
def rdB (F : FV) (k : Nat) : Nat → List Nat
  | 0 => []
  | i + 1 => rdB F k i ++ leB (F (k + i)).n
theorem rdB_len (F : FV) (k : Nat) : ∀ i, (rdB F k i).length = 8 * i
  | 0 => rfl
  | i + 1 => by rw [rdB, List.length_append, rdB_len F k i, leB_len]; omega
theorem wrF_out (F : FV) (k : Nat) (l : List Nat) : ∀ (i j : Nat), (j < k ∨ k + i ≤ j) → wrF F k l i j = F j
  | 0, _, _ => rfl
  | i + 1, j, h => by rw [wrF, upd_other _ _ (by omega), wrF_out F k l i j (by omega)]
theorem wrF_in (F : FV) (k : Nat) (l : List Nat) : ∀ (i j : Nat), j < i → wrF F k l i (k + j) = num (leN ((l.drop (8 * j)).take 8))
  | i + 1, j, h => by
    by_cases e : j = i
    · subst e; rw [wrF, upd_same]
    · rw [wrF, upd_other _ _ (by omega), wrF_in F k l i j (by omega)]
theorem rd_wr (F : FV) (k : Nat) (l : List Nat) (r : Nat) (hl : l.length = 8 * r) (h : ∀ x ∈ l, x < 256) : ∀ i, i ≤ r → rdB (wrF F k l r) k i = l.take (8 * i)
  | 0, _ => by simp [rdB]
  | i + 1, hi => by
    rw [rdB, rd_wr F k l r hl h i (by omega), wrF_in F k l r i (by omega)]
    show _ ++ leB (leN _) = _
    rw [leB_leN (by rw [List.length_take, List.length_drop]; omega) (fun x hx => h x (List.mem_of_mem_drop (List.mem_of_mem_take hx))), show 8 * (i + 1) = 8 * i + 8 by omega, List.take_add]
/-- Things of a frame, one behind the other. -/
def things (F : FV) (k n : Nat) : List V5 := (List.range n).map fun i => F (k + i)
theorem things_len (F : FV) (k n : Nat) : (things F k n).length = n := by simp [things]
theorem things_at (F : FV) (k n i : Nat) (hi : i < (things F k n).length) : (things F k n)[i] = F (k + i) := by simp [things]

/-- Bytes in memory. -/
def BA (w : World) (a : Option Addr) (l : List Nat) : Prop := l = [] ∨ ∃ b off, a = some ⟨b, off, none⟩ ∧ ∀ i (hi : i < l.length), w.cell? ⟨b, off + i, none⟩ = some (.int .u8 (l[i] : Int))
theorem BA.ch {w w' : World} {S : List Nat} {a : Option Addr} {l : List Nat} (h : BA w a l) (hc : Ch S w w') (hS : ∀ y, a = some y → y.block ∉ S) : BA w' a l := by
  rcases h with rfl | ⟨b, off, rfl, hk⟩
  · exact .inl rfl
  · refine .inr ⟨b, off, rfl, fun i hi => ?_⟩
    have h1 := hk i hi
    exact (hc.cell (p := ⟨b, off + i, none⟩) (cell_lt h1) (hS ⟨b, off, none⟩ rfl)).trans h1
theorem BA.take {w : World} {a : Option Addr} {l : List Nat} (h : BA w a l) (k : Nat) : BA w a (l.take k) := by
  rcases h with rfl | ⟨b, off, rfl, hk⟩
  · exact .inl (by simp)
  · refine .inr ⟨b, off, rfl, fun i hi => ?_⟩
    rw [hk i (by simp at hi; omega), List.getElem_take]
/-- Bytes in a row of the call's own. -/
def u8l (l : List Nat) : List Value := l.map fun (x : Nat) => Value.int .u8 ((x : Nat) : Int)
def BW (w : World) (lo : Nat) (v : Value) (l : List Nat) : Prop := w.ownsRow lo 5 1 v l.length (u8l l)
theorem BW.nil (w : World) (lo : Nat) : BW w lo (.slice none 0 0) [] := World.ownsRow_nil _ _ _ _
theorem BW.ch {w w' : World} {S : List Nat} {lo : Nat} {v : Value} {l : List Nat} (h : BW w lo v l) (hc : Ch S w w') (hS : ∀ k ∈ S, k < lo) : BW w' lo v l := own_ch h hc hS
theorem BW.snoc {w : World} {lo : Nat} {v : Value} {l : List Nat} {x : Nat} (h : w.ownsRow lo 5 1 v (l.length + 1) (u8l l ++ [.int .u8 (x : Int)])) : BW w lo v (l ++ [x]) := by
  unfold BW u8l
  unfold u8l at h
  simpa using h
theorem BW.form {w : World} {lo : Nat} {v : Value} {l : List Nat} (h : BW w lo v l) : ∃ a cap, v = .slice a l.length cap ∧ BA w a l ∧ ∀ y, a = some y → lo ≤ y.block ∧ y.block < w.heap.size := by
  unfold BW at h
  rcases h.2 with ⟨rfl, h0⟩ | ⟨g, cp, cur, rfl, hb, hg, _⟩
  · exact ⟨none, 0, by rw [h0], .inl (List.eq_nil_of_length_eq_zero h0), fun y e => by cases e⟩
  · refine ⟨some ⟨g, 0, none⟩, cp, rfl, .inr ⟨g, 0, rfl, fun i hi => ?_⟩, fun y e => ?_⟩
    · have := h.cells rfl i (.int .u8 (l[i] : Int)) (by simp [u8l, hi])
      rwa [addr_add] at this
    · cases e
      exact ⟨hb, (Array.getElem?_eq_some_iff.1 hg).1⟩
theorem cells_u8 (w : World) (x : Nat) (t : TypeId) : ∀ j u, [Value.int .u8 (x : Int)][j]? = some u → (w.alloc (.cells #[.int .u8 (x : Int)] t)).cell? ((⟨w.heap.size, 0, none⟩ : Addr).add j) = some u := by
  intro j u hj
  rw [addr_add, Nat.zero_add, World.cell?_alloc_at _ _ _ _ rfl]
  match j, hj with
  | 0, hj => simpa using hj

/-- Has a stack so many words from there on? -/
def hol (a n : Int) : Prop := 0 ≤ a ∧ 0 ≤ n ∧ n ≤ 8 - a
instance (a n : Int) : Decidable (hol a n) := by unfold hol; exact inferInstance
theorem holds_any {a n : Int} (ha : fit a) (w : World) : Calls Tryd.prog 66 #[.int .i64 a, .int .i64 n] w fun e w' => e = .returned (.bool (decide (hol a n))) ∧ w = w' := by
  by_cases h0 : 0 ≤ a
  · by_cases h1 : 0 ≤ n
    · have hw : IntKind.i64.wrap (8 - a) = 8 - a := by rw [IntKind.wrap_i64]; have := ha.2; omega
      have he : decide (hol a n) = decide (n ≤ 8 - a) := by unfold hol; simp [h0, h1]
      rw [he]
      obtain ⟨q, hq⟩ : ∃ q, 8 - a = q := ⟨_, rfl⟩
      have hw2 : IntKind.i64.wrap (8 - a) = q := by rw [hw, hq]
      rw [hq]
      clear he hw hq ha
      go_enter Tryd.func66, Tryd.ntmps66
      go_wp2_with fail
      go_ret
      exact ⟨rfl, rfl⟩
    · have he : decide (hol a n) = false := decide_eq_false (by unfold hol; omega)
      rw [he]
      clear he ha
      go_enter Tryd.func66, Tryd.ntmps66
      go_wp2_with fail
      go_ret
      exact ⟨rfl, rfl⟩
  · have he : decide (hol a n) = false := decide_eq_false (by unfold hol; omega)
    rw [he]
    clear he ha
    go_enter Tryd.func66, Tryd.ntmps66
    go_wp2_with fail
    go_ret
    exact ⟨rfl, rfl⟩
end Go.Proofs.YtpbdmlipdfdblaaDoor

namespace Go.Proofs.YtpbdmlipdfdblaaDoor
open Go.RowKit Go.BigFrame

attribute [local go_sem] Oper.semAt_some

theorem pow256 (k : Nat) : 256 ^ k = 2 ^ (8 * k) := by rw [Nat.pow_mul]
theorem or_high {n x k : Nat} (hn : n < 256 ^ k) : n ||| x * 256 ^ k = n + x * 256 ^ k := by
  rw [pow256] at hn ⊢
  have := Nat.two_pow_add_eq_or_of_lt hn x
  rw [Nat.or_comm, Nat.mul_comm x, ← this, Nat.add_comm]
theorem leN_take {l : List Nat} {k : Nat} (hk : k < l.length) : leN (l.take (k + 1)) = leN (l.take k) + l[k] * 256 ^ k := by
  rw [List.take_succ_eq_append_getElem hk, leN_snoc, List.length_take, Nat.min_eq_left (by omega)]
set_option maxHeartbeats 2000000 in
theorem fword_any {w : World} {a : Option Addr} {cap : Nat} {l : List Nat} (h8 : l.length = 8) (hb : ∀ x ∈ l, x < 256) (hA : BA w a l) :
    Calls Tryd.prog 67 #[.slice a 8 cap] w fun e w' => e = .returned (.int .u64 ((leN l : Nat) : Int)) ∧ w = w' := by
  have HA := Lib.hid hA
  have HB := Lib.hid hb
  have H8 := Lib.hid h8
  clear hA hb h8
  go_enter Tryd.func67, Tryd.ntmps67
  go_wp2_with fail
  go_loopw [3, 8] (fun nv i wr => ∃ k n : Nat, i = .int .i64 (k : Int) ∧ k ≤ 8 ∧ nv = .int .u64 (n : Int) ∧ n = leN (l.take k) ∧ w = wr) (fun _ i _ => 8 - (intOf i).toNat)
  case atStart => exact ⟨0, 0, rfl, by decide, rfl, rfl, rfl⟩
  case round =>
    obtain ⟨k, n, rfl, hk, rfl, hn, rfl⟩ := hrel
    by_cases hk8 : k < 8
    · have hk8' : (k : Int) < 8 := by omega
      have hkl : k < l.length := by rw [H8.out]; exact hk8
      rcases HA.out with h0 | ⟨b, off, rfl, hc⟩
      · exfalso; rw [h0] at hkl; simp at hkl
      have hcell := hc k hkl
      have hx := HB.out _ (List.getElem_mem hkl)
      have hst := leN_take hkl
      generalize l[k] = x at *
      have hnl : n < 256 ^ k := by
        rw [hn]
        have := leN_lt (l.take k) (fun y hy => HB.out y (List.mem_of_mem_take hy))
        rwa [List.length_take, Nat.min_eq_left (by omega)] at this
      obtain ⟨y, hy⟩ : ∃ y, x * 256 ^ k = y := ⟨_, rfl⟩
      obtain ⟨n2, hn2⟩ : ∃ n2, n + y = n2 := ⟨_, rfl⟩
      have hor : n ||| y = n2 := by rw [← hy, or_high hnl, hy, hn2]
      have hyl : y < 18446744073709551616 := by
        rw [← hy]
        have h1 : 256 ^ k ≤ 256 ^ 7 := Nat.pow_le_pow_right (by decide) (by omega)
        have h2 : x * 256 ^ k ≤ 255 * 256 ^ 7 := Nat.mul_le_mul (by omega) h1
        have h3 : 255 * 256 ^ 7 < 18446744073709551616 := by decide
        omega
      have hnl2 : n < 18446744073709551616 := by
        have h1 : 256 ^ k ≤ 256 ^ 7 := Nat.pow_le_pow_right (by decide) (by omega)
        have h3 : 256 ^ 7 < 18446744073709551616 := by decide
        omega
      obtain ⟨s, hs⟩ : ∃ s, 8 * k = s := ⟨_, rfl⟩
      have e1 : IntKind.u64.wrap (x : Int) = (x : Int) := by rw [IntKind.wrap_u64]; omega
      have e2 : IntKind.i64.wrap (8 * (k : Int)) = (s : Int) := by rw [IntKind.wrap_i64]; omega
      have e3 : IntKind.u64.wrap ((x : Int) * 2 ^ s) = (y : Int) := by
        rw [show (2 : Int) ^ s = ((2 ^ s : Nat) : Int) by simp, ← Int.natCast_mul, ← hs, ← pow256, hy, IntKind.wrap_u64]; omega
      have e4 : bits .or .u64 (n : Int) (y : Int) = (n2 : Int) := by rw [← hor]; exact u64_or_nat n y hnl2 hyl
      have s1 : (s : Int) ≤ 64 := by omega
      have s2 : s ≤ 64 := by omega
      have s3 : ¬ (s : Int) < 0 := by omega
      have HN := Lib.hid (show n2 = leN (l.take (k + 1)) by rw [hst, ← hn, hy, hn2])
      have ew : IntKind.i64.wrap ((k : Int) + 1) = ((k + 1 : Nat) : Int) := by rw [IntKind.wrap_i64]; omega
      clear hc hkl hx hst hn hnl hy hn2 hor hyl hnl2 hs HA
      go_wp2_with fail
      go_roundw
      case rel => exact ⟨k + 1, n2, rfl, by omega, rfl, HN.out, trivial⟩
      case measure => simp [intOf]; omega
    · obtain rfl : k = 8 := by omega
      have HN := Lib.hid (show n = leN l by rw [hn, List.take_of_length_le (by have := H8.out; omega)])
      clear hn hk8
      go_wp2_with fail
      go_ret
      exact ⟨by rw [HN.out]; rfl, rfl⟩
/-- The error, and what becomes of a frame. -/
def wrOk (a : Int) (n : Nat) : Prop := n % 8 = 0 ∧ hol a ((n / 8 : Nat) : Int)
instance (a : Int) (n : Nat) : Decidable (wrOk a n) := by unfold wrOk; exact inferInstance
def wrE (a : Int) (n : Nat) : Int := if wrOk a n then 0 else 1
def wrT (F : FV) (a : Int) (l : List Nat) : FV := if wrOk a l.length then wrF F (10 + a.toNat) l (l.length / 8) else F

set_option maxHeartbeats 4000000 in
theorem write_ok {w : World} {b : Nat} {F : FV} (h : FR w b F) {k r n cap : Nat} (hkr : k + r ≤ 8) (hnr : n = 8 * r) (hnc : n ≤ cap) {v : Option Addr} {l : List Nat} (hl : l.length = n) (hb : ∀ x ∈ l, x < 256) (hA : BA w v l) (hv : ∀ y, v = some y → l ≠ [] → y.block ≠ b) :
    Calls Tryd.prog 43 #[.pointer (some ⟨b, 0, none⟩), .int .i64 (k : Int), .slice v n cap] w fun e w' => e = .returned (.int .i64 0) ∧ FR w' b (wrF F (10 + k) l r) ∧ Cf b w w' := by
  have HH := Lib.hid (fun W => holds_any (a := (k : Int)) (n := (r : Int)) ⟨by omega, by omega⟩ W)
  rw [show decide (hol (k : Int) (r : Int)) = true from decide_eq_true (by unfold hol; omega)] at HH
  have q1 : (n : Int).tmod 8 = 0 := by rw [Int.tmod_eq_emod_of_nonneg (by omega)]; omega
  have q2 : (n : Int).tdiv 8 = (r : Int) := by rw [Int.tdiv_eq_ediv_of_nonneg (by omega)]; omega
  have q3 : IntKind.i64.wrap (r : Int) = (r : Int) := by rw [IntKind.wrap_i64]; omega
  have HL := Lib.hid hl
  have HB := Lib.hid hb
  have H0 := Lib.hid (show BA w v (l.drop (8 * 0)) from by simpa using hA)
  have HF := Lib.hid h
  have HV := Lib.hid hv
  have HNR := Lib.hid hnr
  have HKR := Lib.hid hkr
  have HNC := Lib.hid hnc
  clear hl hb hA h hv hnr hkr hnc
  go_enter Tryd.func43, Tryd.ntmps43
  go_wp2_with (first | (with_reducible refine (HH.out _).mono ?_; rintro e w' ⟨rfl, rfl⟩) | fail)
  clear HH q1 q2 q3
  go_loopw [1, 2] (fun av bv wr => ∃ (i kk m cap' : Nat) (a' : Option Addr), av = .int .i64 (kk : Int) ∧ bv = .slice a' m cap' ∧ i ≤ r ∧ kk = k + i ∧ m = 8 * (r - i) ∧ m ≤ cap' ∧ BA wr a' (l.drop (8 * i)) ∧ (∀ y, a' = some y → l.drop (8 * i) ≠ [] → y.block ≠ b) ∧ FR wr b (wrF F (10 + k) l i) ∧ Cf b w wr) (fun av _ _ => 8 - (intOf av).toNat)
  case atStart => exact ⟨0, k, n, cap, v, rfl, rfl, Nat.zero_le _, by omega, by have := HNR.out; omega, HNC.out, H0.out, (by simpa using HV.out), HF.out, Cf.refl _ _⟩
  case round =>
    obtain ⟨i, kk, m, cap', a', rfl, rfl, hi, hkk, hm, hmc, hA, hav, hF, hc⟩ := hrel
    have HC := Lib.hid hc
    have HFi := Lib.hid hF
    by_cases hir : i < r
    · have hm0 : 0 < m := by omega
      have hm0' : (0 : Int) < (m : Int) := by omega
      have hld : (l.drop (8 * i)).length = m := by rw [List.length_drop, HL.out, HNR.out]; omega
      have hk8 : kk < 8 := by have := HKR.out; omega
      have hk8' : (kk : Int) < 8 := by omega
      have hm8 : 8 ≤ m := by omega
      have hc8 : 8 ≤ cap' := by omega
      have ht8 : ((l.drop (8 * i)).take 8).length = 8 := by rw [List.length_take]; omega
      have HT := Lib.hid (hA.take 8)
      rcases hA with h0 | ⟨B, off, rfl, hcl⟩
      · exfalso; rw [h0] at hld; simp at hld; omega
      have HA := Lib.hid hcl
      have hBb : B ≠ b := hav _ rfl (fun e => by rw [e] at hld; simp at hld; omega)
      have HBb := Lib.hid hBb
      have HWd := Lib.hid (fun c => fword_any (cap := c) ht8 (fun x hx => HB.out x (List.mem_of_mem_drop (List.mem_of_mem_take hx))) (HT.out.ch (Ch.refl [] wr).drew (by simp)))
      obtain ⟨N, hN⟩ : ∃ N, leN ((l.drop (8 * i)).take 8) = N := ⟨_, rfl⟩
      rw [hN] at HWd
      have HN := Lib.hid hN
      have HNu := Lib.hid (fun W => num_any N W)
      obtain ⟨X, hX⟩ : ∃ X, num N = X := ⟨_, rfl⟩
      rw [hX] at HNu
      have HX := Lib.hid hX
      unfold vv at HNu
      have ew : IntKind.i64.wrap ((kk : Int) + 1) = ((kk + 1 : Nat) : Int) := by rw [IntKind.wrap_i64]; omega
      have HIm := Lib.hid (show i + 1 ≤ r ∧ kk + 1 = k + (i + 1) ∧ m - 8 = 8 * (r - (i + 1)) ∧ m - 8 ≤ cap' - 8 by omega)
      have HLd := Lib.hid hld
      have HMc := Lib.hid hmc
      have HM8 := Lib.hid hm8
      have HKk := Lib.hid (show 10 + k + i = 10 + kk by omega)
      clear hav hF hc hir hm hkk hld ht8 hcl hBb hN hX hm0 hmc hi
      go_wp2_with fail
      go_region_held (fun _ => True) (exact True.intro) (first
        | (with_reducible refine (HWd.out _).mono ?_; rintro e w2 ⟨rfl, rfl⟩)
        | (with_reducible refine (HNu.out _).mono ?_; rintro e w2 ⟨rfl, hc2⟩; have HC2 := Lib.hid ((Ch.refl [] wr).drew.trans hc2); have hF2 := HFi.out.quiet HC2.out; have HF2 := Lib.hid hF2; obtain ⟨y0, y1, y2, y3, y4⟩ := hF2.word hk8; have yf := hF2.fr; clear hF2 hc2)
        | fail)
      simp only [Exit.then]
      obtain ⟨w4, hw4⟩ : ∃ W, st5 w2 b (50 + kk * 5) X = W := ⟨_, rfl⟩
      have hF4 : FR w4 b (wrF F (10 + k) l (i + 1)) := by
        have := HF2.out.setW hk8 X
        rw [hw4, ← HX.out, ← HN.out, ← HKk.out] at this
        exact this
      have hc4 : Cf b wr w4 := by rw [← hw4]; exact (Cf.of (b := b) HC2.out).trans (st5_cf w2 b _ X (by omega))
      have HF4 := Lib.hid hF4
      have HC4 := Lib.hid (HC.out.trans hc4)
      have hdd : l.drop (8 * (i + 1)) = (l.drop (8 * i)).drop 8 := by rw [List.drop_drop, show 8 * (i + 1) = 8 * i + 8 by omega]
      have HA4 := Lib.hid (show ∀ q, q < m - 8 → w4.cell? ⟨B, off + 8 + q, none⟩ = some (.int .u8 (((l.drop (8 * (i + 1))).getD q 0 : Nat) : Int)) from fun q hq => by
        have h1 : 8 + q < (l.drop (8 * i)).length := by rw [HLd.out]; omega
        have h2 := HA.out (8 + q) h1
        have h3 := (hc4.cell (p := ⟨B, off + (8 + q), none⟩) (cell_lt h2) (by have := HBb.out; simp; omega)).trans h2
        rw [show off + 8 + q = off + (8 + q) by omega, h3, hdd]
        rw [show (l.drop (8 * i))[8 + q] = ((l.drop (8 * i)).drop 8).getD q 0 from by
          have : q < ((l.drop (8 * i)).drop 8).length := by rw [List.length_drop, HLd.out]; omega
          rw [List.getD_eq_getElem?_getD, List.getElem?_eq_getElem this]
          simp [Nat.add_assoc]])
      have HLn := Lib.hid (show (l.drop (8 * (i + 1))).length = m - 8 by rw [hdd, List.length_drop, HLd.out])
      unfold st5 at hw4
      have HW4 := Lib.hid hw4
      clear hF4 hc4 hdd hw4 y0 y1 y2 y3 y4 yf HWd HNu
      rw [HW4.out]
      by_cases hce : cap' = 8
      · have hm := HMc.out
        have hm8 := HM8.out
        subst hce
        obtain rfl : m = 8 := by omega
        go_wp2_with fail
        go_roundw
        case rel => exact ⟨i + 1, kk + 1, 0, 0, _, by go_num, rfl, HIm.out.1, HIm.out.2.1, by have := HIm.out.2.2.1; omega, by decide, .inl (List.eq_nil_of_length_eq_zero (by rw [HLn.out])), (fun y e _ => by cases e; exact HBb.out), HF4.out, HC4.out⟩
        case measure => simp [intOf]; omega
      · have HA5 := Lib.hid (show BA w4 (some ⟨B, off + 8, none⟩) (l.drop (8 * (i + 1))) from .inr ⟨B, off + 8, rfl, fun q hq => by
          have := HA4.out q (by rw [HLn.out] at hq; exact hq)
          rwa [List.getD_eq_getElem?_getD, List.getElem?_eq_getElem hq] at this⟩)
        go_wp2_with fail
        go_roundw
        case rel => exact ⟨i + 1, kk + 1, m - 8, cap' - 8, _, by go_num, rfl, HIm.out.1, HIm.out.2.1, HIm.out.2.2.1, HIm.out.2.2.2, HA5.out, (fun y e _ => by cases e; exact HBb.out), HF4.out, HC4.out⟩
        case measure => simp [intOf]; omega
    · obtain rfl : i = r := by omega
      obtain rfl : m = 0 := by omega
      clear hA hav hF hc hir hm hkk hmc hi
      go_wp2_with fail
      go_ret
      exact ⟨rfl, HFi.out, HC.out⟩
theorem fwrite_any {w : World} {b : Nat} {F : FV} (h : FR w b F) {a : Int} (ha : fit a) {n cap : Nat} (hn : n ≤ 1000) (hnc : n ≤ cap) {v : Option Addr} {l : List Nat} (hl : l.length = n) (hb : ∀ x ∈ l, x < 256) (hA : BA w v l) (hv : ∀ y, v = some y → l ≠ [] → y.block ≠ b) :
    Calls Tryd.prog 43 #[.pointer (some ⟨b, 0, none⟩), .int .i64 a, .slice v n cap] w fun e w' => e = .returned (.int .i64 (wrE a n)) ∧ FR w' b (wrT F a l) ∧ Cf b w w' := by
  by_cases hok : wrOk a n
  · have e1 : wrE a n = 0 := by unfold wrE; rw [if_pos hok]
    have e2 : wrT F a l = wrF F (10 + a.toNat) l (n / 8) := by unfold wrT; rw [hl, if_pos hok]
    rw [e1, e2]
    obtain ⟨h8, h0, h1, h2⟩ := hok
    obtain ⟨k, rfl⟩ : ∃ k : Nat, a = (k : Int) := ⟨a.toNat, by omega⟩
    rw [Int.toNat_natCast]
    exact write_ok h (by omega) (by omega) hnc hl hb hA hv
  · have e1 : wrE a n = 1 := by unfold wrE; rw [if_neg hok]
    have e2 : wrT F a l = F := by unfold wrT; rw [hl, if_neg hok]
    rw [e1, e2]
    have HF := Lib.hid h
    by_cases h8 : n % 8 = 0
    · obtain ⟨r, hr⟩ : ∃ r, n / 8 = r := ⟨_, rfl⟩
      have HH := Lib.hid (fun W => holds_any (n := (r : Int)) ha W)
      rw [show decide (hol a (r : Int)) = false from decide_eq_false (fun e => hok ⟨h8, by rw [hr]; exact e⟩)] at HH
      have q1 : (n : Int).tmod 8 = 0 := by rw [Int.tmod_eq_emod_of_nonneg (by omega)]; omega
      have q2 : (n : Int).tdiv 8 = (r : Int) := by rw [Int.tdiv_eq_ediv_of_nonneg (by omega)]; omega
      have q3 : IntKind.i64.wrap (r : Int) = (r : Int) := by rw [IntKind.wrap_i64]; omega
      clear e1 e2 hok h8 hr ha hn hnc hl hb hA hv h
      go_enter Tryd.func43, Tryd.ntmps43
      go_wp2_with (first | (with_reducible refine (HH.out _).mono ?_; rintro e w' ⟨rfl, rfl⟩) | fail)
      go_ret
      exact ⟨rfl, HF.out, Cf.refl _ _⟩
    · obtain ⟨r, hr⟩ : ∃ r, n % 8 = r := ⟨_, rfl⟩
      have q1 : (n : Int).tmod 8 = (r : Int) := by rw [Int.tmod_eq_emod_of_nonneg (by omega)]; omega
      have q0 : ((r : Int) != 0) = true := by simp; omega
      clear e1 e2 hok h8 hr ha hn hnc hl hb hA hv h
      go_enter Tryd.func43, Tryd.ntmps43
      go_wp2_with fail
      go_ret
      exact ⟨rfl, HF.out, Cf.refl _ _⟩
end Go.Proofs.YtpbdmlipdfdblaaDoor

namespace Go.Proofs.YtpbdmlipdfdblaaDoor
open Go.RowKit Go.BigFrame

attribute [local go_sem] Oper.semAt_some

/-- What is read, and the error. -/
def rdE (F : FV) (a n : Int) : List Nat × Int :=
  if hol a n then (if (things F (10 + a.toNat) n.toNat).any (·.r) = true then ([], 17) else (rdB F (10 + a.toNat) n.toNat, 0)) else ([], 1)
theorem slice8_run (b k m e : Nat) (he : k + m = e) (hm : e ≤ 8) (w : World) : ∃ o cp, (Instr.sliceAt 85 (.pointer (some ⟨b, 50, none⟩)) (some (.int .i64 (k : Int))) (some (.int .i64 (e : Int))) none).run Tryd.prog w = .ok (.slice (some ⟨b, o, none⟩) m cp) w ∧ (0 < m → o = 50 + k * 5) := by
  have hl : Tryd.prog.arrayLen 85 = 8 := by kernel_rfl
  have h := run_sliceAt_array_lh (P := Tryd.prog) w 85 ⟨b, 50, none⟩ (by kernel_rfl) .i64 .i64 (k : Int) (e : Int) (by omega) (by omega) (by rw [hl]; omega)
  have hs : (sizeOf (Tryd.prog.elem 85)).run Tryd.prog w = .ok 5 w := by kernel_rfl
  rw [hs, hl, Result.andThen_ok, show (k : Int).toNat = k by omega, show (e : Int).toNat = e by omega] at h
  unfold slicedAt at h
  rw [show e - k = m by omega] at h
  by_cases e1 : 8 = k
  · rw [if_pos e1] at h
    exact ⟨_, _, h, fun hm => by omega⟩
  · rw [if_neg e1, addr_add] at h
    exact ⟨_, _, h, fun _ => rfl⟩
theorem leB_take {n k : Nat} (hk : k < 8) : (leB n).take (k + 1) = (leB n).take k ++ [n / 256 ^ k % 256] := by
  rw [List.take_succ_eq_append_getElem (by rw [leB_len]; exact hk)]
  simp [leB]

/-- A box of a thing, whole. -/
def XB (w : World) (X : Nat) (x : V5) (t : TypeId) : Prop := w.heap[X]? = some (.cells #[.bool x.r, .int .i64 x.m, .int .i64 x.s, .int .i64 x.g, .int .u64 (x.n : Int)] t)
theorem XB.new (w : World) (x : V5) (t : TypeId) : XB (w.alloc (.cells #[.bool x.r, .int .i64 x.m, .int .i64 x.s, .int .i64 x.g, .int .u64 (x.n : Int)] t)) w.heap.size x t := heap_alloc_last w _
theorem XB.lt {w : World} {X : Nat} {x : V5} {t : TypeId} (h : XB w X x t) : X < w.heap.size := (Array.getElem?_eq_some_iff.1 h).1
theorem XB.ch {S : List Nat} {w w' : World} {X : Nat} {x : V5} {t : TypeId} (h : XB w X x t) (hc : Ch S w w') (hX : X ∉ S) : XB w' X x t := (hc.block X h.lt hX).trans h
theorem XB.c4 {w : World} {X : Nat} {x : V5} {t : TypeId} (h : XB w X x t) : w.cell? ⟨X, 4, none⟩ = some (.int .u64 (x.n : Int)) := by
  rw [cell_of_row w X 4 _ t (0, 0) h]; rfl
theorem XB.grown {w w' : World} {X lo e s n : Nat} {x : V5} {t : TypeId} {v : Value} {xs : List Value} (h : XB w X x t) (hv : w.ownsRow lo e s v n xs) (hne : e ≠ t) (hg : w.grownBy w' v.ownBlock) : XB w' X x t := by
  refine (hg.block X h.lt (fun e' => ?_)).trans h
  rcases hv.2 with ⟨rfl, _⟩ | ⟨g, cp, cur, rfl, _, hk, _⟩
  · simp [Value.ownBlock] at e'
  · have : X = g := by simpa [Value.ownBlock] using e'
    subst this
    unfold XB at h
    rw [hk] at h
    exact hne (by injection h with h; injection h)

set_option maxRecDepth 10000 in
set_option maxHeartbeats 8000000 in
theorem read_in {w : World} {b : Nat} {F : FV} (h : FR w b F) {k m : Nat} (hkm : k + m ≤ 8) (hr : (things F (10 + k) m).any (·.r) = false) :
    Calls Tryd.prog 44 #[.pointer (some ⟨b, 0, none⟩), .int .i64 (k : Int), .int .i64 (m : Int)] w fun e w' => ∃ v, e = .returned (.tuple #[v, .int .i64 0]) ∧ BW w' w.heap.size v (rdB F (10 + k) m) ∧ Ch [] w w' := by
  obtain ⟨i0, hI, hz0, hz1, hz2⟩ : ∃ i : TypeInfo, Tryd.prog.info? 5 = some i ∧ i.zero = some (.int .u8 0) ∧ i.size = 1 ∧ i.bytes = 1 := by
    refine ⟨_, rfl, by kernel_rfl, by kernel_rfl, by kernel_rfl⟩
  have HH := Lib.hid (fun W => holds_any (a := (k : Int)) (n := (m : Int)) ⟨by omega, by omega⟩ W)
  rw [show decide (hol (k : Int) (m : Int)) = true from decide_eq_true (by unfold hol; omega)] at HH
  obtain ⟨e, he⟩ : ∃ e, k + m = e := ⟨_, rfl⟩
  obtain ⟨o, cp, hsl, ho⟩ := slice8_run b k m e he (by omega) w
  have hsum : IntKind.i64.wrap ((k : Int) + (m : Int)) = (e : Int) := by rw [IntKind.wrap_i64]; omega
  have hVA : ValsAt w (some ⟨b, o, none⟩) (things F (10 + k) m) := by
    by_cases hm0 : m = 0
    · subst hm0; exact .inl rfl
    · refine .inr ⟨b, o, rfl, fun i hi => ?_⟩
      rw [things_at]
      rw [things_len] at hi
      have := h.word (k := k + i) (by omega)
      rw [ho (by omega)]
      rwa [show 10 + (k + i) = 10 + k + i by omega, show 50 + (k + i) * 5 = 50 + k * 5 + i * 5 by omega] at this
  have HRf := Lib.hid (hasref_any (cap := cp) (things_len F (10 + k) m) (by omega) hVA)
  rw [hr] at HRf
  have HVA := Lib.hid (fun i (hi : i < m) => show At5 w b (o + i * 5) (F (10 + k + i)) from by
    rcases hVA with h0 | ⟨b', o', e', hx⟩
    · have := things_len F (10 + k) m; rw [h0] at this; simp at this; omega
    · cases e'
      have := hx i (by rw [things_len]; exact hi)
      rwa [things_at] at this)
  have HKm := Lib.hid hkm
  clear h hkm hr he ho hVA
  go_enter Tryd.func44, Tryd.ntmps44
  go_wp2_with (first
    | (with_reducible refine (HH.out _).mono ?_; rintro e w' ⟨rfl, rfl⟩)
    | (with_reducible refine HRf.out.mono ?_; rintro e w1 ⟨rfl, hc1⟩; have HC1 := Lib.hid hc1; clear hc1)
    | fail)
  clear HH HRf hsl hsum
  go_loopw [9, 31] (fun v i wr => ∃ j : Nat, i = .int .i64 (j : Int) ∧ j ≤ m ∧ BW wr w.heap.size v (rdB F (10 + k) j) ∧ Ch [] w wr) (fun _ i _ => m - (intOf i).toNat)
  case atStart => exact ⟨0, rfl, Nat.zero_le _, BW.nil _ _, HC1.out⟩
  case round =>
    obtain ⟨j, rfl, hj, hB, hc⟩ := hrel
    have HB := Lib.hid hB
    have HC := Lib.hid hc
    by_cases hjm : j < m
    · have hjm' : (j : Int) < (m : Int) := by omega
      obtain ⟨c0, c1, c2, c3, c4⟩ := (HVA.out j hjm).ch hc (by simp)
      have HNx := Lib.hid (show rdB F (10 + k) (j + 1) = rdB F (10 + k) j ++ leB (F (10 + k + j)).n from rfl)
      have HLr := Lib.hid (rdB_len F (10 + k) j)
      generalize F (10 + k + j) = x at *
      obtain ⟨va, vc, rfl, -, -⟩ := hB.form
      rw [HLr.out]
      obtain ⟨X, hX⟩ : ∃ b, wr.heap.size = b := ⟨_, rfl⟩
      obtain ⟨w3, hw3⟩ : ∃ W, wr.alloc (.cells #[.bool x.r, .int .i64 x.m, .int .i64 x.s, .int .i64 x.g, .int .u64 (x.n : Int)] 41) = W := ⟨_, rfl⟩
      have hal : Ch [] wr w3 := by rw [← hw3]; exact (Ch.refl [] wr).alloc _
      have HX3 := Lib.hid (show XB w3 X x 41 by rw [← hw3, ← hX]; exact XB.new wr x _)
      have HB3 := Lib.hid (hB.ch hal (by simp))
      have HC3 := Lib.hid (hc.trans hal)
      have HXs := Lib.hid hX
      have HWs := Lib.hid hw3
      have HKj := Lib.hid (show 8 * j ≤ 64 by have := HKm.out; omega)
      have HJm := Lib.hid hjm
      generalize rdB F (10 + k) j = l0 at *
      clear hB hc hal hX hw3 hjm
      go_wp2_with fail
      rw [HXs.out, HWs.out]
      clear c0 c1 c2 c3 c4
      go_loopw [9, 35] (fun v i wr => ∃ t : Nat, i = .int .i64 (t : Int) ∧ t ≤ 8 ∧ BW wr w.heap.size v (l0 ++ (leB x.n).take t) ∧ XB wr X x 41 ∧ Ch [] w wr) (fun _ i _ => 8 - (intOf i).toNat)
      case atStart =>
        refine ⟨0, rfl, by decide, ?_, HX3.out, HC3.out⟩
        have := HB3.out
        unfold BW at this ⊢
        simpa [HLr.out] using this
      case round =>
        obtain ⟨t, rfl, ht, hB, hX, hc⟩ := hrel
        have HB4 := Lib.hid hB
        have HC4 := Lib.hid hc
        have HX4 := Lib.hid hX
        by_cases ht8 : t < 8
        · have ht8' : (t : Int) < 8 := by omega
          have x4 := hX.c4
          obtain ⟨s, hs⟩ : ∃ s, 8 * t = s := ⟨_, rfl⟩
          obtain ⟨y, hy⟩ : ∃ y, x.n / 256 ^ t % 256 = y := ⟨_, rfl⟩
          obtain ⟨z, hz⟩ : ∃ z, x.n / 256 ^ t = z := ⟨_, rfl⟩
          have e2 : IntKind.i64.wrap (8 * (t : Int)) = (s : Int) := by rw [IntKind.wrap_i64]; omega
          have e3 : (x.n : Int) / 2 ^ s = (z : Int) := by rw [show (2 : Int) ^ s = ((2 ^ s : Nat) : Int) by simp, ← Int.natCast_ediv, ← hs, ← pow256, hz]
          have e4 : IntKind.u8.wrap (z : Int) = (y : Int) := by rw [IntKind.wrap_u8, ← hy, hz]; omega
          have s1 : (s : Int) ≤ 64 := by omega
          have s2 : s ≤ 64 := by omega
          have s3 : ¬ (s : Int) < 0 := by omega
          have HN4 := Lib.hid (show l0 ++ (leB x.n).take (t + 1) = (l0 ++ (leB x.n).take t) ++ [y] by rw [leB_take ht8, hy, List.append_assoc])
          obtain ⟨l1, hl1⟩ : ∃ l1, l0 ++ (leB x.n).take t = l1 := ⟨_, rfl⟩
          have hlen : l1.length = 8 * j + t := by rw [← hl1, List.length_append, HLr.out, List.length_take, leB_len]; omega
          rw [hl1] at hB HN4
          have ew : IntKind.i64.wrap ((t : Int) + 1) = ((t + 1 : Nat) : Int) := by rw [IntKind.wrap_i64]; omega
          obtain ⟨q, hq⟩ : ∃ q, l1.length = q := ⟨_, rfl⟩
          have hB2 := hB
          unfold BW at hB2
          rw [hq] at hB2
          have HB5 := Lib.hid hB2
          have HQ := Lib.hid (show q ≤ 1000 by have := HKj.out; omega)
          have HQl := Lib.hid hq
          obtain ⟨av, ac, rfl⟩ := own_form hB2
          clear hB hB2 hl1 hlen hq hX hc hs hy hz ht8 HB4
          go_wp2_with (at_builtin; go_must (refine wpList_append_own _ rfl _ _ 57 rfl w.heap.size 5 i0 (.int .u8 0) 1 1 Tryd.underlying57 hI hz0 hz1 hz2 rfl (by decide) _ q (u8l l1) rfl (HB5.out.alloc _) ⟨wr.heap.size, 0, none⟩ 1 1 [.int .u8 (y : Int)] rfl rfl (cells_u8 wr y _) (by simp [Value.oneCell']) (by unfold maxLen; have := HQ.out; omega) (by have := HQ.out; omega) (by have := HC4.out.size; simp; omega) ?_); intro v3 w5 hown3 hgrow3 hnil3; refine Hid.out ?_)
          refine Lib.hid ?_
          have HC5 := Lib.hid (own_new (HC4.out.alloc _) hgrow3 (Nat.le_refl _) (HB5.out.alloc _))
          have HX5 := Lib.hid ((HX4.out.ch ((Ch.refl [] wr).alloc _) (by simp)).grown (HB5.out.alloc _) (by decide) hgrow3)
          have HB6 := Lib.hid (show BW w5 w.heap.size v3 (l0 ++ (leB x.n).take (t + 1)) by rw [HN4.out]; exact BW.snoc (by rw [HQl.out]; exact hown3))
          obtain ⟨av3, ac3, rfl⟩ := own_form hown3
          clear hown3 hgrow3 hnil3 x4
          go_wp2_with fail
          go_roundw
          case rel => exact ⟨t + 1, rfl, by omega, HB6.out, HX5.out, HC5.out⟩
          case measure => simp [intOf]; omega
        · obtain rfl : t = 8 := by omega
          have hB6 := hB
          rw [List.take_of_length_le (by rw [leB_len]; decide), ← HNx.out] at hB6
          have HB6 := Lib.hid hB6
          obtain ⟨av, ac, rfl, -, -⟩ := hB.form
          have ew : IntKind.i64.wrap ((j : Int) + 1) = ((j + 1 : Nat) : Int) := by rw [IntKind.wrap_i64]; have := HKj.out; omega
          have HC4 := Lib.hid hc
          clear hB hB6 hX hc ht8
          go_wp2_with fail
          go_roundw
          case rel => exact ⟨j + 1, rfl, by have := HJm.out; omega, HB6.out, HC4.out⟩
          case measure => have := HJm.out; simp [intOf]; omega
    · obtain rfl : j = m := by omega
      obtain ⟨av, ac, rfl, -, -⟩ := hB.form
      clear hc hjm
      go_wp2_with fail
      go_ret2
      exact ⟨_, rfl, HB.out, HC.out⟩
theorem fread_any {w : World} {b : Nat} {F : FV} (h : FR w b F) {a n : Int} (ha : fit a) :
    Calls Tryd.prog 44 #[.pointer (some ⟨b, 0, none⟩), .int .i64 a, .int .i64 n] w fun e w' => ∃ v, e = .returned (.tuple #[v, .int .i64 (rdE F a n).2]) ∧ BW w' w.heap.size v (rdE F a n).1 ∧ Ch [] w w' := by
  by_cases hh : hol a n
  · obtain ⟨h0, h1, h2⟩ := id hh
    obtain ⟨k, rfl⟩ : ∃ k : Nat, a = (k : Int) := ⟨a.toNat, by omega⟩
    obtain ⟨m, rfl⟩ : ∃ k : Nat, n = (k : Int) := ⟨n.toNat, by omega⟩
    unfold rdE
    rw [if_pos hh, Int.toNat_natCast, Int.toNat_natCast]
    by_cases hr : (things F (10 + k) m).any (·.r) = true
    · rw [if_pos hr]
      have HH := Lib.hid (fun W => holds_any (n := (m : Int)) ha W)
      rw [show decide (hol (k : Int) (m : Int)) = true from decide_eq_true hh] at HH
      obtain ⟨e, he⟩ : ∃ e, k + m = e := ⟨_, rfl⟩
      obtain ⟨o, cp, hsl, ho⟩ := slice8_run b k m e he (by omega) w
      have hsum : IntKind.i64.wrap ((k : Int) + (m : Int)) = (e : Int) := by rw [IntKind.wrap_i64]; omega
      have hVA : ValsAt w (some ⟨b, o, none⟩) (things F (10 + k) m) := by
        by_cases hm0 : m = 0
        · subst hm0; exact .inl rfl
        · refine .inr ⟨b, o, rfl, fun i hi => ?_⟩
          rw [things_at]
          rw [things_len] at hi
          have := h.word (k := k + i) (by omega)
          rw [ho (by omega)]
          rwa [show 10 + (k + i) = 10 + k + i by omega, show 50 + (k + i) * 5 = 50 + k * 5 + i * 5 by omega] at this
      have HRf := Lib.hid (hasref_any (cap := cp) (things_len F (10 + k) m) (by omega) hVA)
      rw [hr] at HRf
      clear h hh ha h0 h1 h2 hr he ho hVA
      go_enter Tryd.func44, Tryd.ntmps44
      go_wp2_with (first
        | (with_reducible refine (HH.out _).mono ?_; rintro e w' ⟨rfl, rfl⟩)
        | (with_reducible refine HRf.out.mono ?_; rintro e w1 ⟨rfl, hc1⟩; have HC1 := Lib.hid hc1; clear hc1)
        | fail)
      go_ret2
      exact ⟨_, rfl, BW.nil _ _, HC1.out⟩
    · rw [if_neg hr]
      exact read_in h (by omega) (by simpa using hr)
  · unfold rdE
    rw [if_neg hh]
    have HH := Lib.hid (fun W => holds_any (n := n) ha W)
    rw [show decide (hol a n) = false from decide_eq_false hh] at HH
    clear h hh ha
    go_enter Tryd.func44, Tryd.ntmps44
    go_wp2_with (first | (with_reducible refine (HH.out _).mono ?_; rintro e w' ⟨rfl, rfl⟩) | fail)
    go_ret2
    exact ⟨_, rfl, BW.nil _ _, Ch.refl _ _⟩
end Go.Proofs.YtpbdmlipdfdblaaDoor

namespace Go.Proofs.YtpbdmlipdfdblaaDoor
open Go.RowKit Go.BigFrame

attribute [local go_sem] Oper.semAt_some

theorem XB.fr {w : World} {X : Nat} {x : V5} {t : TypeId} (h : XB w X x t) (k : Nat) : w.frozen? ⟨X, k, none⟩ = false := by
  unfold XB at h
  simp [World.frozen?, h]
theorem XB.c0 {w : World} {X : Nat} {x : V5} {t : TypeId} (h : XB w X x t) : w.cell? ⟨X, 0, none⟩ = some (.bool x.r) := by
  rw [cell_of_row w X 0 _ t (0, 0) h]; rfl
theorem XB.set4 {w : World} {X : Nat} {x : V5} {t : TypeId} (h : XB w X x t) (n : Nat) : XB (w.setCell ⟨X, 4, none⟩ (.int .u64 (n : Int))) X { x with n := n } t := by
  obtain ⟨hlt, hk⟩ := Array.getElem?_eq_some_iff.1 h
  show (w.heap.modify X _)[X]? = _
  rw [Array.getElem?_eq_getElem (by rw [Array.size_modify]; exact hlt), Array.getElem_modify_self, hk]
  rfl
theorem BW.other {w : World} {lo X : Nat} {x : V5} {t : TypeId} {v : Value} {l : List Nat} (h : BW w lo v l) (hX : XB w X x t) (hne : 5 ≠ t) (p : Nat) (u : Value) : BW (w.setCell ⟨X, p, none⟩ u) lo v l := by
  unfold BW at h ⊢
  obtain ⟨h1, h2⟩ := h
  refine ⟨h1, ?_⟩
  rcases h2 with h2 | ⟨g, cap, cur, rfl, hb, hg, r⟩
  · exact .inl h2
  · refine .inr ⟨g, cap, cur, rfl, hb, ?_, r⟩
    rw [Below.heap_setCell _ _ _ _ (fun e => ?_)]
    · exact hg
    · simp only at e
      subst e
      unfold XB at hX
      rw [hg] at hX
      exact hne (by injection hX with hX; injection hX)

set_option maxRecDepth 10000 in
set_option maxHeartbeats 8000000 in
theorem rread_in {w : World} {F : FV} (hFW : FW F) {k m : Nat} (hkm : k + m ≤ 8) :
    Calls Tryd.prog 25 #[.agg (fl F).toArray, .int .i64 (k : Int), .int .i64 (m : Int)] w fun e w' => ∃ v, e = .returned (.tuple #[v, .int .i64 (if (things F (10 + k) m).any (·.r) = true then 17 else 0)]) ∧ BW w' w.heap.size v (if (things F (10 + k) m).any (·.r) = true then [] else rdB F (10 + k) m) ∧ Ch [] w w' := by
  obtain ⟨i0, hI, hz0, hz1, hz2⟩ : ∃ i : TypeInfo, Tryd.prog.info? 5 = some i ∧ i.zero = some (.int .u8 0) ∧ i.size = 1 ∧ i.bytes = 1 := by
    refine ⟨_, rfl, by kernel_rfl, by kernel_rfl, by kernel_rfl⟩
  obtain ⟨q, hq⟩ : ∃ q, (things F (10 + k) m).any (·.r) = q := ⟨_, rfl⟩
  rw [hq]
  have HQt := Lib.hid (fun j (hj : j < m) (hr : (F (10 + k + j)).r = true) => show q = true from by
    rw [← hq, List.any_eq_true]
    exact ⟨F (10 + k + j), List.mem_iff_getElem.2 ⟨j, by rw [things_len]; exact hj, things_at F (10 + k) m j _⟩, hr⟩)
  have HQf := Lib.hid (fun (h : ∀ i, i < m → (F (10 + k + i)).r = false) => show q = false from by
    rw [← hq, List.any_eq_false]
    intro x hx
    obtain ⟨i, hi, rfl⟩ := List.mem_iff_getElem.1 hx
    rw [things_at, h i (by rw [things_len] at hi; exact hi)]; simp)
  obtain ⟨R, hR⟩ : ∃ R, w.heap.size = R := ⟨_, rfl⟩
  obtain ⟨W, hW⟩ : ∃ W, w.alloc (.cells (fl F).toArray 62) = W := ⟨_, rfl⟩
  have HR := Lib.hid (show FR W R F by rw [← hW, ← hR]; exact FR.new w F _)
  have HCW := Lib.hid (show Ch [] w W by rw [← hW]; exact (Ch.refl [] w).alloc _)
  obtain ⟨e, he⟩ : ∃ e, k + m = e := ⟨_, rfl⟩
  have hsum : IntKind.i64.wrap ((k : Int) + (m : Int)) = (e : Int) := by rw [IntKind.wrap_i64]; omega
  have hk0 : (0 : Int) ≤ (k : Int) := by omega
  have hm0 : (0 : Int) ≤ (m : Int) := by omega
  have hk8 : (k : Int) ≤ 8 := by omega
  obtain ⟨s, hs⟩ : ∃ s : Nat, 8 - k = s := ⟨_, rfl⟩
  have hsub : IntKind.i64.wrap (8 - (k : Int)) = (s : Int) := by rw [IntKind.wrap_i64]; omega
  have hms : ¬ s < m := by omega
  have HKm := Lib.hid hkm
  have HFW := Lib.hid hFW
  have HRs := Lib.hid hR
  have HWs := Lib.hid hW
  have HE := Lib.hid he
  clear hkm hFW hR hW hq hs he
  go_enter Tryd.func25, Tryd.ntmps25
  go_wp2_with fail
  rw [HRs.out, HWs.out]
  have HSm := Lib.hid hsum
  clear hk0 hm0 hk8 hsub hms
  go_loopw [8, 9] (fun v i wr => ∃ j kk : Nat, i = .int .i64 (kk : Int) ∧ kk = k + j ∧ j ≤ m ∧ BW wr W.heap.size v (rdB F (10 + k) j) ∧ (∀ i, i < j → (F (10 + k + i)).r = false) ∧ Ch [] W wr) (fun _ i _ => 8 - (intOf i).toNat)
  case atStart => exact ⟨0, k, rfl, rfl, Nat.zero_le _, BW.nil _ _, fun i h => absurd h (by omega), Ch.refl _ _⟩
  case round =>
    obtain ⟨j, kk, rfl, hkk, hj, hB, hno, hc⟩ := hrel
    have HC := Lib.hid hc
    have HB := Lib.hid hB
    have HNo := Lib.hid hno
    clear hno
    by_cases hjm : j < m
    · have hlt : (kk : Int) < (e : Int) := by have := HE.out; omega
      have hlt' : kk < e := by omega
      obtain ⟨ii, hii⟩ : ∃ ii, 10 + k + j = ii := ⟨_, rfl⟩
      have e1 : IntKind.i64.wrap (10 + (kk : Int)) = (ii : Int) := by rw [IntKind.wrap_i64]; have := HKm.out; omega
      have i18 : (ii : Int) < 18 := by have := HKm.out; omega
      obtain ⟨c0, c1, c2, c3, c4⟩ := (HR.out.a ii (by omega)).ch hc (by simp)
      have hw64 := HFW.out ii
      have hnx := Lib.hid (show rdB F (10 + k) (j + 1) = rdB F (10 + k) j ++ leB (F ii).n from by rw [← hii]; rfl)
      have HLr := Lib.hid (rdB_len F (10 + k) j)
      have HQ1 := Lib.hid (show (F ii).r = true → q = true from fun h => HQt.out j hjm (by rw [hii]; exact h))
      have HQ2 := Lib.hid (show (F ii).r = false → ∀ i, i < j + 1 → (F (10 + k + i)).r = false from fun h i hi => by
        by_cases e' : i = j
        · rw [e', hii]; exact h
        · exact HNo.out i (by omega))
      have HJm := Lib.hid (show j + 1 ≤ m ∧ kk + 1 = k + (j + 1) ∧ kk < 8 by have := HKm.out; omega)
      generalize F ii = x at *
      obtain ⟨va, vc, rfl, -, -⟩ := hB.form
      rw [HLr.out]
      obtain ⟨X, hX⟩ : ∃ b, wr.heap.size = b := ⟨_, rfl⟩
      obtain ⟨w3, hw3⟩ : ∃ W, wr.alloc (.cells #[.bool x.r, .int .i64 x.m, .int .i64 x.s, .int .i64 x.g, .int .u64 (x.n : Int)] 52) = W := ⟨_, rfl⟩
      have hal : Ch [] wr w3 := by rw [← hw3]; exact (Ch.refl [] wr).alloc _
      have hx3 : XB w3 X x 52 := by rw [← hw3, ← hX]; exact XB.new wr x _
      have HX3 := Lib.hid hx3
      have HB3 := Lib.hid (hB.ch hal (by simp))
      have HC3 := Lib.hid (hc.trans hal)
      have HXW := Lib.hid (show W.heap.size ≤ X by rw [← hX]; exact hc.size)
      have HXs := Lib.hid hX
      have HWs2 := Lib.hid hw3
      generalize rdB F (10 + k) j = l0 at *
      have ewk : IntKind.i64.wrap ((kk : Int) + 1) = ((kk + 1 : Nat) : Int) := by rw [IntKind.wrap_i64]; have := HJm.out; omega
      have x0 := hx3.c0
      rw [← hw3, ← hX] at x0
      have HSm2 := HSm.out
      clear hB hc hal hX hw3 hjm hx3 hii hkk hj
      cases hr : x.r
      · have HQr := Lib.hid (HQ2.out hr)
        have hwx := HWs2.out
        rw [hr] at x0 c0 hwx
        have HWx := Lib.hid hwx
        clear hwx
        go_wp2_with fail
        rw [HXs.out, HWx.out]
        clear x0 c0 c1 c2 c3 c4
        go_loopw [8, 11] (fun v i wr => ∃ t z : Nat, i = .int .i64 (t : Int) ∧ t ≤ 8 ∧ z = x.n / 256 ^ t ∧ BW wr W.heap.size v (l0 ++ (leB x.n).take t) ∧ XB wr X { x with n := z } 52 ∧ Ch [] W wr) (fun _ i _ => 8 - (intOf i).toNat)
        case atStart =>
          refine ⟨0, x.n, rfl, by decide, by simp, ?_, HX3.out, HC3.out⟩
          have := HB3.out
          unfold BW at this ⊢
          simpa [HLr.out] using this
        case round =>
          obtain ⟨t, z, rfl, ht, hz, hB, hX, hc⟩ := hrel
          have HC4 := Lib.hid hc
          have HX4 := Lib.hid hX
          by_cases ht8 : t < 8
          · have ht8' : (t : Int) < 8 := by omega
            have x4 : _ = some (Value.int .u64 (z : Int)) := hX.c4
            obtain ⟨y, hy⟩ : ∃ y, z % 256 = y := ⟨_, rfl⟩
            obtain ⟨z2, hz2⟩ : ∃ z2, z / 256 = z2 := ⟨_, rfl⟩
            have hzl : z < 18446744073709551616 := by rw [hz]; exact Nat.lt_of_le_of_lt (Nat.div_le_self _ _) hw64
            have e3 : (z : Int).tmod 256 = (y : Int) := by rw [Int.tmod_eq_emod_of_nonneg (by omega)]; omega
            have e4 : IntKind.u8.wrap (y : Int) = (y : Int) := by rw [IntKind.wrap_u8]; omega
            have e5 : (z : Int).tdiv 256 = (z2 : Int) := by rw [Int.tdiv_eq_ediv_of_nonneg (by omega)]; omega
            have e6 : IntKind.u64.wrap (z2 : Int) = (z2 : Int) := by rw [IntKind.wrap_u64]; omega
            have e7 : IntKind.u64.wrap (y : Int) = (y : Int) := by rw [IntKind.wrap_u64]; omega
            have HZ2 := Lib.hid (show z2 = x.n / 256 ^ (t + 1) by rw [← hz2, hz, Nat.div_div_eq_div_mul, Nat.pow_succ])
            have HN4 := Lib.hid (show l0 ++ (leB x.n).take (t + 1) = (l0 ++ (leB x.n).take t) ++ [y] by rw [leB_take ht8, ← hz, hy, List.append_assoc])
            obtain ⟨l1, hl1⟩ : ∃ l1, l0 ++ (leB x.n).take t = l1 := ⟨_, rfl⟩
            have hlen : l1.length = 8 * j + t := by rw [← hl1, List.length_append, HLr.out, List.length_take, leB_len]; omega
            rw [hl1] at hB HN4
            have ew : IntKind.i64.wrap ((t : Int) + 1) = ((t + 1 : Nat) : Int) := by rw [IntKind.wrap_i64]; omega
            obtain ⟨n1, hn1⟩ : ∃ q, l1.length = q := ⟨_, rfl⟩
            have hB2 := hB
            unfold BW at hB2
            rw [hn1] at hB2
            have HB5 := Lib.hid hB2
            have HN1 := Lib.hid (show n1 ≤ 1000 by have := HJm.out; omega)
            have HNl := Lib.hid hn1
            obtain ⟨av, ac, rfl⟩ := own_form hB2
            clear hB hB2 hl1 hlen hn1 hX hc hz hy hz2 hzl ht8
            go_wp2_with (at_builtin; go_must (refine wpList_append_own _ rfl _ _ 57 rfl W.heap.size 5 i0 (.int .u8 0) 1 1 Tryd.underlying57 hI hz0 hz1 hz2 rfl (by decide) _ n1 (u8l l1) rfl (HB5.out.alloc _) ⟨wr.heap.size, 0, none⟩ 1 1 [.int .u8 (y : Int)] rfl rfl (cells_u8 wr y _) (by simp [Value.oneCell']) (by unfold maxLen; have := HN1.out; omega) (by have := HN1.out; omega) (by have := HC4.out.size; simp; omega) ?_); intro v3 w5 hown3 hgrow3 hnil3; refine Hid.out ?_)
            refine Lib.hid ?_
            have HC5 := Lib.hid (own_new (HC4.out.alloc _) hgrow3 (Nat.le_refl _) (HB5.out.alloc _))
            have hx5 := (HX4.out.ch ((Ch.refl [] wr).alloc _) (by simp)).grown (HB5.out.alloc _) (by decide) hgrow3
            have HB6 := Lib.hid ((show BW w5 W.heap.size v3 (l0 ++ (leB x.n).take (t + 1)) by rw [HN4.out]; exact BW.snoc (by rw [HNl.out]; exact hown3)).other hx5 (by decide) 4 (.int .u64 (z2 : Int)))
            have HX6 := Lib.hid (hx5.set4 z2)
            have HC6 := Lib.hid (HC5.out.fresh ((Ch.refl [X] w5).setCell (p := ⟨X, 4, none⟩) (by simp) (.int .u64 (z2 : Int))) (by have := HXW.out; simp; omega))
            have x5 : _ = some (Value.int .u64 (z : Int)) := hx5.c4
            have xf := hx5.fr 4
            obtain ⟨av3, ac3, rfl⟩ := own_form hown3
            clear hown3 hgrow3 hnil3 x4 hx5
            go_wp2_with fail
            go_roundw
            case rel => exact ⟨t + 1, z2, rfl, by omega, HZ2.out, HB6.out, HX6.out, HC6.out⟩
            case measure => simp [intOf]; omega
          · obtain rfl : t = 8 := by omega
            have hB6 := hB
            rw [List.take_of_length_le (by rw [leB_len]; decide), ← hnx.out] at hB6
            have HB6 := Lib.hid hB6
            obtain ⟨av, ac, rfl, -, -⟩ := hB.form
            clear hB hB6 hX hc hz ht8
            go_wp2_with fail
            go_roundw
            case rel => exact ⟨j + 1, kk + 1, rfl, HJm.out.2.1, HJm.out.1, HB6.out, HQr.out, HC4.out⟩
            case measure => have := HJm.out; simp [intOf]; omega
      · obtain rfl := HQ1.out hr
        rw [hr] at x0 c0
        go_wp2_with fail
        go_ret2
        exact ⟨_, rfl, BW.nil _ _, (HCW.out.trans HC.out).alloc _⟩
    · obtain rfl : j = m := by omega
      have hlt : ¬ (kk : Int) < (e : Int) := by have := HE.out; omega
      have hlt' : ¬ kk < e := by have := HE.out; omega
      obtain rfl := HQf.out HNo.out
      obtain ⟨av, ac, rfl, -, -⟩ := hB.form
      have HSm2 := HSm.out
      clear hc hjm hkk hj
      go_wp2_with fail
      go_ret2
      exact ⟨_, rfl, own_mono HB.out HCW.out.size, HCW.out.trans HC.out⟩
theorem rread_any {w : World} {F : FV} (hFW : FW F) {a n : Int} (_ha : fit a) :
    Calls Tryd.prog 25 #[.agg (fl F).toArray, .int .i64 a, .int .i64 n] w fun e w' => ∃ v, e = .returned (.tuple #[v, .int .i64 (rdE F a n).2]) ∧ BW w' w.heap.size v (rdE F a n).1 ∧ Ch [] w w' := by
  by_cases hh : hol a n
  · obtain ⟨h0, h1, h2⟩ := id hh
    obtain ⟨k, rfl⟩ : ∃ k : Nat, a = (k : Int) := ⟨a.toNat, by omega⟩
    obtain ⟨m, rfl⟩ : ∃ k : Nat, n = (k : Int) := ⟨n.toNat, by omega⟩
    have := rread_in (w := w) hFW (k := k) (m := m) (by omega)
    unfold rdE
    rw [if_pos hh, Int.toNat_natCast, Int.toNat_natCast]
    by_cases hr : (things F (10 + k) m).any (·.r) = true
    · rw [if_pos hr]
      rw [if_pos hr, if_pos hr] at this
      exact this
    · rw [if_neg hr]
      rw [if_neg hr, if_neg hr] at this
      exact this
  · unfold rdE
    rw [if_neg hh]
    have hcond : a < 0 ∨ (0 ≤ a ∧ n < 0) ∨ (0 ≤ a ∧ 0 ≤ n ∧ 8 < a) ∨ (∃ s : Nat, 0 ≤ a ∧ 0 ≤ n ∧ a ≤ 8 ∧ IntKind.i64.wrap (8 - a) = (s : Int) ∧ (s : Int) < n) := by
      unfold hol at hh
      by_cases h0 : a < 0
      · exact .inl h0
      · by_cases h1 : n < 0
        · exact .inr (.inl ⟨by omega, h1⟩)
        · by_cases h2 : 8 < a
          · exact .inr (.inr (.inl ⟨by omega, by omega, h2⟩))
          · exact .inr (.inr (.inr ⟨(8 - a).toNat, by omega, by omega, by omega, by rw [IntKind.wrap_i64]; omega, by omega⟩))
    have HC := Lib.hid ((Ch.refl [] w).alloc (.cells (fl F).toArray 62))
    clear hh _ha hFW
    rcases hcond with h0 | ⟨h0, h1⟩ | ⟨h0, h1, h2⟩ | ⟨s, h0, h1, h2, h3, h4⟩
    all_goals
      go_enter Tryd.func25, Tryd.ntmps25
      go_wp2_with fail
      go_ret2
      exact ⟨_, rfl, BW.nil _ _, HC.out⟩
end Go.Proofs.YtpbdmlipdfdblaaDoor

namespace Go.Proofs.YtpbdmlipdfdblaaDoor
open Go.RowKit Go.BigFrame

attribute [local go_sem] Oper.semAt_some

theorem leN_drop {l : List Nat} {k : Nat} (hk : k < l.length) : leN (l.drop k) = l[k] + 256 * leN (l.drop (k + 1)) := by
  rw [List.drop_eq_getElem_cons hk]; rfl
theorem leN_64 {l : List Nat} (h : ∀ x ∈ l, x < 256) (h8 : l.length ≤ 8) : leN l < 18446744073709551616 := by
  have h1 := leN_lt l h
  have h2 : 256 ^ l.length ≤ 256 ^ 8 := Nat.pow_le_pow_right (by decide) h8
  have h3 : 256 ^ 8 = 18446744073709551616 := by decide
  omega

set_option maxRecDepth 10000 in
set_option maxHeartbeats 8000000 in
theorem rwrite_bad {w : World} {F : FV} {a : Int} {n cap : Nat} (hn : n ≤ 1000) (hno : ¬ wrOk a n) (v : Option Addr) :
    Calls Tryd.prog 23 #[.agg (fl F).toArray, .int .i64 a, .slice v n cap] w fun e w' => e = .returned (.tuple #[.agg (fl F).toArray, .int .i64 1]) ∧ Ch [] w w' := by
  obtain ⟨R, hR⟩ : ∃ R, w.heap.size = R := ⟨_, rfl⟩
  obtain ⟨W, hW⟩ : ∃ W, w.alloc (.cells (fl F).toArray 62) = W := ⟨_, rfl⟩
  obtain ⟨W2, hW2⟩ : ∃ W2, W.alloc (.cells (fl F0).toArray 62) = W2 := ⟨_, rfl⟩
  have hz := z90b W
  rw [← hW] at hz
  have hs : W.heap.size = R + 1 := by rw [← hW, ← hR]; simp
  have HR := Lib.hid (show FR W2 R F by rw [← hW2, ← hW, ← hR]; exact (FR.new w F _).quiet ((Ch.refl [] _).alloc _))
  have HS := Lib.hid (show FR W2 (R + 1) F0 by rw [← hW2, ← hs]; exact FR.new W F0 _)
  have HC := Lib.hid (show Ch [] w W2 by rw [← hW2, ← hW]; exact ((Ch.refl [] w).alloc _).alloc _)
  have HE := Lib.hid (show FR (W2.setCells (R + 1) 0 (fl F)) (R + 1) F ∧ Ch [] w (W2.setCells (R + 1) 0 (fl F)) from ⟨HS.out.setAll F, HC.out.fresh (chCells W2 (R + 1) _ 0) (by simp; omega)⟩)
  have HW := Lib.hid (show (w.alloc (.cells (fl F).toArray 62)).alloc (.cells (fl F0).toArray 62) = W2 by rw [← hW2, ← hW])
  have HRs := Lib.hid hR
  obtain ⟨r, hr⟩ : ∃ r, n / 8 = r := ⟨_, rfl⟩
  obtain ⟨p, hp⟩ : ∃ p, n % 8 = p := ⟨_, rfl⟩
  have q1 : (n : Int).tmod 8 = (p : Int) := by rw [Int.tmod_eq_emod_of_nonneg (by omega)]; omega
  have q2 : (n : Int).tdiv 8 = (r : Int) := by rw [Int.tdiv_eq_ediv_of_nonneg (by omega)]; omega
  have q3 : IntKind.i64.wrap (r : Int) = (r : Int) := by rw [IntKind.wrap_i64]; omega
  have hcond : 0 < p ∨ (p = 0 ∧ a < 0) ∨ (p = 0 ∧ 0 ≤ a ∧ 8 < a) ∨ (∃ s : Nat, p = 0 ∧ 0 ≤ a ∧ a ≤ 8 ∧ IntKind.i64.wrap (8 - a) = (s : Int) ∧ s < r) := by
    unfold wrOk hol at hno
    by_cases h0 : 0 < p
    · exact .inl h0
    · by_cases h1 : a < 0
      · exact .inr (.inl ⟨by omega, h1⟩)
      · by_cases h2 : 8 < a
        · exact .inr (.inr (.inl ⟨by omega, by omega, h2⟩))
        · exact .inr (.inr (.inr ⟨(8 - a).toNat, by omega, by omega, by omega, by rw [IntKind.wrap_i64]; omega, by rw [hr] at hno; omega⟩))
  clear hR hW hW2 hno hr hp hn hs
  rcases hcond with h0 | ⟨h0, h1⟩ | ⟨h0, h1, h2⟩ | ⟨s, h0, h1, h2, h3, h4⟩
  · have q0 : ((p : Int) != 0) = true := by simp; omega
    clear h0
    go_enter Tryd.func23, Tryd.ntmps23
    go_wp2_with (first | ((with_reducible show wpList _ _ _ (Oper.mk _ (Op.load 62 _) _ _ _ _ :: _) _ _); rw [HRs.out, HW.out]; refine wpList_readF rfl HR.out (by rfl) (by rfl) ?_) | ((with_reducible show wpList _ _ _ (Oper.mk _ (Op.store 62 _ _) _ _ _ _ :: _) _ _); refine wpList_writeF rfl HS.out F (by rfl) (by rfl) (by rfl) ?_) | fail)
    have HL := Lib.hid (load_frame HE.out.1)
    refine bodyPost_ret (results_two rfl rfl HL.out) rfl ?_
    exact ⟨rfl, HE.out.2⟩
  all_goals
    go_enter Tryd.func23, Tryd.ntmps23
    go_wp2_with (first | ((with_reducible show wpList _ _ _ (Oper.mk _ (Op.load 62 _) _ _ _ _ :: _) _ _); rw [HRs.out, HW.out]; refine wpList_readF rfl HR.out (by rfl) (by rfl) ?_) | ((with_reducible show wpList _ _ _ (Oper.mk _ (Op.store 62 _ _) _ _ _ _ :: _) _ _); refine wpList_writeF rfl HS.out F (by rfl) (by rfl) (by rfl) ?_) | fail)
    have HL := Lib.hid (load_frame HE.out.1)
    refine bodyPost_ret (results_two rfl rfl HL.out) rfl ?_
    exact ⟨rfl, HE.out.2⟩

set_option maxRecDepth 10000 in
set_option maxHeartbeats 8000000 in
theorem rwrite_ok {w : World} {F : FV} {k r n cap : Nat} (hkr : k + r ≤ 8) (hnr : n = 8 * r) {v : Option Addr} {l : List Nat} (hl : l.length = n) (hb : ∀ x ∈ l, x < 256) (hA : BA w v l) :
    Calls Tryd.prog 23 #[.agg (fl F).toArray, .int .i64 (k : Int), .slice v n cap] w fun e w' => e = .returned (.tuple #[.agg (fl (wrF F (10 + k) l r)).toArray, .int .i64 0]) ∧ Ch [] w w' := by
  obtain ⟨R, hR⟩ : ∃ R, w.heap.size = R := ⟨_, rfl⟩
  obtain ⟨W, hW⟩ : ∃ W, w.alloc (.cells (fl F).toArray 62) = W := ⟨_, rfl⟩
  obtain ⟨W2, hW2⟩ : ∃ W2, W.alloc (.cells (fl F0).toArray 62) = W2 := ⟨_, rfl⟩
  have hz := z90b W
  rw [← hW] at hz
  have hs : W.heap.size = R + 1 := by rw [← hW, ← hR]; simp
  have HR := Lib.hid (show FR W2 R F by rw [← hW2, ← hW, ← hR]; exact (FR.new w F _).quiet ((Ch.refl [] _).alloc _))
  have HS := Lib.hid (show FR W2 (R + 1) F0 by rw [← hW2, ← hs]; exact FR.new W F0 _)
  have HC := Lib.hid (show Ch [] w W2 by rw [← hW2, ← hW]; exact ((Ch.refl [] w).alloc _).alloc _)
  have HW := Lib.hid (show (w.alloc (.cells (fl F).toArray 62)).alloc (.cells (fl F0).toArray 62) = W2 by rw [← hW2, ← hW])
  have HRs := Lib.hid hR
  have q1 : (n : Int).tmod 8 = 0 := by rw [Int.tmod_eq_emod_of_nonneg (by omega)]; omega
  have q2 : (n : Int).tdiv 8 = (r : Int) := by rw [Int.tdiv_eq_ediv_of_nonneg (by omega)]; omega
  have q3 : IntKind.i64.wrap (r : Int) = (r : Int) := by rw [IntKind.wrap_i64]; omega
  have hk0 : (0 : Int) ≤ (k : Int) := by omega
  have hk8 : (k : Int) ≤ 8 := by omega
  obtain ⟨s, hs8⟩ : ∃ s : Nat, 8 - k = s := ⟨_, rfl⟩
  have hsub : IntKind.i64.wrap (8 - (k : Int)) = (s : Int) := by rw [IntKind.wrap_i64]; omega
  have hms : ¬ s < r := by omega
  obtain ⟨kk, hkk⟩ : ∃ kk, 10 + k = kk := ⟨_, rfl⟩
  have HKk := Lib.hid (show IntKind.i64.wrap (10 + (k : Int)) = (kk : Int) by rw [IntKind.wrap_i64]; omega)
  have HKr := Lib.hid (show kk + r ≤ 18 ∧ r ≤ 8 by omega)
  rw [hkk]
  have HL := Lib.hid hl
  have HB := Lib.hid hb
  have HA := Lib.hid hA
  have HNr := Lib.hid hnr
  clear hR hW hW2 hs hs8 hkk hkr hnr hl hb hA
  go_enter Tryd.func23, Tryd.ntmps23
  go_wp2_with fail
  rw [HRs.out, HW.out]
  clear hz q1 q2 q3 hk0 hk8 hsub hms
  go_loopw [9] (fun iv wr => ∃ i : Nat, iv = .int .i64 (i : Int) ∧ i ≤ r ∧ FR wr R (wrF F kk l i) ∧ FR wr (R + 1) F0 ∧ Ch [] w wr) (fun iv _ => r - (intOf iv).toNat)
  case atStart => exact ⟨0, rfl, Nat.zero_le _, HR.out, HS.out, HC.out⟩
  case round =>
    obtain ⟨i, rfl, hi, hF, hS, hc⟩ := hrel
    have HFi := Lib.hid hF
    have HSi := Lib.hid hS
    have HCi := Lib.hid hc
    by_cases hir : i < r
    · have hir' : (i : Int) < (r : Int) := by omega
      have hseg : ((l.drop (8 * i)).take 8).length = 8 := by rw [List.length_take, List.length_drop, HL.out, HNr.out]; omega
      obtain ⟨S, hSe⟩ : ∃ S, (l.drop (8 * i)).take 8 = S := ⟨_, rfl⟩
      rw [hSe] at hseg
      have hSb : ∀ x ∈ S, x < 256 := fun x hx => HB.out x (List.mem_of_mem_drop (List.mem_of_mem_take (hSe ▸ hx)))
      rcases HA.out with h0 | ⟨B, off, rfl, hcl⟩
      · exfalso; have := HL.out; rw [h0] at this; simp at this; have := HNr.out; omega
      have HCl := Lib.hid (fun j (hj : j < S.length) => show wr.cell? ⟨B, off + (8 * i + j), none⟩ = some (.int .u8 (S[j] : Int)) from by
        have h1 : 8 * i + j < l.length := by rw [HL.out, HNr.out]; omega
        have h2 := hcl (8 * i + j) h1
        have h3 := (hc.cell (p := ⟨B, off + (8 * i + j), none⟩) (cell_lt h2) (by simp)).trans h2
        rw [h3]
        have h4 : S[j] = l[8 * i + j] := by subst hSe; simp
        rw [h4])
      have HSb := Lib.hid hSb
      have H8 := Lib.hid hseg
      have HSe := Lib.hid hSe
      obtain ⟨ii, hii⟩ : ∃ ii, kk + i = ii := ⟨_, rfl⟩
      obtain ⟨p, hp⟩ : ∃ p, 8 * i = p := ⟨_, rfl⟩
      have HII := Lib.hid hii
      have HP := Lib.hid hp
      have ewi : IntKind.i64.wrap ((i : Int) + 1) = ((i + 1 : Nat) : Int) := by rw [IntKind.wrap_i64]; have := HKr.out; omega
      have HEw := Lib.hid ewi
      have HPn := Lib.hid (show p + 8 ≤ n by have := HNr.out; omega)
      clear hcl hc hF hS hSb hseg hSe hir hii hp ewi
      go_wp2_with fail
      go_loopw [10, 11] (fun nv kv wq => ∃ (t m : Nat) (z : Int), kv = .int .i64 z ∧ z = 7 - (t : Int) ∧ t ≤ 8 ∧ nv = .int .u64 (m : Int) ∧ m = leN (S.drop (8 - t)) ∧ wr = wq) (fun _ kv _ => (intOf kv + 1).toNat)
      case atStart => exact ⟨0, 0, 7, rfl, rfl, by decide, rfl, by rw [List.drop_of_length_le (by rw [H8.out]; decide)]; rfl, rfl⟩
      case round =>
        obtain ⟨t, m, z, rfl, hz, ht, rfl, hm, rfl⟩ := hrel
        by_cases ht8 : t < 8
        · have hz0 : 0 ≤ z := by omega
          obtain ⟨j, hj⟩ : ∃ j, 7 - t = j := ⟨_, rfl⟩
          have hjS : j < S.length := by rw [H8.out]; omega
          have hcell := HCl.out j hjS
          have hx := HSb.out _ (List.getElem_mem hjS)
          have hst := leN_drop hjS
          have hml : m < 256 ^ 7 := by
            rw [hm]
            have h1 := leN_lt (S.drop (8 - t)) (fun y hy => HSb.out y (List.mem_of_mem_drop hy))
            have h2 : 256 ^ (S.drop (8 - t)).length ≤ 256 ^ 7 := Nat.pow_le_pow_right (by decide) (by rw [List.length_drop, H8.out]; omega)
            omega
          rw [show j + 1 = 8 - t by omega, ← hm] at hst
          generalize S[j] = x at *
          rw [show (256 : Nat) ^ 7 = 72057594037927936 by decide] at hml
          rw [HP.out] at hcell
          obtain ⟨m2, hm2⟩ : ∃ m2, m * 256 + x = m2 := ⟨_, rfl⟩
          obtain ⟨ix, hix⟩ : ∃ ix, p + j = ix := ⟨_, rfl⟩
          rw [hix] at hcell
          have hpn := HPn.out
          have hr8 := HKr.out.2
          have hpi := HP.out
          have e1 : IntKind.u64.wrap ((m : Int) * 256) = (m : Int) * 256 := by rw [IntKind.wrap_u64]; omega
          have e2 : IntKind.i64.wrap (8 * (i : Int)) = (p : Int) := by rw [IntKind.wrap_i64]; omega
          have e3 : IntKind.i64.wrap ((p : Int) + z) = (ix : Int) := by rw [IntKind.wrap_i64]; omega
          have e4 : IntKind.u64.wrap (x : Int) = (x : Int) := by rw [IntKind.wrap_u64]; omega
          have e5 : IntKind.u64.wrap ((m : Int) * 256 + (x : Int)) = (m2 : Int) := by rw [IntKind.wrap_u64]; omega
          have e6 : IntKind.i64.wrap (z - 1) = z - 1 := by rw [IntKind.wrap_i64]; omega
          have e7 : (ix : Int) < (n : Int) := by omega
          have HM := Lib.hid (show m2 = leN (S.drop (8 - (t + 1))) by rw [show 8 - (t + 1) = j by omega, hst, ← hm2]; omega)
          have HZ := Lib.hid (show z - 1 = 7 - ((t + 1 : Nat) : Int) ∧ t + 1 ≤ 8 by omega)
          have hlt : ix < n := by omega
          clear hst hm hml hm2 hix hj hjS hz ht hx hpn hr8 hpi ht8
          go_wp2_with fail
          go_roundw
          case rel => exact ⟨t + 1, m2, z - 1, rfl, HZ.out.1, HZ.out.2, rfl, HM.out, trivial⟩
          case measure => simp [intOf]; omega
        · obtain rfl : t = 8 := by omega
          have hz0 : ¬ 0 ≤ z := by omega
          have HNu := Lib.hid (fun W => rnum_any m W)
          obtain ⟨X, hX⟩ : ∃ X, num m = X := ⟨_, rfl⟩
          rw [hX] at HNu
          unfold vv at HNu
          have HM := Lib.hid (show num (leN ((l.drop (8 * i)).take 8)) = X by rw [HSe.out, ← hX, hm]; rfl)
          have e1 := HKk.out
          have hii := HII.out
          have hkr := HKr.out
          have e2 : IntKind.i64.wrap ((kk : Int) + (i : Int)) = (ii : Int) := by rw [IntKind.wrap_i64]; omega
          have i18 : (ii : Int) < 18 := by omega
          have ewi := HEw.out
          clear hX hm hz ht ht8 hii hkr
          go_wp2_with fail
          with_reducible refine (HNu.out _).mono ?_
          rintro e w3 ⟨rfl, hc3⟩
          have hF3 := HFi.out.quiet hc3
          have h18 : ii < 18 := by omega
          obtain ⟨y0, y1, y2, y3, y4⟩ := hF3.a ii h18
          have yf := hF3.fr
          have HF4 := Lib.hid (show FR (st5 w3 R (ii * 5) X) R (wrF F kk l (i + 1)) from by
            have := hF3.set h18 X
            rw [← HM.out, ← HII.out] at this ⊢
            exact this)
          have hcs := st5_ch w3 R (ii * 5) X
          have HS4 := Lib.hid ((HSi.out.quiet hc3).ch hcs (by simp))
          have HC4 := Lib.hid ((HCi.out.trans hc3).fresh hcs (by have := HRs.out; simp; omega))
          clear hF3 hc3 hcs HNu h18
          go_wp2_with fail
          go_roundw
          case rel => exact ⟨i + 1, by go_num, by have := HKr.out; omega, HF4.out, HS4.out, HC4.out⟩
          case measure => simp [intOf]; omega
    · obtain rfl : i = r := by omega
      have HE := Lib.hid (show FR (wr.setCells (R + 1) 0 (fl (wrF F kk l i))) (R + 1) (wrF F kk l i) ∧ Ch [] w (wr.setCells (R + 1) 0 (fl (wrF F kk l i))) from ⟨hS.setAll _, hc.fresh (chCells wr (R + 1) _ 0) (by have := HRs.out; simp; omega)⟩)
      clear hir hc hF hS hi
      go_wp2_with (first | ((with_reducible show wpList _ _ _ (Oper.mk _ (Op.load 62 _) _ _ _ _ :: _) _ _); refine wpList_readF rfl HFi.out (by rfl) (by rfl) ?_) | ((with_reducible show wpList _ _ _ (Oper.mk _ (Op.store 62 _ _) _ _ _ _ :: _) _ _); refine wpList_writeF rfl HSi.out (wrF F kk l i) (by rfl) (by rfl) (by rfl) ?_) | fail)
      have HLd := Lib.hid (load_frame HE.out.1)
      refine bodyPost_ret (results_two rfl rfl HLd.out) rfl ?_
      exact ⟨rfl, HE.out.2⟩
theorem rwrite_any {w : World} {F : FV} {a : Int} {n cap : Nat} (hn : n ≤ 1000) {v : Option Addr} {l : List Nat} (hl : l.length = n) (hb : ∀ x ∈ l, x < 256) (hA : BA w v l) :
    Calls Tryd.prog 23 #[.agg (fl F).toArray, .int .i64 a, .slice v n cap] w fun e w' => e = .returned (.tuple #[.agg (fl (wrT F a l)).toArray, .int .i64 (wrE a n)]) ∧ Ch [] w w' := by
  by_cases hok : wrOk a n
  · have e1 : wrE a n = 0 := by unfold wrE; rw [if_pos hok]
    have e2 : wrT F a l = wrF F (10 + a.toNat) l (n / 8) := by unfold wrT; rw [hl, if_pos hok]
    rw [e1, e2]
    obtain ⟨h8, h0, h1, h2⟩ := hok
    obtain ⟨k, rfl⟩ : ∃ k : Nat, a = (k : Int) := ⟨a.toNat, by omega⟩
    rw [Int.toNat_natCast]
    exact rwrite_ok (by omega) (by omega) hl hb hA
  · have e1 : wrE a n = 1 := by unfold wrE; rw [if_neg hok]
    have e2 : wrT F a l = F := by unfold wrT; rw [hl, if_neg hok]
    rw [e1, e2]
    exact rwrite_bad hn hok v
end Go.Proofs.YtpbdmlipdfdblaaDoor
