/-
  The program's word, Write.
-/
import Derived.Test.YtlffcccicpdnfaaFrV
namespace Go.Proofs.Ytlffcccicpdnfaa
open Go.RowKit Go.BigFrame

attribute [local go_sem] Oper.semAt_some

theorem pow256 (k : Nat) : 256 ^ k = 2 ^ (8 * k) := by rw [Nat.pow_mul]
theorem or_high {n x k : Nat} (hn : n < 256 ^ k) : n ||| x * 256 ^ k = n + x * 256 ^ k := by
  rw [pow256] at hn ⊢
  have := Nat.two_pow_add_eq_or_of_lt hn x
  rw [Nat.or_comm, Nat.mul_comm x, ← this, Nat.add_comm]
theorem leN_take {l : List Nat} {k : Nat} (hk : k < l.length) : leN (l.take (k + 1)) = leN (l.take k) + l[k] * 256 ^ k := by
  rw [List.take_succ_eq_append_getElem hk, leN_snoc, List.length_take, Nat.min_eq_left (by omega)]
set_option maxHeartbeats 2000000 in
theorem fword_any {w : World} {a : Option Addr} {cap : Nat} {l : List Nat} (h8 : l.length = 8) (hb : ∀ x ∈ l, x < 256) (hA : BA w a l) :
    Calls Try.prog 35 #[.slice a 8 cap] w fun e w' => e = .returned (.int .u64 ((leN l : Nat) : Int)) ∧ w = w' := by
  have HA := Lib.hid hA
  have HB := Lib.hid hb
  have H8 := Lib.hid h8
  clear hA hb h8
  go_enter Try.func35, Try.ntmps35
  go_wp2_with fail
  go_loopw [3, 8] (fun nv i wr => ∃ k n : Nat, i = .int .i64 (k : Int) ∧ k ≤ 8 ∧ nv = .int .u64 (n : Int) ∧ n = leN (l.take k) ∧ w = wr) (fun _ i _ => 8 - (intOf i).toNat)
  case atStart => exact ⟨0, 0, rfl, by decide, rfl, rfl, rfl⟩
  case round =>
    obtain ⟨k, n, rfl, hk, rfl, hn, rfl⟩ := hrel
    by_cases hk8 : k < 8
    · have hk8' : (k : Int) < 8 := by omega
      have hkl : k < l.length := by rw [H8.out]; exact hk8
      rcases HA.out with h0 | ⟨b, off, rfl, hc⟩
      · exfalso; rw [h0] at hkl; simp at hkl
      have hcell := hc k hkl
      have hx := HB.out _ (List.getElem_mem hkl)
      have hst := leN_take hkl
      generalize l[k] = x at *
      have hnl : n < 256 ^ k := by
        rw [hn]
        have := leN_lt (l.take k) (fun y hy => HB.out y (List.mem_of_mem_take hy))
        rwa [List.length_take, Nat.min_eq_left (by omega)] at this
      obtain ⟨y, hy⟩ : ∃ y, x * 256 ^ k = y := ⟨_, rfl⟩
      obtain ⟨n2, hn2⟩ : ∃ n2, n + y = n2 := ⟨_, rfl⟩
      have hor : n ||| y = n2 := by rw [← hy, or_high hnl, hy, hn2]
      have hyl : y < 18446744073709551616 := by
        rw [← hy]
        have h1 : 256 ^ k ≤ 256 ^ 7 := Nat.pow_le_pow_right (by decide) (by omega)
        have h2 : x * 256 ^ k ≤ 255 * 256 ^ 7 := Nat.mul_le_mul (by omega) h1
        have h3 : 255 * 256 ^ 7 < 18446744073709551616 := by decide
        omega
      have hnl2 : n < 18446744073709551616 := by
        have h1 : 256 ^ k ≤ 256 ^ 7 := Nat.pow_le_pow_right (by decide) (by omega)
        have h3 : 256 ^ 7 < 18446744073709551616 := by decide
        omega
      obtain ⟨s, hs⟩ : ∃ s, 8 * k = s := ⟨_, rfl⟩
      have e1 : IntKind.u64.wrap (x : Int) = (x : Int) := by rw [IntKind.wrap_u64]; omega
      have e2 : IntKind.i64.wrap (8 * (k : Int)) = (s : Int) := by rw [IntKind.wrap_i64]; omega
      have e3 : IntKind.u64.wrap ((x : Int) * 2 ^ s) = (y : Int) := by
        rw [show (2 : Int) ^ s = ((2 ^ s : Nat) : Int) by simp, ← Int.natCast_mul, ← hs, ← pow256, hy, IntKind.wrap_u64]; omega
      have e4 : bits .or .u64 (n : Int) (y : Int) = (n2 : Int) := by rw [← hor]; exact u64_or_nat n y hnl2 hyl
      have s1 : (s : Int) ≤ 64 := by omega
      have s2 : s ≤ 64 := by omega
      have s3 : ¬ (s : Int) < 0 := by omega
      have HN := Lib.hid (show n2 = leN (l.take (k + 1)) by rw [hst, ← hn, hy, hn2])
      have ew : IntKind.i64.wrap ((k : Int) + 1) = ((k + 1 : Nat) : Int) := by rw [IntKind.wrap_i64]; omega
      clear hc hkl hx hst hn hnl hy hn2 hor hyl hnl2 hs HA
      go_wp2_with fail
      go_roundw
      case rel => exact ⟨k + 1, n2, rfl, by omega, rfl, HN.out, trivial⟩
      case measure => simp [intOf]; omega
    · obtain rfl : k = 8 := by omega
      have HN := Lib.hid (show n = leN l by rw [hn, List.take_of_length_le (by have := H8.out; omega)])
      clear hn hk8
      go_wp2_with fail
      go_ret
      exact ⟨by rw [HN.out]; rfl, rfl⟩
/-- The error, and what becomes of a frame. -/
def wrOk (a : Int) (n : Nat) : Prop := n % 8 = 0 ∧ hol a ((n / 8 : Nat) : Int)
instance (a : Int) (n : Nat) : Decidable (wrOk a n) := by unfold wrOk; exact inferInstance
def wrE (a : Int) (n : Nat) : Int := if wrOk a n then 0 else 1
def wrT (F : FV) (a : Int) (l : List Nat) : FV := if wrOk a l.length then wrF F (10 + a.toNat) l (l.length / 8) else F

set_option maxHeartbeats 4000000 in
theorem write_ok {w : World} {b : Nat} {F : FV} (h : FR w b F) {k r n cap : Nat} (hkr : k + r ≤ 8) (hnr : n = 8 * r) (hnc : n ≤ cap) {v : Option Addr} {l : List Nat} (hl : l.length = n) (hb : ∀ x ∈ l, x < 256) (hA : BA w v l) (hv : ∀ y, v = some y → l ≠ [] → y.block ≠ b) :
    Calls Try.prog 17 #[.pointer (some ⟨b, 0, none⟩), .int .i64 (k : Int), .slice v n cap] w fun e w' => e = .returned (.int .i64 0) ∧ FR w' b (wrF F (10 + k) l r) ∧ Ch [b] w w' := by
  have HH := Lib.hid (fun W => holds_any (a := (k : Int)) (n := (r : Int)) ⟨by omega, by omega⟩ W)
  rw [show decide (hol (k : Int) (r : Int)) = true from decide_eq_true (by unfold hol; omega)] at HH
  have q1 : (n : Int).tmod 8 = 0 := by rw [Int.tmod_eq_emod_of_nonneg (by omega)]; omega
  have q2 : (n : Int).tdiv 8 = (r : Int) := by rw [Int.tdiv_eq_ediv_of_nonneg (by omega)]; omega
  have q3 : IntKind.i64.wrap (r : Int) = (r : Int) := by rw [IntKind.wrap_i64]; omega
  have HL := Lib.hid hl
  have HB := Lib.hid hb
  have H0 := Lib.hid (show BA w v (l.drop (8 * 0)) from by simpa using hA)
  have HF := Lib.hid h
  have HV := Lib.hid hv
  have HNR := Lib.hid hnr
  have HKR := Lib.hid hkr
  have HNC := Lib.hid hnc
  clear hl hb hA h hv hnr hkr hnc
  go_enter Try.func17, Try.ntmps17
  go_wp2_with (first | (with_reducible refine (HH.out _).mono ?_; rintro e w' ⟨rfl, rfl⟩) | fail)
  clear HH q1 q2 q3
  go_loopw [1, 2] (fun av bv wr => ∃ (i kk m cap' : Nat) (a' : Option Addr), av = .int .i64 (kk : Int) ∧ bv = .slice a' m cap' ∧ i ≤ r ∧ kk = k + i ∧ m = 8 * (r - i) ∧ m ≤ cap' ∧ BA wr a' (l.drop (8 * i)) ∧ (∀ y, a' = some y → l.drop (8 * i) ≠ [] → y.block ≠ b) ∧ FR wr b (wrF F (10 + k) l i) ∧ Ch [b] w wr) (fun av _ _ => 8 - (intOf av).toNat)
  case atStart => exact ⟨0, k, n, cap, v, rfl, rfl, Nat.zero_le _, by omega, by have := HNR.out; omega, HNC.out, H0.out, (by simpa using HV.out), HF.out, Ch.refl _ _⟩
  case round =>
    obtain ⟨i, kk, m, cap', a', rfl, rfl, hi, hkk, hm, hmc, hA, hav, hF, hc⟩ := hrel
    have HC := Lib.hid hc
    have HFi := Lib.hid hF
    by_cases hir : i < r
    · have hm0 : 0 < m := by omega
      have hm0' : (0 : Int) < (m : Int) := by omega
      have hld : (l.drop (8 * i)).length = m := by rw [List.length_drop, HL.out, HNR.out]; omega
      have hk8 : kk < 8 := by have := HKR.out; omega
      have hk8' : (kk : Int) < 8 := by omega
      have hm8 : 8 ≤ m := by omega
      have hc8 : 8 ≤ cap' := by omega
      have ht8 : ((l.drop (8 * i)).take 8).length = 8 := by rw [List.length_take]; omega
      have HT := Lib.hid (hA.take 8)
      rcases hA with h0 | ⟨B, off, rfl, hcl⟩
      · exfalso; rw [h0] at hld; simp at hld; omega
      have HA := Lib.hid hcl
      have hBb : B ≠ b := hav _ rfl (fun e => by rw [e] at hld; simp at hld; omega)
      have HBb := Lib.hid hBb
      have HWd := Lib.hid (fun c => fword_any (cap := c) ht8 (fun x hx => HB.out x (List.mem_of_mem_drop (List.mem_of_mem_take hx))) (HT.out.ch (Ch.refl [] wr).drew (by simp)))
      obtain ⟨N, hN⟩ : ∃ N, leN ((l.drop (8 * i)).take 8) = N := ⟨_, rfl⟩
      rw [hN] at HWd
      have HN := Lib.hid hN
      have HNu := Lib.hid (fun W => num_any N W)
      obtain ⟨X, hX⟩ : ∃ X, num N = X := ⟨_, rfl⟩
      rw [hX] at HNu
      have HX := Lib.hid hX
      unfold vv at HNu
      have ew : IntKind.i64.wrap ((kk : Int) + 1) = ((kk + 1 : Nat) : Int) := by rw [IntKind.wrap_i64]; omega
      have HIm := Lib.hid (show i + 1 ≤ r ∧ kk + 1 = k + (i + 1) ∧ m - 8 = 8 * (r - (i + 1)) ∧ m - 8 ≤ cap' - 8 by omega)
      have HLd := Lib.hid hld
      have HMc := Lib.hid hmc
      have HM8 := Lib.hid hm8
      have HKk := Lib.hid (show 10 + k + i = 10 + kk by omega)
      clear hav hF hc hir hm hkk hld ht8 hcl hBb hN hX hm0 hmc hi
      go_wp2_with fail
      go_region_held (fun _ => True) (exact True.intro) (first
        | (with_reducible refine (HWd.out _).mono ?_; rintro e w2 ⟨rfl, rfl⟩)
        | (with_reducible refine (HNu.out _).mono ?_; rintro e w2 ⟨rfl, hc2⟩; have HC2 := Lib.hid ((Ch.refl [] wr).drew.trans hc2); have hF2 := HFi.out.quiet HC2.out; have HF2 := Lib.hid hF2; obtain ⟨y0, y1, y2, y3, y4⟩ := hF2.word hk8; have yf := hF2.fr; clear hF2 hc2)
        | fail)
      simp only [Exit.then]
      obtain ⟨w4, hw4⟩ : ∃ W, st5 w2 b (50 + kk * 5) X = W := ⟨_, rfl⟩
      have hF4 : FR w4 b (wrF F (10 + k) l (i + 1)) := by
        have := HF2.out.setW hk8 X
        rw [hw4, ← HX.out, ← HN.out, ← HKk.out] at this
        exact this
      have hc4 : Ch [b] wr w4 := by rw [← hw4]; exact (HC2.out.mono (by simp)).trans (st5_ch w2 b _ X)
      have HF4 := Lib.hid hF4
      have HC4 := Lib.hid (HC.out.trans hc4)
      have hdd : l.drop (8 * (i + 1)) = (l.drop (8 * i)).drop 8 := by rw [List.drop_drop, show 8 * (i + 1) = 8 * i + 8 by omega]
      have HA4 := Lib.hid (show ∀ q, q < m - 8 → w4.cell? ⟨B, off + 8 + q, none⟩ = some (.int .u8 (((l.drop (8 * (i + 1))).getD q 0 : Nat) : Int)) from fun q hq => by
        have h1 : 8 + q < (l.drop (8 * i)).length := by rw [HLd.out]; omega
        have h2 := HA.out (8 + q) h1
        have h3 := (hc4.cell (p := ⟨B, off + (8 + q), none⟩) (cell_lt h2) (by have := HBb.out; simp; omega)).trans h2
        rw [show off + 8 + q = off + (8 + q) by omega, h3, hdd]
        rw [show (l.drop (8 * i))[8 + q] = ((l.drop (8 * i)).drop 8).getD q 0 from by
          have : q < ((l.drop (8 * i)).drop 8).length := by rw [List.length_drop, HLd.out]; omega
          rw [List.getD_eq_getElem?_getD, List.getElem?_eq_getElem this]
          simp [Nat.add_assoc]])
      have HLn := Lib.hid (show (l.drop (8 * (i + 1))).length = m - 8 by rw [hdd, List.length_drop, HLd.out])
      unfold st5 at hw4
      have HW4 := Lib.hid hw4
      clear hF4 hc4 hdd hw4 y0 y1 y2 y3 y4 yf HWd HNu
      rw [HW4.out]
      by_cases hce : cap' = 8
      · have hm := HMc.out
        have hm8 := HM8.out
        subst hce
        obtain rfl : m = 8 := by omega
        go_wp2_with fail
        go_roundw
        case rel => exact ⟨i + 1, kk + 1, 0, 0, _, by go_num, rfl, HIm.out.1, HIm.out.2.1, by have := HIm.out.2.2.1; omega, by decide, .inl (List.eq_nil_of_length_eq_zero (by rw [HLn.out])), (fun y e _ => by cases e; exact HBb.out), HF4.out, HC4.out⟩
        case measure => simp [intOf]; omega
      · have HA5 := Lib.hid (show BA w4 (some ⟨B, off + 8, none⟩) (l.drop (8 * (i + 1))) from .inr ⟨B, off + 8, rfl, fun q hq => by
          have := HA4.out q (by rw [HLn.out] at hq; exact hq)
          rwa [List.getD_eq_getElem?_getD, List.getElem?_eq_getElem hq] at this⟩)
        go_wp2_with fail
        go_roundw
        case rel => exact ⟨i + 1, kk + 1, m - 8, cap' - 8, _, by go_num, rfl, HIm.out.1, HIm.out.2.1, HIm.out.2.2.1, HIm.out.2.2.2, HA5.out, (fun y e _ => by cases e; exact HBb.out), HF4.out, HC4.out⟩
        case measure => simp [intOf]; omega
    · obtain rfl : i = r := by omega
      obtain rfl : m = 0 := by omega
      clear hA hav hF hc hir hm hkk hmc hi
      go_wp2_with fail
      go_ret
      exact ⟨rfl, HFi.out, HC.out⟩
theorem fwrite_any {w : World} {b : Nat} {F : FV} (h : FR w b F) {a : Int} (ha : fit a) {n cap : Nat} (hn : n ≤ 1000) (hnc : n ≤ cap) {v : Option Addr} {l : List Nat} (hl : l.length = n) (hb : ∀ x ∈ l, x < 256) (hA : BA w v l) (hv : ∀ y, v = some y → l ≠ [] → y.block ≠ b) :
    Calls Try.prog 17 #[.pointer (some ⟨b, 0, none⟩), .int .i64 a, .slice v n cap] w fun e w' => e = .returned (.int .i64 (wrE a n)) ∧ FR w' b (wrT F a l) ∧ Ch [b] w w' := by
  by_cases hok : wrOk a n
  · have e1 : wrE a n = 0 := by unfold wrE; rw [if_pos hok]
    have e2 : wrT F a l = wrF F (10 + a.toNat) l (n / 8) := by unfold wrT; rw [hl, if_pos hok]
    rw [e1, e2]
    obtain ⟨h8, h0, h1, h2⟩ := hok
    obtain ⟨k, rfl⟩ : ∃ k : Nat, a = (k : Int) := ⟨a.toNat, by omega⟩
    rw [Int.toNat_natCast]
    exact write_ok h (by omega) (by omega) hnc hl hb hA hv
  · have e1 : wrE a n = 1 := by unfold wrE; rw [if_neg hok]
    have e2 : wrT F a l = F := by unfold wrT; rw [hl, if_neg hok]
    rw [e1, e2]
    have HF := Lib.hid h
    by_cases h8 : n % 8 = 0
    · obtain ⟨r, hr⟩ : ∃ r, n / 8 = r := ⟨_, rfl⟩
      have HH := Lib.hid (fun W => holds_any (n := (r : Int)) ha W)
      rw [show decide (hol a (r : Int)) = false from decide_eq_false (fun e => hok ⟨h8, by rw [hr]; exact e⟩)] at HH
      have q1 : (n : Int).tmod 8 = 0 := by rw [Int.tmod_eq_emod_of_nonneg (by omega)]; omega
      have q2 : (n : Int).tdiv 8 = (r : Int) := by rw [Int.tdiv_eq_ediv_of_nonneg (by omega)]; omega
      have q3 : IntKind.i64.wrap (r : Int) = (r : Int) := by rw [IntKind.wrap_i64]; omega
      clear e1 e2 hok h8 hr ha hn hnc hl hb hA hv h
      go_enter Try.func17, Try.ntmps17
      go_wp2_with (first | (with_reducible refine (HH.out _).mono ?_; rintro e w' ⟨rfl, rfl⟩) | fail)
      go_ret
      exact ⟨rfl, HF.out, Ch.refl _ _⟩
    · obtain ⟨r, hr⟩ : ∃ r, n % 8 = r := ⟨_, rfl⟩
      have q1 : (n : Int).tmod 8 = (r : Int) := by rw [Int.tmod_eq_emod_of_nonneg (by omega)]; omega
      have q0 : ((r : Int) != 0) = true := by simp; omega
      clear e1 e2 hok h8 hr ha hn hnc hl hb hA hv h
      go_enter Try.func17, Try.ntmps17
      go_wp2_with fail
      go_ret
      exact ⟨rfl, HF.out, Ch.refl _ _⟩
end Go.Proofs.Ytlffcccicpdnfaa
