/-
  The document's Do, at each name (written by gen/rdo16.py).
-/
import Derived.Test.YtkjeibdoghcgfaaAlE
import Derived.Laws.Strings
import Derived.Laws.Strings2
namespace Go.Proofs.Ytkjeibdoghcgfaa
open Go.RowKit Go.BigFrame Go.Lib

attribute [local go_sem] Oper.semAt_some

theorem rdo_0 {op : Int} {sh : List UInt8} (HK : Hid (∀ w, Calls Try.prog 19 #[.int .i64 op] w fun e w' => e = .returned (.tuple #[.string ⟨#[97, 100, 100]⟩, .string ⟨sh.toArray⟩, .int .i64 1]) ∧ Ch [] w w')) {a b : Nat} (_ha : W64 a) (_hb : W64 b) (w : World) :
    Calls Try.prog 10 #[.int .i64 op, .int .u64 (a : Int), .int .u64 (b : Int)] w fun e w' => e = .returned (.tuple #[.int .u64 ((doN 0 a b : Nat) : Int), .int .i64 0]) ∧ Ch [] w w' := by
  obtain ⟨r, hr⟩ : ∃ r, r = doN 0 a b := ⟨_, rfl⟩
  rw [← hr]
  have h1 : IntKind.u64.wrap ((a : Int) + (b : Int)) = (r : Int) := by rw [IntKind.wrap_u64, hr]; unfold doN; simp only; omega
  clear hr _ha _hb
  go_enter Try.func10, Try.ntmps10
  go_wp2_with (first | (with_reducible refine (HK.out _).mono ?_; rintro e w1 ⟨rfl, hc⟩) | fail)
  go_ret2
  exact ⟨rfl, hc⟩

theorem rdo_1 {op : Int} {sh : List UInt8} (HK : Hid (∀ w, Calls Try.prog 19 #[.int .i64 op] w fun e w' => e = .returned (.tuple #[.string ⟨#[115, 117, 98]⟩, .string ⟨sh.toArray⟩, .int .i64 1]) ∧ Ch [] w w')) {a b : Nat} (_ha : W64 a) (hb : W64 b) (w : World) :
    Calls Try.prog 10 #[.int .i64 op, .int .u64 (a : Int), .int .u64 (b : Int)] w fun e w' => e = .returned (.tuple #[.int .u64 ((doN 1 a b : Nat) : Int), .int .i64 0]) ∧ Ch [] w w' := by
  obtain ⟨r, hr⟩ : ∃ r, r = doN 1 a b := ⟨_, rfl⟩
  rw [← hr]
  have h1 : IntKind.u64.wrap ((a : Int) - (b : Int)) = (r : Int) := by rw [IntKind.wrap_u64, hr]; unfold doN; simp only; unfold W64 at hb; omega
  clear hr _ha hb
  go_enter Try.func10, Try.ntmps10
  go_wp2_with (first | (with_reducible refine (HK.out _).mono ?_; rintro e w1 ⟨rfl, hc⟩) | fail)
  go_ret2
  exact ⟨rfl, hc⟩

theorem rdo_2 {op : Int} {sh : List UInt8} (HK : Hid (∀ w, Calls Try.prog 19 #[.int .i64 op] w fun e w' => e = .returned (.tuple #[.string ⟨#[109, 117, 108]⟩, .string ⟨sh.toArray⟩, .int .i64 1]) ∧ Ch [] w w')) {a b : Nat} (_ha : W64 a) (_hb : W64 b) (w : World) :
    Calls Try.prog 10 #[.int .i64 op, .int .u64 (a : Int), .int .u64 (b : Int)] w fun e w' => e = .returned (.tuple #[.int .u64 ((doN 2 a b : Nat) : Int), .int .i64 0]) ∧ Ch [] w w' := by
  obtain ⟨r, hr⟩ : ∃ r, r = doN 2 a b := ⟨_, rfl⟩
  rw [← hr]
  have h1 : IntKind.u64.wrap ((a : Int) * (b : Int)) = (r : Int) := by rw [IntKind.wrap_u64, hr, ← Int.natCast_mul]; unfold doN; simp only; generalize a * b = x; omega
  clear hr _ha _hb
  go_enter Try.func10, Try.ntmps10
  go_wp2_with (first | (with_reducible refine (HK.out _).mono ?_; rintro e w1 ⟨rfl, hc⟩) | fail)
  go_ret2
  exact ⟨rfl, hc⟩

theorem rdo_3 {op : Int} {sh : List UInt8} (HK : Hid (∀ w, Calls Try.prog 19 #[.int .i64 op] w fun e w' => e = .returned (.tuple #[.string ⟨#[100, 105, 118]⟩, .string ⟨sh.toArray⟩, .int .i64 1]) ∧ Ch [] w w')) {a b : Nat} (ha : W64 a) (_hb : W64 b) (w : World) :
    Calls Try.prog 10 #[.int .i64 op, .int .u64 (a : Int), .int .u64 (b : Int)] w fun e w' => e = .returned (.tuple #[.int .u64 ((doN 3 a b : Nat) : Int), .int .i64 0]) ∧ Ch [] w w' := by
  by_cases h : b = 0
  · subst h
    have e : doN 3 a 0 = 0 := by unfold doN; simp
    rw [e]
    clear e ha
    go_enter Try.func10, Try.ntmps10
    go_wp2_with (first | (with_reducible refine (HK.out _).mono ?_; rintro e w1 ⟨rfl, hc⟩) | fail)
    go_ret2
    exact ⟨rfl, hc⟩
  · obtain ⟨q, hq⟩ : ∃ q, q = a / b := ⟨_, rfl⟩
    have hql : q < 18446744073709551616 := by rw [hq]; exact Nat.lt_of_le_of_lt (Nat.div_le_self _ _) ha
    have h0 : ((b : Int) == 0) = false := by rw [beq_eq_false_iff_ne]; omega
    have hz : ¬ (b : Int) = 0 := by omega
    have hd : (a : Int).tdiv (b : Int) = (q : Int) := by rw [hq]; rfl
    have hw : IntKind.u64.wrap (q : Int) = (q : Int) := by rw [IntKind.wrap_u64]; omega
    have e : doN 3 a b = q := by rw [hq]; rfl
    rw [e]
    clear e hq hql ha h
    go_enter Try.func10, Try.ntmps10
    go_wp2_with (first | (with_reducible refine (HK.out _).mono ?_; rintro e w1 ⟨rfl, hc⟩) | fail)
    go_ret2
    exact ⟨rfl, hc⟩

theorem rdo_4 {op : Int} {sh : List UInt8} (HK : Hid (∀ w, Calls Try.prog 19 #[.int .i64 op] w fun e w' => e = .returned (.tuple #[.string ⟨#[109, 111, 100]⟩, .string ⟨sh.toArray⟩, .int .i64 1]) ∧ Ch [] w w')) {a b : Nat} (ha : W64 a) (_hb : W64 b) (w : World) :
    Calls Try.prog 10 #[.int .i64 op, .int .u64 (a : Int), .int .u64 (b : Int)] w fun e w' => e = .returned (.tuple #[.int .u64 ((doN 4 a b : Nat) : Int), .int .i64 0]) ∧ Ch [] w w' := by
  by_cases h : b = 0
  · subst h
    have e : doN 4 a 0 = a := by unfold doN; simp
    rw [e]
    clear e ha
    go_enter Try.func10, Try.ntmps10
    go_wp2_with (first | (with_reducible refine (HK.out _).mono ?_; rintro e w1 ⟨rfl, hc⟩) | fail)
    go_ret2
    exact ⟨rfl, hc⟩
  · obtain ⟨q, hq⟩ : ∃ q, q = a / b := ⟨_, rfl⟩
    have hql : q < 18446744073709551616 := by rw [hq]; exact Nat.lt_of_le_of_lt (Nat.div_le_self _ _) ha
    have h0 : ((b : Int) == 0) = false := by rw [beq_eq_false_iff_ne]; omega
    have hz : ¬ (b : Int) = 0 := by omega
    have hd : (a : Int).tdiv (b : Int) = (q : Int) := by rw [hq]; rfl
    have hw : IntKind.u64.wrap (q : Int) = (q : Int) := by rw [IntKind.wrap_u64]; omega
    obtain ⟨m, hm⟩ : ∃ m, m = q * b := ⟨_, rfl⟩
    obtain ⟨r, hr⟩ : ∃ r, r = a % b := ⟨_, rfl⟩
    have hmr : m + r = a := by rw [hm, hr, hq]; exact Nat.div_add_mod' a b
    unfold W64 at ha
    have hw2 : IntKind.u64.wrap ((q : Int) * (b : Int)) = (m : Int) := by rw [IntKind.wrap_u64, ← Int.natCast_mul, ← hm]; omega
    have hw3 : IntKind.u64.wrap ((a : Int) - (m : Int)) = (r : Int) := by rw [IntKind.wrap_u64]; omega
    have e : doN 4 a b = r := by rw [hr]; rfl
    rw [e]
    clear e hq hql ha h hm hr hmr
    go_enter Try.func10, Try.ntmps10
    go_wp2_with (first | (with_reducible refine (HK.out _).mono ?_; rintro e w1 ⟨rfl, hc⟩) | fail)
    go_ret2
    exact ⟨rfl, hc⟩

theorem rdo_5 {op : Int} {sh : List UInt8} (HK : Hid (∀ w, Calls Try.prog 19 #[.int .i64 op] w fun e w' => e = .returned (.tuple #[.string ⟨#[97, 110, 100]⟩, .string ⟨sh.toArray⟩, .int .i64 1]) ∧ Ch [] w w')) {a b : Nat} (ha : W64 a) (hb : W64 b) (w : World) :
    Calls Try.prog 10 #[.int .i64 op, .int .u64 (a : Int), .int .u64 (b : Int)] w fun e w' => e = .returned (.tuple #[.int .u64 ((doN 5 a b : Nat) : Int), .int .i64 0]) ∧ Ch [] w w' := by
  obtain ⟨r, hr⟩ : ∃ r, r = doN 5 a b := ⟨_, rfl⟩
  rw [← hr]
  have HC := Lib.hid (fun w => rbits_and ha hb w)
  rw [show a &&& b = r from hr.symm] at HC
  clear hr ha hb
  go_enter Try.func10, Try.ntmps10
  go_wp2_with (first | (with_reducible refine (HK.out _).mono ?_; rintro e w1 ⟨rfl, hc⟩) | (with_reducible refine (HC.out _).mono ?_; rintro e w2 ⟨rfl, rfl⟩) | fail)
  go_ret2
  exact ⟨rfl, hc⟩

theorem rdo_6 {op : Int} {sh : List UInt8} (HK : Hid (∀ w, Calls Try.prog 19 #[.int .i64 op] w fun e w' => e = .returned (.tuple #[.string ⟨#[111, 114]⟩, .string ⟨sh.toArray⟩, .int .i64 1]) ∧ Ch [] w w')) {a b : Nat} (ha : W64 a) (hb : W64 b) (w : World) :
    Calls Try.prog 10 #[.int .i64 op, .int .u64 (a : Int), .int .u64 (b : Int)] w fun e w' => e = .returned (.tuple #[.int .u64 ((doN 6 a b : Nat) : Int), .int .i64 0]) ∧ Ch [] w w' := by
  obtain ⟨r, hr⟩ : ∃ r, r = doN 6 a b := ⟨_, rfl⟩
  rw [← hr]
  have HC := Lib.hid (fun w => rbits_or ha hb w)
  rw [show a ||| b = r from hr.symm] at HC
  clear hr ha hb
  go_enter Try.func10, Try.ntmps10
  go_wp2_with (first | (with_reducible refine (HK.out _).mono ?_; rintro e w1 ⟨rfl, hc⟩) | (with_reducible refine (HC.out _).mono ?_; rintro e w2 ⟨rfl, rfl⟩) | fail)
  go_ret2
  exact ⟨rfl, hc⟩

theorem rdo_7 {op : Int} {sh : List UInt8} (HK : Hid (∀ w, Calls Try.prog 19 #[.int .i64 op] w fun e w' => e = .returned (.tuple #[.string ⟨#[120, 111, 114]⟩, .string ⟨sh.toArray⟩, .int .i64 1]) ∧ Ch [] w w')) {a b : Nat} (ha : W64 a) (hb : W64 b) (w : World) :
    Calls Try.prog 10 #[.int .i64 op, .int .u64 (a : Int), .int .u64 (b : Int)] w fun e w' => e = .returned (.tuple #[.int .u64 ((doN 7 a b : Nat) : Int), .int .i64 0]) ∧ Ch [] w w' := by
  obtain ⟨r, hr⟩ : ∃ r, r = doN 7 a b := ⟨_, rfl⟩
  rw [← hr]
  have HC := Lib.hid (fun w => rbits_xor ha hb w)
  rw [show a ^^^ b = r from hr.symm] at HC
  clear hr ha hb
  go_enter Try.func10, Try.ntmps10
  go_wp2_with (first | (with_reducible refine (HK.out _).mono ?_; rintro e w1 ⟨rfl, hc⟩) | (with_reducible refine (HC.out _).mono ?_; rintro e w2 ⟨rfl, rfl⟩) | fail)
  go_ret2
  exact ⟨rfl, hc⟩

theorem rdo_8 {op : Int} {sh : List UInt8} (HK : Hid (∀ w, Calls Try.prog 19 #[.int .i64 op] w fun e w' => e = .returned (.tuple #[.string ⟨#[108, 115, 104]⟩, .string ⟨sh.toArray⟩, .int .i64 1]) ∧ Ch [] w w')) {a b : Nat} (ha : W64 a) (_hb : W64 b) (w : World) :
    Calls Try.prog 10 #[.int .i64 op, .int .u64 (a : Int), .int .u64 (b : Int)] w fun e w' => e = .returned (.tuple #[.int .u64 ((doN 8 a b : Nat) : Int), .int .i64 0]) ∧ Ch [] w w' := by
  obtain ⟨s, hs⟩ : ∃ s, s = b % 64 := ⟨_, rfl⟩
  obtain ⟨r, hr⟩ : ∃ r, r = doN 8 a b := ⟨_, rfl⟩
  have h0 : (b : Int).tmod 64 = (s : Int) := by rw [hs]; rfl
  have hsl : s < 64 := by omega
  have hfin : a * 2 ^ s % 18446744073709551616 = r := by rw [hr, hs]; rfl
  rw [← hr]
  have HF := Lib.hid hfin
  have HS := Lib.hid hsl
  have HA := Lib.hid ha
  clear hfin hsl hs hr ha
  go_enter Try.func10, Try.ntmps10
  go_wp2_with (first | (with_reducible refine (HK.out _).mono ?_; rintro e w1 ⟨rfl, hc⟩) | fail)
  have HCC := Lib.hid hc
  clear hc
  go_loopw [1, 13] (fun x i wr => ∃ k y : Nat, k ≤ s ∧ i = .int .u64 (k : Int) ∧ x = .int .u64 (y : Int) ∧ y = a * 2 ^ k % 18446744073709551616 ∧ wr = w1) (fun _ i _ => s - (intOf i).toNat)
  case atStart => exact ⟨0, a, Nat.zero_le _, rfl, rfl, by have := HA.out; unfold W64 at this; simp; omega, rfl⟩
  case round =>
    obtain ⟨k, y, hk, rfl, rfl, hy, rfl⟩ := hrel
    have HY := Lib.hid hy
    by_cases hlt : k < s
    · have hkw : IntKind.u64.wrap ((k : Int) + 1) = ((k + 1 : Nat) : Int) := by rw [IntKind.wrap_u64]; have := HS.out; omega
      obtain ⟨z, hz⟩ : ∃ z, z = y * 2 % 18446744073709551616 := ⟨_, rfl⟩
      have hw : IntKind.u64.wrap ((y : Int) * 2) = (z : Int) := by rw [IntKind.wrap_u64, hz]; omega
      have HZ : Hid (z = a * 2 ^ (k + 1) % 18446744073709551616) := Lib.hid (by rw [hz, HY.out]; exact lsh_step a k)
      clear hz
      clear hy
      go_wp2_with fail
      go_roundw
      case rel => exact ⟨k + 1, z, by omega, rfl, rfl, HZ.out, by trivial⟩
      case measure => simp [intOf]; omega
    · obtain rfl : k = s := by omega
      have hyr : y = r := by rw [hy]; exact HF.out
      clear hy HY
      subst hyr
      go_wp2_with fail
      go_ret2
      exact ⟨rfl, HCC.out⟩

theorem rdo_9 {op : Int} {sh : List UInt8} (HK : Hid (∀ w, Calls Try.prog 19 #[.int .i64 op] w fun e w' => e = .returned (.tuple #[.string ⟨#[114, 115, 104]⟩, .string ⟨sh.toArray⟩, .int .i64 1]) ∧ Ch [] w w')) {a b : Nat} (ha : W64 a) (_hb : W64 b) (w : World) :
    Calls Try.prog 10 #[.int .i64 op, .int .u64 (a : Int), .int .u64 (b : Int)] w fun e w' => e = .returned (.tuple #[.int .u64 ((doN 9 a b : Nat) : Int), .int .i64 0]) ∧ Ch [] w w' := by
  obtain ⟨s, hs⟩ : ∃ s, s = b % 64 := ⟨_, rfl⟩
  obtain ⟨r, hr⟩ : ∃ r, r = doN 9 a b := ⟨_, rfl⟩
  have h0 : (b : Int).tmod 64 = (s : Int) := by rw [hs]; rfl
  have hsl : s < 64 := by omega
  have hfin : a / 2 ^ s = r := by rw [hr, hs]; rfl
  rw [← hr]
  have HF := Lib.hid hfin
  have HS := Lib.hid hsl
  have HA := Lib.hid ha
  clear hfin hsl hs hr ha
  go_enter Try.func10, Try.ntmps10
  go_wp2_with (first | (with_reducible refine (HK.out _).mono ?_; rintro e w1 ⟨rfl, hc⟩) | fail)
  have HCC := Lib.hid hc
  clear hc
  go_loopw [1, 13] (fun x i wr => ∃ k y : Nat, k ≤ s ∧ i = .int .u64 (k : Int) ∧ x = .int .u64 (y : Int) ∧ y = a / 2 ^ k ∧ wr = w1) (fun _ i _ => s - (intOf i).toNat)
  case atStart => exact ⟨0, a, Nat.zero_le _, rfl, rfl, by simp, rfl⟩
  case round =>
    obtain ⟨k, y, hk, rfl, rfl, hy, rfl⟩ := hrel
    have HY := Lib.hid hy
    by_cases hlt : k < s
    · have hkw : IntKind.u64.wrap ((k : Int) + 1) = ((k + 1 : Nat) : Int) := by rw [IntKind.wrap_u64]; have := HS.out; omega
      obtain ⟨z, hz⟩ : ∃ z, z = y / 2 := ⟨_, rfl⟩
      have hyl : y < 18446744073709551616 := by have := HA.out; unfold W64 at this; have h := Nat.div_le_self a (2 ^ k); rw [← HY.out] at h; omega
      have hd : (y : Int) / 2 = (z : Int) := by rw [hz]; omega
      have hw : IntKind.u64.wrap (z : Int) = (z : Int) := by rw [IntKind.wrap_u64]; omega
      have HZ : Hid (z = a / 2 ^ (k + 1)) := Lib.hid (by rw [hz, HY.out]; exact rsh_step a k)
      clear hz hyl
      clear hy
      go_wp2_with fail
      go_roundw
      case rel => exact ⟨k + 1, z, by omega, rfl, rfl, HZ.out, by trivial⟩
      case measure => simp [intOf]; omega
    · obtain rfl : k = s := by omega
      have hyr : y = r := by rw [hy]; exact HF.out
      clear hy HY
      subst hyr
      go_wp2_with fail
      go_ret2
      exact ⟨rfl, HCC.out⟩

theorem rdo_10 {op : Int} {sh : List UInt8} (HK : Hid (∀ w, Calls Try.prog 19 #[.int .i64 op] w fun e w' => e = .returned (.tuple #[.string ⟨#[97, 114, 115, 104]⟩, .string ⟨sh.toArray⟩, .int .i64 1]) ∧ Ch [] w w')) {a b : Nat} (ha : W64 a) (_hb : W64 b) (w : World) :
    Calls Try.prog 10 #[.int .i64 op, .int .u64 (a : Int), .int .u64 (b : Int)] w fun e w' => e = .returned (.tuple #[.int .u64 ((doN 10 a b : Nat) : Int), .int .i64 0]) ∧ Ch [] w w' := by
  by_cases ht : 9223372036854775808 ≤ a
  · obtain ⟨s, hs⟩ : ∃ s, s = b % 64 := ⟨_, rfl⟩
    obtain ⟨r, hr⟩ : ∃ r, r = doN 10 a b := ⟨_, rfl⟩
    have h0 : (b : Int).tmod 64 = (s : Int) := by rw [hs]; rfl
    have hsl : s < 64 := by omega
    have hfin : arN a s = r := by rw [hr, hs]; rfl
    rw [← hr]
    have HF := Lib.hid hfin
    have HS := Lib.hid hsl
    have HA := Lib.hid ha
    have HH := Lib.hid (fun w => high_any a w)
    rw [decide_eq_true ht] at HH
    have HT := Lib.hid ht
    clear ht
    clear hfin hsl hs hr ha
    go_enter Try.func10, Try.ntmps10
    go_wp2_with (first | (with_reducible refine (HK.out _).mono ?_; rintro e w1 ⟨rfl, hc⟩) | (with_reducible refine (HH.out _).mono ?_; rintro e w1 ⟨rfl, rfl⟩) | fail)
    have HCC := Lib.hid hc
    clear hc
    go_loopw [1, 13] (fun x i wr => ∃ k y : Nat, k ≤ s ∧ i = .int .u64 (k : Int) ∧ x = .int .u64 (y : Int) ∧ y = arN a k ∧ wr = w1) (fun _ i _ => s - (intOf i).toNat)
    case atStart => exact ⟨0, a, Nat.zero_le _, rfl, rfl, (arN_zero HA.out).symm, rfl⟩
    case round =>
      obtain ⟨k, y, hk, rfl, rfl, hy, rfl⟩ := hrel
      have HY := Lib.hid hy
      by_cases hlt : k < s
      · have hkw : IntKind.u64.wrap ((k : Int) + 1) = ((k + 1 : Nat) : Int) := by rw [IntKind.wrap_u64]; have := HS.out; omega
        obtain ⟨u, hu⟩ : ∃ u, u = y / 2 := ⟨_, rfl⟩
        obtain ⟨z, hz⟩ : ∃ z, z = u + 9223372036854775808 := ⟨_, rfl⟩
        have hst := arN_step HT.out HA.out k
        rw [← HY.out, ← hu, ← hz] at hst
        have hzl : z < 18446744073709551616 := hst.2
        have hd : (y : Int) / 2 = (u : Int) := by rw [hu]; omega
        have hw : IntKind.u64.wrap (u : Int) = (u : Int) := by rw [IntKind.wrap_u64]; omega
        have hw2 : IntKind.u64.wrap ((u : Int) + 9223372036854775808) = (z : Int) := by rw [IntKind.wrap_u64]; omega
        have HZ := Lib.hid hst.1
        clear hz hu hst hzl
        clear hy
        go_wp2_with fail
        go_roundw
        case rel => exact ⟨k + 1, z, by omega, rfl, rfl, HZ.out, by trivial⟩
        case measure => simp [intOf]; omega
      · obtain rfl : k = s := by omega
        have hyr : y = r := by rw [hy]; exact HF.out
        clear hy HY
        subst hyr
        go_wp2_with fail
        go_ret2
        exact ⟨rfl, HCC.out⟩
  · obtain ⟨s, hs⟩ : ∃ s, s = b % 64 := ⟨_, rfl⟩
    obtain ⟨r, hr⟩ : ∃ r, r = doN 10 a b := ⟨_, rfl⟩
    have h0 : (b : Int).tmod 64 = (s : Int) := by rw [hs]; rfl
    have hsl : s < 64 := by omega
    have hfin : a / 2 ^ s = r := by rw [hr, hs]; exact (arN_lo _ (by omega)).symm
    rw [← hr]
    have HF := Lib.hid hfin
    have HS := Lib.hid hsl
    have HA := Lib.hid ha
    have HH := Lib.hid (fun w => high_any a w)
    rw [decide_eq_false ht] at HH
    clear ht
    clear hfin hsl hs hr ha
    go_enter Try.func10, Try.ntmps10
    go_wp2_with (first | (with_reducible refine (HK.out _).mono ?_; rintro e w1 ⟨rfl, hc⟩) | (with_reducible refine (HH.out _).mono ?_; rintro e w1 ⟨rfl, rfl⟩) | fail)
    have HCC := Lib.hid hc
    clear hc
    go_loopw [1, 13] (fun x i wr => ∃ k y : Nat, k ≤ s ∧ i = .int .u64 (k : Int) ∧ x = .int .u64 (y : Int) ∧ y = a / 2 ^ k ∧ wr = w1) (fun _ i _ => s - (intOf i).toNat)
    case atStart => exact ⟨0, a, Nat.zero_le _, rfl, rfl, by simp, rfl⟩
    case round =>
      obtain ⟨k, y, hk, rfl, rfl, hy, rfl⟩ := hrel
      have HY := Lib.hid hy
      by_cases hlt : k < s
      · have hkw : IntKind.u64.wrap ((k : Int) + 1) = ((k + 1 : Nat) : Int) := by rw [IntKind.wrap_u64]; have := HS.out; omega
        obtain ⟨z, hz⟩ : ∃ z, z = y / 2 := ⟨_, rfl⟩
        have hyl : y < 18446744073709551616 := by have := HA.out; unfold W64 at this; have h := Nat.div_le_self a (2 ^ k); rw [← HY.out] at h; omega
        have hd : (y : Int) / 2 = (z : Int) := by rw [hz]; omega
        have hw : IntKind.u64.wrap (z : Int) = (z : Int) := by rw [IntKind.wrap_u64]; omega
        have HZ : Hid (z = a / 2 ^ (k + 1)) := Lib.hid (by rw [hz, HY.out]; exact rsh_step a k)
        clear hz hyl
        clear hy
        go_wp2_with fail
        go_roundw
        case rel => exact ⟨k + 1, z, by omega, rfl, rfl, HZ.out, by trivial⟩
        case measure => simp [intOf]; omega
      · obtain rfl : k = s := by omega
        have hyr : y = r := by rw [hy]; exact HF.out
        clear hy HY
        subst hyr
        go_wp2_with fail
        go_ret2
        exact ⟨rfl, HCC.out⟩

theorem rdo_11 {op : Int} {sh : List UInt8} (HK : Hid (∀ w, Calls Try.prog 19 #[.int .i64 op] w fun e w' => e = .returned (.tuple #[.string ⟨#[109, 111, 118]⟩, .string ⟨sh.toArray⟩, .int .i64 1]) ∧ Ch [] w w')) {a b : Nat} (_ha : W64 a) (_hb : W64 b) (w : World) :
    Calls Try.prog 10 #[.int .i64 op, .int .u64 (a : Int), .int .u64 (b : Int)] w fun e w' => e = .returned (.tuple #[.int .u64 ((doN 11 a b : Nat) : Int), .int .i64 0]) ∧ Ch [] w w' := by
  go_enter Try.func10, Try.ntmps10
  go_wp2_with (first | (with_reducible refine (HK.out _).mono ?_; rintro e w1 ⟨rfl, hc⟩) | fail)
  go_ret2
  exact ⟨rfl, hc⟩

theorem rdo_12 {op : Int} {sh : List UInt8} (HK : Hid (∀ w, Calls Try.prog 19 #[.int .i64 op] w fun e w' => e = .returned (.tuple #[.string ⟨#[110, 101, 103]⟩, .string ⟨sh.toArray⟩, .int .i64 1]) ∧ Ch [] w w')) {a b : Nat} (ha : W64 a) (_hb : W64 b) (w : World) :
    Calls Try.prog 10 #[.int .i64 op, .int .u64 (a : Int), .int .u64 (b : Int)] w fun e w' => e = .returned (.tuple #[.int .u64 ((doN 12 a b : Nat) : Int), .int .i64 0]) ∧ Ch [] w w' := by
  obtain ⟨r, hr⟩ : ∃ r, r = doN 12 a b := ⟨_, rfl⟩
  rw [← hr]
  have h1 : IntKind.u64.wrap (0 - (a : Int)) = (r : Int) := by rw [IntKind.wrap_u64, hr]; unfold doN; simp only; unfold W64 at ha; omega
  have h2 : IntKind.u64.wrap (-(a : Int)) = (r : Int) := by rw [← h1]; congr 1; omega
  clear hr ha
  go_enter Try.func10, Try.ntmps10
  go_wp2_with (first | (with_reducible refine (HK.out _).mono ?_; rintro e w1 ⟨rfl, hc⟩) | fail)
  go_ret2
  exact ⟨rfl, hc⟩

end Go.Proofs.Ytkjeibdoghcgfaa
