/-
  The document's part and Bytes.
-/
import Derived.Test.YtgldkalagmjkfaaDoorIsO
import Derived.Deep.RegionHeld3
namespace Go.Proofs.YtgldkalagmjkfaaDoor
open Go.RowKit

attribute [local go_sem] Oper.semAt_some

/-- The remainder that is not below 0. -/
theorem rem_pos {n m : Int} (hm : m = 65536 ∨ m = 4294967296) (h0 : -2147483648 ≤ n) (h1 : n ≤ 2147483647) : ∃ t, Int.tmod n m = t ∧ IntKind.i64.wrap t = t ∧ IntKind.i64.wrap (t + m) = t + m ∧ Int.tmod (t + m) m = n % m ∧ IntKind.i64.wrap (n % m) = n % m := by
  refine ⟨_, rfl, ?_⟩
  have hmp : 0 < m := by rcases hm with rfl | rfl <;> decide
  have hT : (0 ≤ n → Int.tmod n m = n % m) ∧ (n < 0 → Int.tmod n m = -((-n) % m)) := by
    refine ⟨fun h => Int.tmod_eq_emod_of_nonneg h, fun h => ?_⟩
    have := Int.neg_tmod (-n) m
    rw [Int.neg_neg] at this
    rw [this, Int.tmod_eq_emod_of_nonneg (by omega)]
  have hb : -m < Int.tmod n m ∧ Int.tmod n m < m ∧ (Int.tmod n m + m) % m = n % m := by
    rcases Int.lt_or_le n 0 with h | h
    · rw [hT.2 h]; rcases hm with rfl | rfl <;> omega
    · rw [hT.1 h]; rcases hm with rfl | rfl <;> omega
  obtain ⟨hb1, hb2, hb3⟩ := hb
  generalize Int.tmod n m = t at *
  have hr : 0 ≤ n % m ∧ n % m < m := ⟨Int.emod_nonneg _ (by omega), Int.emod_lt_of_pos _ hmp⟩
  refine ⟨?_, ?_, ?_, ?_⟩
  · rw [IntKind.wrap_i64]; rcases hm with rfl | rfl <;> omega
  · rw [IntKind.wrap_i64]; rcases hm with rfl | rfl <;> omega
  · rw [Int.tmod_eq_emod_of_nonneg (by omega)]; exact hb3
  · rw [IntKind.wrap_i64]; rcases hm with rfl | rfl <;> omega

/-- A number without its lowest bytes. -/
def sh : Nat → Int → Int
  | 0, x => x
  | j + 1, x => sh j x / 256
theorem sh_pos : ∀ (j : Nat) {x : Int}, 0 ≤ x → 0 ≤ sh j x ∧ sh j x ≤ x
  | 0, _, h => ⟨h, Int.le_refl _⟩
  | j + 1, x, h => by
    obtain ⟨h1, h2⟩ := sh_pos j h
    unfold sh
    omega

theorem part_any {n m : Int} {p : Nat} (hp : p ≤ 3) (hm : m = 65536 ∨ m = 4294967296) (h0 : -2147483648 ≤ n) (h1 : n ≤ 2147483647) (w : World) :
    Calls Tryd.prog 32 #[.int .i64 n, .int .i64 m, .int .i64 (p : Int)] w fun e w' => e = .returned (.int .u8 (sh p (n % m) % 256)) ∧ w' = w := by
  obtain ⟨t, e1, e2, e3, e4, e5⟩ := rem_pos hm h0 h1
  have hr : 0 ≤ n % m ∧ n % m ≤ 4294967296 := by rcases hm with rfl | rfl <;> omega
  have hmz : ¬ m = 0 := by rcases hm with rfl | rfl <;> decide
  generalize n % m = r at *
  have HS := Lib.hid (fun j => sh_pos j hr.1)
  have HR := Lib.hid hr
  clear hr hm h0 h1
  go_enter Tryd.func32, Tryd.ntmps32
  go_wp2_with fail
  go_loopw [0, 7] (fun x i wr => ∃ j : Nat, j ≤ p ∧ i = .int .i64 (j : Int) ∧ x = .int .i64 (sh j r) ∧ wr = w) (fun _ i _ => p - (intOf i).toNat)
  case atStart => exact ⟨0, Nat.zero_le _, rfl, rfl, rfl⟩
  case round =>
    obtain ⟨j, hj, rfl, rfl, rfl⟩ := hrel
    have hs := HS.out j
    have hx := HR.out
    obtain ⟨z, hz⟩ : ∃ z, sh j r = z := ⟨_, rfl⟩
    have HZ := Lib.hid hz
    rw [hz] at hs ⊢
    clear hz
    by_cases hlt : j < p
    · have q1 : Int.tdiv z 256 = z / 256 := Int.tdiv_eq_ediv_of_nonneg hs.1
      have q2 : IntKind.i64.wrap (z / 256) = z / 256 := by rw [IntKind.wrap_i64]; omega
      have q3 : IntKind.i64.wrap ((j : Int) + 1) = (j : Int) + 1 := by rw [IntKind.wrap_i64]; omega
      clear hs hx
      go_wp2_with fail
      go_roundw
      case rel => exact ⟨j + 1, by omega, by go_num, by rw [← HZ.out]; rfl, by trivial⟩
      case measure => simp [intOf]; omega
    · obtain rfl : j = p := by omega
      have q1 : Int.tmod z 256 = z % 256 := Int.tmod_eq_emod_of_nonneg hs.1
      have q2 : IntKind.i64.wrap (z % 256) = z % 256 := by rw [IntKind.wrap_i64]; omega
      have q3 : IntKind.u8.wrap (z % 256) = z % 256 := by rw [IntKind.wrap_u8]; omega
      clear hs hx hlt hj
      go_wp2_with fail
      go_ret
      exact ⟨by rw [HZ.out]; rfl, rfl⟩
theorem part_off {n : Int} : sh 0 (n % 65536) % 256 = n % 256 ∧ sh 1 (n % 65536) % 256 = n / 256 % 256 := by
  simp only [sh]; omega
theorem part_imm {n : Int} : sh 0 (n % 4294967296) % 256 = n % 256 ∧ sh 1 (n % 4294967296) % 256 = n / 256 % 256 ∧ sh 2 (n % 4294967296) % 256 = n / 65536 % 256 ∧ sh 3 (n % 4294967296) % 256 = n / 16777216 % 256 := by
  simp only [sh]; omega

/-- The lowest bytes of a number. -/
def ib (i : Int) (j : Nat) : List Int := (List.range j).map fun p => sh p (i % 4294967296) % 256
theorem ib_succ (i : Int) (j : Nat) : ib i (j + 1) = ib i j ++ [sh j (i % 4294967296) % 256] := by simp [ib, List.range_succ]
theorem ib_len (i : Int) (j : Nat) : (ib i j).length = j := by simp [ib]
theorem cells_one (w : World) (x : Value) (t : TypeId) : ∀ j u, [x][j]? = some u → (w.alloc (.cells #[x] t)).cell? ((⟨w.heap.size, 0, none⟩ : Addr).add j) = some u := (One.new w x t).news

set_option maxHeartbeats 2000000 in
theorem rbytes_any {x : I5} (hx : chk x = 0) (w : World) : Calls Tryd.prog 17 #[iv x] w fun e w' => ∃ v, e = .returned v ∧ NB w' w.heap.size v (enc x) ∧ Ch [] w w' := by
  have hb := ckBounds hx
  obtain ⟨op, d, s, o, i⟩ := x
  simp only at hb
  have q0 : IntKind.u8.wrap op = op % 256 := by rw [IntKind.wrap_u8]
  have q1 : IntKind.i64.wrap (16 * d) = 16 * d := by rw [IntKind.wrap_i64]; omega
  have q2 : IntKind.i64.wrap (16 * d + s) = 16 * d + s := by rw [IntKind.wrap_i64]; omega
  have q3 : IntKind.u8.wrap (16 * d + s) = (16 * d + s) % 256 := by rw [IntKind.wrap_u8]
  obtain ⟨o1, o2⟩ := part_off (n := o)
  obtain ⟨i1, i2, i3, i4⟩ := part_imm (n := i)
  have HP0 := Lib.hid (show ∀ w, Calls Tryd.prog 32 #[.int .i64 o, .int .i64 65536, .int .i64 0] w fun e w' => e = .returned (.int .u8 (sh 0 (o % 65536) % 256)) ∧ w' = w from fun w => part_any (p := 0) (by decide) (.inl rfl) (n := o) (by omega) (by omega) w)
  have HP1 := Lib.hid (show ∀ w, Calls Tryd.prog 32 #[.int .i64 o, .int .i64 65536, .int .i64 1] w fun e w' => e = .returned (.int .u8 (sh 1 (o % 65536) % 256)) ∧ w' = w from fun w => part_any (p := 1) (by decide) (.inl rfl) (n := o) (by omega) (by omega) w)
  have HPi := Lib.hid (fun (p : Nat) (hp : p ≤ 3) w => part_any hp (.inr rfl) (n := i) (by omega) (by omega) w)
  rw [o1] at HP0
  rw [o2] at HP1
  obtain ⟨e0, g0⟩ : ∃ z, op % 256 = z := ⟨_, rfl⟩
  obtain ⟨e1, g1⟩ : ∃ z, (16 * d + s) % 256 = z := ⟨_, rfl⟩
  obtain ⟨e2, g2⟩ : ∃ z, o % 256 = z := ⟨_, rfl⟩
  obtain ⟨e3, g3⟩ : ∃ z, (o / 256) % 256 = z := ⟨_, rfl⟩
  have HEn := Lib.hid (show enc ⟨op, d, s, o, i⟩ = [e0, e1, e2, e3] ++ [sh 0 (i % 4294967296) % 256, sh 1 (i % 4294967296) % 256, sh 2 (i % 4294967296) % 256, sh 3 (i % 4294967296) % 256] by unfold enc; simp only [g0, g1, g2, g3, i1, i2, i3, i4]; rfl)
  rw [g0] at q0
  rw [g1] at q3
  rw [g2] at HP0
  rw [g3] at HP1
  have HF := Lib.hid (Five.new w ⟨op, d, s, o, i⟩ 29)
  have HC := Lib.hid ((Ch.refl [] w).alloc (.cells #[.int .i64 op, .int .i64 d, .int .i64 s, .int .i64 o, .int .i64 i] 29))
  obtain ⟨a0, a1, a2, a3, a4⟩ := HF.out
  unfold iv
  simp only at a0 a1 a2 a3 a4 ⊢
  clear g0 g1 g2 g3 o1 o2 i1 i2 i3 i4 hb hx
  obtain ⟨i0, hI, hz0, hz1, hz2⟩ : ∃ i : TypeInfo, Tryd.prog.info? 5 = some i ∧ i.zero = some (.int .u8 0) ∧ i.size = 1 ∧ i.bytes = 1 := by
    refine ⟨_, rfl, by kernel_rfl, by kernel_rfl, by kernel_rfl⟩
  go_enter Tryd.func17, Tryd.ntmps17
  go_wp2_with fail
  have kk := fun (C : Array Value) => (HF.out.ch ((Ch.refl [] _).alloc (.cells C 5)) (by simp))
  have k0 := (kk #[.int .u8 e0, .int .u8 e1, .int .u8 e2, .int .u8 e3]).c0
  have k1 := (kk #[.int .u8 e0, .int .u8 e1, .int .u8 e2, .int .u8 e3]).c1
  have k2 := (kk #[.int .u8 e0, .int .u8 e1, .int .u8 e2, .int .u8 e3]).c2
  have k3 := (kk #[.int .u8 e0, .int .u8 e1, .int .u8 e2, .int .u8 e3]).c3
  simp only at k0 k1 k2 k3
  clear kk
  go_region_held3 (fun w' => w'.cell? ⟨w.heap.size, 0, none⟩ = some (.int .i64 op) ∧ w'.cell? ⟨w.heap.size, 1, none⟩ = some (.int .i64 d) ∧ w'.cell? ⟨w.heap.size, 2, none⟩ = some (.int .i64 s) ∧ w'.cell? ⟨w.heap.size, 3, none⟩ = some (.int .i64 o)) (go_keep) (first
    | (with_reducible refine (HP0.out _).mono ?_; rintro e w' ⟨rfl, rfl⟩)
    | (with_reducible refine (HP1.out _).mono ?_; rintro e w' ⟨rfl, rfl⟩)
    | fail)
  have HW1 := Lib.hid (show (w.alloc (.cells #[.int .i64 op, .int .i64 d, .int .i64 s, .int .i64 o, .int .i64 i] 29)).heap.size = w.heap.size + 1 by simp)
  obtain ⟨W1, hW1⟩ : ∃ W, w.alloc (.cells #[.int .i64 op, .int .i64 d, .int .i64 s, .int .i64 o, .int .i64 i] 29) = W := ⟨_, rfl⟩
  rw [hW1] at HW1 HF HC ⊢
  rw [← HW1.out]
  have HO := Lib.hid (show NB (W1.alloc (.cells #[.int .u8 e0, .int .u8 e1, .int .u8 e2, .int .u8 e3] 5)).drew W1.heap.size (.slice (some ⟨W1.heap.size, 0, none⟩) 4 4) ([e0, e1, e2, e3] ++ ib i 0) from
    own_ch (World.ownsRow_lit (e := 5) (size := 1) W1 #[.int .u8 e0, .int .u8 e1, .int .u8 e2, .int .u8 e3] 4 (Nat.le_refl _) (by decide) rfl) ((Ch.refl [] _).drew) (by simp))
  have HX := Lib.hid (((Ch.refl [] W1).alloc (.cells #[.int .u8 e0, .int .u8 e1, .int .u8 e2, .int .u8 e3] 5)).drew)
  clear hW1 k0 k1 k2 k3 a0 a1 a2 a3 a4 q0 q1 q2 q3 HP0 HP1
  generalize (W1.alloc (.cells #[.int .u8 e0, .int .u8 e1, .int .u8 e2, .int .u8 e3] 5)).drew = W2 at *
  go_wp2_with fail
  go_loopw [3, 4] (fun v x wr => ∃ j : Nat, j ≤ 4 ∧ x = .int .i64 (j : Int) ∧ Ch [] W1 wr ∧ NB wr W1.heap.size v ([e0, e1, e2, e3] ++ ib i j)) (fun _ x _ => 4 - (intOf x).toNat)
  case atStart => exact ⟨0, by decide, rfl, HX.out, HO.out⟩
  case round =>
    obtain ⟨j, hj, rfl, hch, hnb⟩ := hrel
    have HCr := Lib.hid hch
    have HN := Lib.hid hnb
    obtain ⟨av, ac, rfl, -, -⟩ := hnb.form
    obtain ⟨b0, b1, b2, b3, b4⟩ := HF.out.ch hch (by simp)
    simp only at b0 b1 b2 b3 b4
    have hlen : ([e0, e1, e2, e3] ++ ib i j).length = 4 + j := by simp [ib_len]; omega
    rw [hlen] at HN ⊢
    have HLn := Lib.hid hlen
    clear hch hnb hlen
    by_cases hlt : j < 4
    · have HS := Lib.hid (ib_succ i j)
      have HP := Lib.hid (fun w => HPi.out j (by omega) w)
      generalize sh j (i % 4294967296) % 256 = z at *
      go_wp2_with fail
      with_reducible refine (HP.out _).mono ?_
      rintro e w3 ⟨rfl, rfl⟩
      go_wp2_with (at_builtin; go_must (refine wpList_append_own _ rfl _ _ 40 rfl W1.heap.size 5 i0 (.int .u8 0) 1 1 Tryd.underlying40 hI hz0 hz1 hz2 rfl (by decide) _ (4 + j) (u8s ([e0, e1, e2, e3] ++ ib i j)) rfl (by have := HN.out; unfold NB at this; rw [HLn.out] at this; exact this.alloc _) ⟨w3.heap.size, 0, none⟩ 1 1 [.int .u8 z] rfl rfl (cells_one w3 _ _) (by simp [Value.oneCell']) (by unfold maxLen; omega) (by omega) (by have := HCr.out.size; simp; omega) ?_); intro v4 w4 hown hgrow hnil; refine Hid.out ?_)
      refine Lib.hid ?_
      have HC4 := Lib.hid (own_new (HCr.out.alloc _) hgrow (Nat.le_refl _) (by have := HN.out; unfold NB at this; rw [HLn.out] at this; exact this.alloc _))
      have HN4 := Lib.hid (show NB w4 W1.heap.size v4 ([e0, e1, e2, e3] ++ ib i (j + 1)) by
        rw [HS.out, ← List.append_assoc]
        exact NB.more (n := 4 + j + 1) (by rw [HLn.out]; rfl) hown)
      clear hown hgrow hnil
      go_wp2_with fail
      go_roundw
      case rel => exact ⟨j + 1, by omega, by go_num, HC4.out, HN4.out⟩
      case measure => simp [intOf]; omega
    · obtain rfl : j = 4 := by omega
      have HE4 := Lib.hid (show enc ⟨op, d, s, o, i⟩ = [e0, e1, e2, e3] ++ ib i 4 by rw [HEn.out]; rfl)
      clear hlt hj
      go_wp2
      go_ret
      refine ⟨_, rfl, ?_, HC.out.trans HCr.out⟩
      rw [HE4.out]
      have h := HN.out
      have : 4 + 4 = ([e0, e1, e2, e3] ++ ib i 4).length := by simp [ib_len]
      unfold NB at *
      exact own_mono (by simpa [ib_len] using h) (by have := HW1.out; omega)
end Go.Proofs.YtgldkalagmjkfaaDoor
