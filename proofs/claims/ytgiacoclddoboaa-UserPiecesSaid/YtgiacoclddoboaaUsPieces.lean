/-
  UserPieces: what is poked is there, and all else as it was. (Its rounds in six cases.)
-/
import Derived.Test.YtgiacoclddoboaaUsPlays
namespace Go.Proofs.Ytgiacoclddoboaa
open Go.RowKit

/-- A byte of a slice. -/
theorem BytesAt.at {w : World} {a : Option Addr} {l : List Int} (h : BytesAt w a l) {i : Nat} (hi : i < l.length) : ∃ b off, a = some ⟨b, off, none⟩ ∧ w.cell? ⟨b, off + i, none⟩ = some (.int .u8 l[i]) := by
  rcases h with rfl | ⟨b, off, rfl, hk⟩
  · simp at hi
  · exact ⟨b, off, rfl, hk i hi⟩

set_option maxRecDepth 100000 in
set_option maxHeartbeats 4000000 in
theorem pieces_law {a0 a1 : Int} (v1 : Option Addr) (len1 cap1 : Nat) (v2 : Option Addr) (len2 cap2 : Nat) (w : World) (hlc1 : len1 ≤ cap1) (hlc2 : len2 ≤ cap2) (hl1 : ∃ l : List Int, l.length = len1 ∧ BytesAt w v1 l) (hl2 : ∃ l : List Int, l.length = len2 ∧ BytesAt w v2 l) :
    Calls Try.prog 4 #[.int .i64 a0, .int .i64 a1, .slice v1 len1 cap1, .slice v2 len2 cap2] w fun e w' => e = .returned (.bool true) ∧ Below w.heap.size w w' := by
  have u0 : 0 ≤ IntKind.u64.wrap a0 ∧ IntKind.u64.wrap a0 < 18446744073709551616 := by rw [IntKind.wrap_u64]; omega
  have u1 : 0 ≤ IntKind.u64.wrap a1 ∧ IntKind.u64.wrap a1 < 18446744073709551616 := by rw [IntKind.wrap_u64]; omega
  generalize hg0 : IntKind.u64.wrap a0 = U0 at u0
  generalize hg1 : IntKind.u64.wrap a1 = U1 at u1
  obtain ⟨u00, u01⟩ := u0
  obtain ⟨n, hn0, h1, h16⟩ : ∃ n : Nat, 1 + U0 % 16 = (n : Int) ∧ 1 ≤ n ∧ n ≤ 16 := ⟨(1 + U0 % 16).toNat, by omega⟩
  obtain ⟨N, hN⟩ : ∃ N, 16 * n = N := ⟨_, rfl⟩
  have hN256 : N ≤ 256 := by omega
  have hw16 : IntKind.i64.wrap (16 * (n : Int)) = (N : Int) := by rw [IntWalk.i64_in _ (by omega)]; omega
  -- the bytes, as many as there is room for
  obtain ⟨l1, hl1, hb1⟩ := hl1
  obtain ⟨l2, hl2, hb2⟩ := hl2
  obtain ⟨m1, hm1⟩ : ∃ m, m = min len1 N := ⟨_, rfl⟩
  obtain ⟨m2, hm2⟩ : ∃ m, m = min len2 N := ⟨_, rfl⟩
  have hmin1 : (if N < len1 then (N : Int) else (len1 : Int)) = (m1 : Int) := by split <;> omega
  have hmin2 : (if N < len2 then (N : Int) else (len2 : Int)) = (m2 : Int) := by split <;> omega
  have hmc1 : (m1 : Int) ≤ (cap1 : Int) := by omega
  have hmc2 : (m2 : Int) ≤ (cap2 : Int) := by omega
  obtain ⟨L1, hL1⟩ : ∃ L, L = l1.take m1 := ⟨_, rfl⟩
  obtain ⟨L2, hL2⟩ : ∃ L, L = l2.take m2 := ⟨_, rfl⟩
  have HL1 := Lib.hid (show L1.length = m1 ∧ BytesAt w v1 L1 from ⟨by rw [hL1, List.length_take]; omega, by rw [hL1]; exact hb1.take m1⟩)
  have HL2 := Lib.hid (show L2.length = m2 ∧ BytesAt w v2 L2 from ⟨by rw [hL2, List.length_take]; omega, by rw [hL2]; exact hb2.take m2⟩)
  have hm1N : m1 ≤ N := by omega
  have hm2N : m2 ≤ N := by omega
  -- from where on
  obtain ⟨e2, he2⟩ : ∃ D : Nat, D = N - m2 := ⟨_, rfl⟩
  obtain ⟨D2, hD2⟩ : ∃ D : Nat, D = e2 + 1 := ⟨_, rfl⟩
  have hx2 : IntKind.i64.wrap ((N : Int) - (m2 : Int)) = (e2 : Int) := by rw [IntWalk.i64_in _ (by omega)]; omega
  have hw2 : IntKind.i64.wrap ((e2 : Int) + 1) = (D2 : Int) := by rw [IntWalk.i64_in _ (by omega)]; omega
  have hv2 : IntKind.u64.wrap (D2 : Int) = (D2 : Int) := by rw [IntKind.wrap_u64]; omega
  have hd2 : ¬ (D2 : Int) = 0 := by omega
  obtain ⟨k, hk⟩ : ∃ k : Nat, U1 % (D2 : Int) = (k : Int) := ⟨(U1 % (D2 : Int)).toNat, by have := Int.emod_nonneg U1 hd2; omega⟩
  have hkm : k + m2 ≤ N := by have := Int.emod_lt_of_pos U1 (show (0 : Int) < (D2 : Int) by omega); omega
  have ht2 : Int.tmod U1 (D2 : Int) = (k : Int) := by rw [Int.tmod_eq_emod_of_nonneg u1.1]; exact hk
  obtain ⟨b, hb⟩ : ∃ b, w.heap.size = b := ⟨_, rfl⟩
  have HNew := Lib.hid (UL.new w (Ch.refl [] w) h1 h16 hb)
  have HN := Lib.hid hN
  clear hb hN hk u1 he2 hD2 hm1 hm2 hL1 hL2 hl1 hl2 hb1 hb2 hlc1 hlc2
  go_enter Try.func4, Try.ntmps4
  go_wp2_with fail
  clear hn0 hg0 u00 u01
  with_reducible refine HNew.out.mono ?_
  rintro e w1 ⟨rfl, hu1, -, -⟩
  have C1 := Lib.hid (hu1.poke (cap := cap1) (e := 0) HN.out 0 (by decide) HL1.out.1 (by omega) (HL1.out.2.ch hu1.ch (by simp)) (piece_if ⟨by omega, by omega, by omega⟩) rfl)
  obtain ⟨y1, hy1⟩ : ∃ y, y = pokeS (MS.zero n) 0 L1 := ⟨_, rfl⟩
  have hyn1 : y1.n = n := by rw [hy1, pokeS_n]; rfl
  have hyb1 : y1.b = pokeF (fun _ => 0) 0 L1 ∧ y1.s = fun _ => 0 := by
    rw [hy1]
    unfold pokeS
    rw [if_pos ⟨by omega, by omega, by rw [show 16 * (MS.zero n).n = N from HN.out, HL1.out.1]; omega⟩]
    exact ⟨rfl, rfl⟩
  rw [← hy1] at C1
  have HY1 := Lib.hid hyb1
  have HN1 := Lib.hid hyn1
  clear hu1 HNew hy1 hyb1 hyn1
  go_wp2_with fail
  with_reducible refine C1.out.mono ?_
  rintro e w2 ⟨rfl, hu2, -⟩
  have hN2 : 16 * y1.n = N := by rw [HN1.out]; exact HN.out
  have C2 := Lib.hid (hu2.poke (cap := cap2) (e := 0) hN2 (k : Int) (by omega) HL2.out.1 (by omega) (HL2.out.2.ch hu2.ch (by simp)) (piece_if ⟨by omega, by omega, by omega⟩) rfl)
  obtain ⟨y2, hy2⟩ : ∃ y, y = pokeS y1 (k : Int) L2 := ⟨_, rfl⟩
  have hyn2 : 16 * y2.n = N := by rw [hy2, pokeS_n]; exact hN2
  have hyb2 : y2.b = pokeF (pokeF (fun _ => 0) 0 L1) k L2 ∧ y2.s = fun _ => 0 := by
    rw [hy2]
    unfold pokeS
    rw [if_pos ⟨by omega, by omega, by rw [hN2, HL2.out.1]; omega⟩, Int.toNat_natCast, HY1.out.1, HY1.out.2]
    exact ⟨rfl, rfl⟩
  rw [← hy2] at C2
  have HY2 := Lib.hid hyb2
  have HN2 := Lib.hid hyn2
  clear hu2 C1 hy2 hyb2 hyn2 HY1 HN1 hN2
  go_wp2_with fail
  with_reducible refine C2.out.mono ?_
  rintro e w3 ⟨rfl, hu3, -⟩
  obtain ⟨L, hL⟩ : ∃ L, L = if wIn N 0 (N : Int) then peekL y2.b (0 : Int).toNat (N : Int).toNat else [] := ⟨_, rfl⟩
  have hL2 : L = peekL y2.b 0 N := by rw [hL, if_pos ⟨by omega, by omega, by omega⟩]; rfl
  have C3 := Lib.hid (hu3.peek (e := 0) HN2.out 0 (N : Int) (by decide) (piece_if ⟨by omega, by omega, by omega⟩) hL (show L.length = N by rw [hL2, peekL_len]))
  have HLL := Lib.hid hL2
  clear hu3 C2 hL hL2
  go_wp2_with fail
  with_reducible refine C3.out.mono ?_
  rintro e w4 ⟨v3, cp3, rfl, hb4, -, hu4, -⟩
  have HB4 := Lib.hid hb4
  have HU4 := Lib.hid hu4
  clear C3 hb4 hu4
  go_wp2_with fail
  go_loopw [13] (fun i wr => wr = w4 ∧ ∃ j : Nat, i = .int .i64 (j : Int) ∧ j ≤ N) (fun i _ => N - (intOf i).toNat)
  case atStart => exact ⟨rfl, 0, rfl, Nat.zero_le _⟩
  case round =>
    obtain ⟨rfl, j, rfl, hjN⟩ := hrel
    by_cases hlt : j < N
    · have hlt' : (j : Int) < (N : Int) := by omega
      obtain ⟨g3, o3, rfl, c3⟩ := HB4.out.at (i := j) (by rw [HLL.out, peekL_len]; exact hlt)
      have e3 : L[j]'(by rw [HLL.out, peekL_len]; exact hlt) = pokeF (pokeF (fun _ => 0) 0 L1) k L2 j := by
        have := peekL_at y2.b 0 N hlt
        rw [← HLL.out, Nat.zero_add, HY2.out.1] at this
        exact (List.getElem?_eq_some_iff.1 this).2
      rw [e3] at c3
      clear e3
      by_cases hi1 : j < m1
      · have hi1' : (j : Int) < (m1 : Int) := by omega
        obtain ⟨g1, o1, rfl, c1⟩ := (HL1.out.2.ch HU4.out.ch (by simp)).at (i := j) (by rw [HL1.out.1]; exact hi1)
        have ez : pokeF (fun _ => 0) 0 L1 j = L1[j]'(by rw [HL1.out.1]; exact hi1) := by
          have := pokeF_in (fun _ => 0) 0 L1 (j := j) (by rw [HL1.out.1]; exact hi1)
          rwa [Nat.zero_add] at this
        generalize L1[j]'(by rw [HL1.out.1]; exact hi1) = z1 at c1 ez
        by_cases hk1 : j < k
        · have hge : ¬ (k ≤ j) := by omega
          have hge' : decide ((j : Int) ≥ (k : Int)) = false := decide_eq_false (by omega)
          rw [pokeF_out _ _ _ (.inl hk1), ez] at c3
          clear ez hjN
          go_wp2_with fail
          go_roundw
          case rel => exact ⟨by trivial, j + 1, by go_num, by omega⟩
          case measure => simp [intOf]; omega
        · have hge : k ≤ j := by omega
          obtain ⟨d, hd⟩ : ∃ d, j = k + d := ⟨j - k, by omega⟩
          have hsub : IntKind.i64.wrap ((j : Int) - (k : Int)) = (d : Int) := by rw [IntWalk.i64_in _ (by omega)]; omega
          by_cases hd2 : d < m2
          · have hd2' : (d : Int) < (m2 : Int) := by omega
            obtain ⟨g2, o2, rfl, c2⟩ := (HL2.out.2.ch HU4.out.ch (by simp)).at (i := d) (by rw [HL2.out.1]; exact hd2)
            have ez2 : pokeF (pokeF (fun _ => 0) 0 L1) k L2 j = L2[d]'(by rw [HL2.out.1]; exact hd2) := by
              rw [hd]
              exact pokeF_in _ _ _ (by rw [HL2.out.1]; exact hd2)
            generalize L2[d]'(by rw [HL2.out.1]; exact hd2) = z2 at c2 ez2
            rw [ez2] at c3
            have HD := Lib.hid hd
            clear ez ez2 hjN hd
            go_wp2_with fail
            go_roundw
            case rel => exact ⟨by trivial, j + 1, by go_num, by omega⟩
            case measure => simp [intOf]; omega
          · rw [pokeF_out _ _ _ (.inr (by rw [HL2.out.1]; omega)), ez] at c3
            have HD := Lib.hid hd
            clear ez hjN hd
            go_wp2_with fail
            go_roundw
            case rel => exact ⟨by trivial, j + 1, by go_num, by omega⟩
            case measure => simp [intOf]; omega
      · have ez : pokeF (fun _ => 0) 0 L1 j = 0 := pokeF_out _ _ _ (by rw [HL1.out.1]; omega)
        by_cases hk1 : j < k
        · have hge : ¬ (k ≤ j) := by omega
          have hge' : decide ((j : Int) ≥ (k : Int)) = false := decide_eq_false (by omega)
          rw [pokeF_out _ _ _ (.inl hk1), ez] at c3
          clear ez hjN
          go_wp2_with fail
          go_roundw
          case rel => exact ⟨by trivial, j + 1, by go_num, by omega⟩
          case measure => simp [intOf]; omega
        · have hge : k ≤ j := by omega
          obtain ⟨d, hd⟩ : ∃ d, j = k + d := ⟨j - k, by omega⟩
          have hsub : IntKind.i64.wrap ((j : Int) - (k : Int)) = (d : Int) := by rw [IntWalk.i64_in _ (by omega)]; omega
          by_cases hd2 : d < m2
          · have hd2' : (d : Int) < (m2 : Int) := by omega
            obtain ⟨g2, o2, rfl, c2⟩ := (HL2.out.2.ch HU4.out.ch (by simp)).at (i := d) (by rw [HL2.out.1]; exact hd2)
            have ez2 : pokeF (pokeF (fun _ => 0) 0 L1) k L2 j = L2[d]'(by rw [HL2.out.1]; exact hd2) := by
              rw [hd]
              exact pokeF_in _ _ _ (by rw [HL2.out.1]; exact hd2)
            generalize L2[d]'(by rw [HL2.out.1]; exact hd2) = z2 at c2 ez2
            rw [ez2] at c3
            have HD := Lib.hid hd
            clear ez ez2 hjN hd
            go_wp2_with fail
            go_roundw
            case rel => exact ⟨by trivial, j + 1, by go_num, by omega⟩
            case measure => simp [intOf]; omega
          · rw [pokeF_out _ _ _ (.inr (by rw [HL2.out.1]; omega)), ez] at c3
            have HD := Lib.hid hd
            clear ez hjN hd
            go_wp2_with fail
            go_roundw
            case rel => exact ⟨by trivial, j + 1, by go_num, by omega⟩
            case measure => simp [intOf]; omega
    · obtain rfl : j = N := by omega
      have HC := Lib.hid HU4.out.ch
      clear hjN hlt
      go_wp2_with fail
      with_reducible refine (known_any _).mono ?_
      rintro e w6 ⟨rfl, hk6⟩
      have HZ := Lib.hid (HC.out.trans hk6)
      have C6 := Lib.hid ((HU4.out.quiet hk6).state 0 (v := 0) (by unfold stateV; rw [HY2.out.2, if_pos ⟨by omega, by have := HU4.out.u.lo; omega⟩]))
      clear hk6
      go_wp2_with fail
      with_reducible refine C6.out.mono ?_
      rintro e w' ⟨rfl, rfl⟩
      go_wp2_with fail
      go_ret
      exact ⟨rfl, HZ.out.below _ (by simp) (Nat.le_refl _)⟩
end Go.Proofs.Ytgiacoclddoboaa
