/-
  CopyWhole: a copy in has just the bytes that the memory had at its last try, or zeros.
-/
import Derived.Test.YtcdolkbljheniaaCpH
import Derived.Deep.RegionHeld3
namespace Go.Proofs.Ytcdolkbljheniaa
open Go.RowKit

/-- A page that is waited for is absent, and within. -/
theorem tch_wait (s : Nat → Int) (m : Nat) : ∀ (a : Nat) (p : Int), tch (byPage s) a m = (p, 15) → ∃ g : Nat, p = (g : Int) ∧ s g = 0 ∧ 16 * g < a + m := by
  induction m with
  | zero => intro a p h; rw [tch_zero] at h; cases h
  | succ m ih =>
    intro a p h
    rw [tch] at h
    by_cases h0 : byPage s a = 0
    · rw [if_pos h0] at h
      exact ⟨a / 16, (Prod.mk.inj h).1.symm, h0, by omega⟩
    · rw [if_neg h0] at h
      by_cases h2 : byPage s a = 2
      · rw [if_pos h2] at h; cases h
      · rw [if_neg h2] at h
        obtain ⟨g, e1, e2, e3⟩ := ih (a + 1) p h
        exact ⟨g, e1, e2, by omega⟩

set_option maxRecDepth 100000 in
set_option maxHeartbeats 4000000 in
theorem whole_law {a0 a1 a2 : Int} (a : Option Addr) (len cap : Nat) (wait : Bool) (w : World) (ha : ActsAt w a len) :
    Calls Try.prog 4 #[.int .i64 a0, .int .i64 a1, .int .i64 a2, .slice a len cap, .bool wait] w fun e w' => e = .returned (.bool true) ∧ Below w.heap.size w w' := by
  have u0 : 0 ≤ IntKind.u64.wrap a0 ∧ IntKind.u64.wrap a0 < 18446744073709551616 := by rw [IntKind.wrap_u64]; omega
  have u1 : 0 ≤ IntKind.u64.wrap a1 ∧ IntKind.u64.wrap a1 < 18446744073709551616 := by rw [IntKind.wrap_u64]; omega
  have u2 : 0 ≤ IntKind.u64.wrap a2 ∧ IntKind.u64.wrap a2 < 18446744073709551616 := by rw [IntKind.wrap_u64]; omega
  generalize hg0 : IntKind.u64.wrap a0 = U0 at u0
  generalize hg1 : IntKind.u64.wrap a1 = U1 at u1
  generalize hg2 : IntKind.u64.wrap a2 = U2 at u2
  obtain ⟨u00, u01⟩ := u0
  obtain ⟨n, hn0, h1, h16⟩ : ∃ n : Nat, 1 + U0 % 16 = (n : Int) ∧ 1 ≤ n ∧ n ≤ 16 := ⟨(1 + U0 % 16).toNat, by omega⟩
  obtain ⟨N, hN⟩ : ∃ N, 16 * n = N := ⟨_, rfl⟩
  have hN256 : N ≤ 256 := by omega
  have hw16 : IntKind.i64.wrap (16 * (n : Int)) = (N : Int) := by rw [IntWalk.i64_in _ (by omega)]; omega
  -- how many, and from where on
  obtain ⟨e3, he3⟩ : ∃ D : Nat, D = min 64 N := ⟨_, rfl⟩
  have hmin3 : (if (N : Int) < (64 : Int) then (N : Int) else (64 : Int)) = (e3 : Int) := by split <;> omega
  obtain ⟨D3, hD3⟩ : ∃ D : Nat, D = e3 + 1 := ⟨_, rfl⟩
  have hw3 : IntKind.i64.wrap ((e3 : Int) + 1) = (D3 : Int) := by rw [IntWalk.i64_in _ (by omega)]; omega
  have hv3 : IntKind.u64.wrap (D3 : Int) = (D3 : Int) := by rw [IntKind.wrap_u64]; omega
  have hd3 : ¬ (D3 : Int) = 0 := by omega
  obtain ⟨m, hm⟩ : ∃ m : Nat, U2 % (D3 : Int) = (m : Int) := ⟨(U2 % (D3 : Int)).toNat, by have := Int.emod_nonneg U2 hd3; omega⟩
  have hmN : m ≤ 64 ∧ m ≤ N := by have := Int.emod_lt_of_pos U2 (show (0 : Int) < (D3 : Int) by omega); omega
  have ht3 : Int.tmod U2 (D3 : Int) = (m : Int) := by rw [Int.tmod_eq_emod_of_nonneg u2.1]; exact hm
  obtain ⟨e2, he2⟩ : ∃ D : Nat, D = N - m := ⟨_, rfl⟩
  obtain ⟨D2, hD2⟩ : ∃ D : Nat, D = e2 + 1 := ⟨_, rfl⟩
  have hx2 : IntKind.i64.wrap ((N : Int) - (m : Int)) = (e2 : Int) := by rw [IntWalk.i64_in _ (by omega)]; omega
  have hw2 : IntKind.i64.wrap ((e2 : Int) + 1) = (D2 : Int) := by rw [IntWalk.i64_in _ (by omega)]; omega
  have hv2 : IntKind.u64.wrap (D2 : Int) = (D2 : Int) := by rw [IntKind.wrap_u64]; omega
  have hd2 : ¬ (D2 : Int) = 0 := by omega
  obtain ⟨k, hk⟩ : ∃ k : Nat, U1 % (D2 : Int) = (k : Int) := ⟨(U1 % (D2 : Int)).toNat, by have := Int.emod_nonneg U1 hd2; omega⟩
  have hkm : k + m ≤ N := by have := Int.emod_lt_of_pos U1 (show (0 : Int) < (D2 : Int) by omega); omega
  have ht2 : Int.tmod U1 (D2 : Int) = (k : Int) := by rw [Int.tmod_eq_emod_of_nonneg u1.1]; exact hk
  have HAc := Lib.hid ha
  obtain ⟨b, hb⟩ : ∃ b, w.heap.size = b := ⟨_, rfl⟩
  have HNew := Lib.hid (UL.new w (Ch.refl [] w) h1 h16 hb)
  have HN := Lib.hid hN
  clear hb hN hk hm u1 u2 he2 hD2 he3 hD3 ha
  go_enter Try.func4, Try.ntmps4
  go_wp2_with fail
  clear hn0 hg0 u00 u01
  with_reducible refine HNew.out.mono ?_
  rintro e w1 ⟨rfl, hu1, -, -⟩
  have C := Lib.hid (hu1.inn (a := (k : Int)) (by omega) hmN.1 (m := (m : Int)) rfl)
  clear hu1 HNew
  go_wp2_with fail
  with_reducible refine C.out.mono ?_
  rintro e w2 ⟨c, rfl, hu2, -⟩
  clear C
  obtain ⟨L, hL⟩ : ∃ L, L = w1.heap.size := ⟨_, rfl⟩
  rw [← hL] at hu2
  have C := Lib.hid (UX.answer hu2 HN.out)
  clear hu2 hL
  go_wp2_with fail
  with_reducible refine C.out.mono ?_
  rintro e w3 ⟨g, cp, rfl, hux⟩
  have HU := Lib.hid hux
  clear hux C
  go_wp2_with fail
  go_loopw [15, 16] (fun v i wr => ∃ (j g cp : Nat) (y : MS) (pg : Int), j ≤ 31 ∧ (j = 0 ∨ wait = true) ∧ i = .int .i64 (j : Int) ∧ v = .slice (some ⟨g, 0, none⟩) N cp ∧ UX w wr b g N y L c c ⟨false, (k : Int), m, [], false, pg, j⟩) (fun _ i _ => 31 - (intOf i).toNat)
  case atStart => exact ⟨0, g, cp, _, 0, by decide, .inl rfl, rfl, rfl, HU.out⟩
  case round =>
    obtain ⟨j, g, cp, y, pg, hj, hjw, rfl, rfl, hl⟩ := hrel
    clear HU
    by_cases hgo : j ≤ len ∧ j ≤ 30
    · obtain ⟨hlt, hlt4⟩ := hgo
      have hlt' : (j : Int) ≤ (len : Int) := by omega
      have hHN : 16 * y.n = N := hl.p.hN
      obtain ⟨⟨p, q⟩, hpq⟩ : ∃ r : Int × Int, tch (byPage y.s) k m = r := ⟨_, rfl⟩
      have hT : touchR (16 * y.n) (byPage y.s) (k : Int) (m : Int) = (p, q) := by
        unfold touchR
        rw [if_pos ⟨by omega, by omega, by omega⟩, Int.toNat_natCast, Int.toNat_natCast]
        exact hpq
      have hmet : CZ.met ⟨false, (k : Int), m, [], false, pg, j⟩ y = (p, q) := hT
      have C := Lib.hid (hl.uc.peek hHN (k : Int) (m : Int) (by omega) (e := 0) (piece_if ⟨by omega, by omega, by omega⟩) (l := peekL y.b k m) (by rw [if_pos ⟨by omega, by omega, by omega⟩]; rfl) (k := m) (peekL_len _ _ _))
      have HL := Lib.hid hl
      have HTc := Lib.hid hT
      have HPQ := Lib.hid hpq
      have HMet := Lib.hid hmet
      have HHN := Lib.hid hHN
      have HJW := Lib.hid hjw
      clear hl hT hpq hmet hHN hjw
      go_wp2_with fail
      with_reducible refine C.out.mono ?_
      rintro e w4 ⟨v4, cap4, rfl, hb4, hv4, h4, hc4⟩
      have C := Lib.hid (h4.u.touch (a := (k : Int)) (m := (m : Int)) (by omega) HTc.out)
      have HB4 := Lib.hid hb4
      have HV4 := Lib.hid hv4
      have HX4 := Lib.hid (HL.out.quiet hc4)
      clear hb4 hv4 h4 hc4 HL
      go_wp2_with fail
      with_reducible refine C.out.mono ?_
      rintro e w' ⟨rfl, rfl⟩
      clear C
      have hR := tryR_met _ y wait HMet.out
      have hcode : q = 0 ∨ (q = 15 ∧ wait = true) ∨ (q = 15 ∧ wait = false) ∨ q = 14 := by
        have := tch_code (byPage y.s) m k
        rw [HPQ.out] at this
        rcases this with h | h | h
        · exact .inl h
        · cases wait
          · exact .inr (.inr (.inl ⟨h, rfl⟩))
          · exact .inr (.inl ⟨h, rfl⟩)
        · exact .inr (.inr (.inr h))
      rcases hcode with rfl | ⟨rfl, rfl⟩ | ⟨rfl, rfl⟩ | rfl
      · rw [if_neg (by rintro ⟨h, -⟩; cases h), if_pos rfl] at hR
        have C := Lib.hid (HX4.out.uc.try (E := 0) (z' := CZ.done ⟨false, (k : Int), m, [], false, pg, j⟩ y) (x' := y) rfl (show j < 1000000 by omega) wait (by rw [hR]) (by rw [hR]) (by rw [hR]; rfl))
        clear hR HJW
        go_wp2_with fail
        with_reducible refine C.out.mono ?_
        rintro e w5 ⟨rfl, h5, hc5⟩
        clear C
        have H5 := Lib.hid h5
        have HB5 := Lib.hid (HB4.out.ch hc5 HV4.out)
        clear h5 hc5 HB4 HV4
        go_wp2_with fail
        with_reducible refine (known14 _).mono ?_
        rintro e w6 ⟨rfl, hk6⟩
        have h6 := H5.out.quiet hk6
        have HB6 := Lib.hid (HB5.out.ch hk6 (by simp))
        have C := Lib.hid (h6.over (q := true) rfl)
        have C2 := Lib.hid (h6.bytes (l := peekL y.b k m) (by simp [CZ.done]) (k := m) (peekL_len _ _ _))
        clear hk6 h6 HB5 H5
        go_wp2_with fail
        with_reducible refine C.out.mono ?_
        rintro e w' ⟨rfl, rfl⟩
        clear C
        go_wp2_with fail
        with_reducible refine C2.out.mono ?_
        rintro e w7 ⟨v7, cap7, rfl, hb7, h7, hc7⟩
        have C := Lib.hid (same_any cap7 cap4 (n := m) (peekL_len _ _ _) (by omega) hb7 (HB6.out.ch hc7 (by simp)))
        have HC7 := Lib.hid h7.u.ch
        clear hb7 h7 hc7 HB6 C2
        go_wp2_with fail
        with_reducible refine C.out.mono ?_
        rintro e w8 ⟨rfl, hc8⟩
        have HE := Lib.hid (HC7.out.trans hc8)
        clear hc8 HC7 C
        go_wp2
        go_ret
        exact ⟨rfl, HE.out.below _ (by simp) (Nat.le_refl _)⟩
      · rw [if_pos ⟨rfl, rfl⟩] at hR
        obtain ⟨gp, rfl, hs0, hgp⟩ := tch_wait y.s m k p HPQ.out
        have hx := HX4.out
        have C := Lib.hid (HX4.out.uc.try (E := 15) (z' := ⟨false, (k : Int), m, [], false, (gp : Int), j + 1⟩) (x' := y) rfl (show j < 1000000 by omega) true (by rw [hR]) (by rw [hR]; rfl) (by rw [hR]))
        have HS0 := Lib.hid (show stateV y (gp : Int) = 0 by unfold stateV; rw [if_pos ⟨by omega, by have := HHN.out; omega⟩, Int.toNat_natCast]; exact hs0)
        have HX := Lib.hid hx
        clear hR HJW hx HB4 HV4 hs0 hgp HPQ
        go_wp2_with fail
        with_reducible refine C.out.mono ?_
        rintro e w5 ⟨rfl, h5, hc5⟩
        clear C
        have hx5 : UX w w5 b g N y L c c ⟨false, (k : Int), m, [], false, (gp : Int), j + 1⟩ :=
          ⟨⟨h5.u, HX.out.p.hN, HX.out.p.r.ch hc5 (by have := HX.out.gc; have := HX.out.p.ne; simp; omega), HX.out.p.lo, HX.out.p.ne⟩, h5.c, h5.bL, HX.out.gc⟩
        have H5 := Lib.hid hx5
        have C := Lib.hid (h5.page (p := (gp : Int)) (q := true) (by simp [CZ.pageOf, CZ.waits]) (by simp [CZ.waits]))
        have C2 := Lib.hid (h5.over (q := false) rfl)
        have C3 := Lib.hid (h5.u.state (gp : Int) HS0.out)
        have C4 := Lib.hid (h5.bytes (l := []) rfl (k := 0) rfl)
        clear h5 hc5 hx5 HX HS0
        go_wp2_with fail
        with_reducible refine C.out.mono ?_
        rintro e w' ⟨rfl, rfl⟩
        clear C
        go_wp2_with fail
        with_reducible refine C2.out.mono ?_
        rintro e w' ⟨rfl, rfl⟩
        clear C2
        go_wp2_with fail
        with_reducible refine C3.out.mono ?_
        rintro e w' ⟨rfl, rfl⟩
        clear C3
        go_wp2_with fail
        with_reducible refine C4.out.mono ?_
        rintro e w6 ⟨v6, cap6, rfl, -, -, hc6⟩
        have H6 := Lib.hid (H5.out.quiet hc6)
        clear C4 hc6 H5
        by_cases hjl : j < len
        · rcases HAc.out.ch H6.out.p.l.ch with h0 | ⟨ga, off, rfl, hcc⟩
          · exfalso; omega
          · obtain ⟨K, P, A, M, v5, le, ca, q0, q1, q2, q3, q4, hA, hlc, -, l5, hl1, hl2⟩ := hcc j hjl
            have hjl' : (j : Int) < (len : Int) := by omega
            have C1 := Lib.hid (H6.out.do cp (K := K) (P := P) (M := M) hA hlc hl1 hl2)
            clear hcc hA hlc hl1 hl2
            go_wp2_with fail
            with_reducible refine C1.out.mono ?_
            rintro e w7 ⟨g2, cp2, rfl, y2, h2⟩
            have H2 := Lib.hid h2
            clear h2 C1 q0 q1 q2 q3 q4
            go_wp2_with fail
            go_roundw
            case rel => exact ⟨j + 1, g2, cp2, y2, _, by omega, .inr (by trivial), by go_num, rfl, H2.out⟩
            case measure => simp [intOf]; omega
        · have hjl' : ¬ (j : Int) < (len : Int) := by omega
          go_wp2_with fail
          go_roundw
          case rel => exact ⟨j + 1, g, cp, y, _, by omega, .inr (by trivial), by go_num, rfl, H6.out⟩
          case measure => simp [intOf]; omega
      · rw [if_neg (by rintro ⟨-, h⟩; cases h), if_neg (by decide)] at hR
        have C := Lib.hid (HX4.out.uc.try (E := 14) (z' := CZ.fail ⟨false, (k : Int), m, [], false, pg, j⟩) (x' := y) rfl (show j < 1000000 by omega) false (by rw [hR]) (by rw [hR]) (by rw [hR]))
        clear hR HJW
        go_wp2_with fail
        with_reducible refine C.out.mono ?_
        rintro e w5 ⟨rfl, h5, hc5⟩
        clear C
        have H5 := Lib.hid (h5.quiet (Ch.refl [] w5).drew)
        have hmk := fun W => zmake hmN.1 W
        clear h5 hc5 HB4 HV4
        go_wp2_with fail
        go_region_held3 (fun _ => True) (exact True.intro) (first
          | (go_at_call 13; with_reducible refine (known14 _).mono ?_; rintro e w6 ⟨rfl, hk6⟩; have H6 := Lib.hid (H5.out.quiet hk6); have H6z := Lib.hid (H6.out.quiet ((Ch.refl [] w6).alloc (.cells (madeCells #[.int .u8 0] m) 5))); clear hk6)
          | (go_at_call 17; with_reducible refine (H6.out.over (q := true) rfl).mono ?_; rintro e w' ⟨rfl, rfl⟩)
          | (go_at_call 20; with_reducible refine (H6.out.bytes (l := List.replicate m 0) rfl (k := m) (by simp)).mono ?_; rintro e w7 ⟨v7, cap7, rfl, hb7, h7, hc7⟩; have HS7 := Lib.hid (same_any cap7 m (n := m) (by simp) (by omega) (hb7.ch ((Ch.refl [] w7).alloc (.cells (madeCells #[.int .u8 0] m) 5)) (by simp)) (zeros_at w7 m 5)); have H7 := Lib.hid (h7.u.ch.alloc (.cells (madeCells #[.int .u8 0] m) 5)); clear hb7 h7 hc7)
          | (go_at_call 20; with_reducible refine (H6z.out.bytes (l := List.replicate m 0) rfl (k := m) (by simp)).mono ?_; rintro e w7 ⟨v7, cap7, rfl, hb7, h7, hc7⟩; have HS7 := Lib.hid (same_any cap7 m (n := m) (by simp) (by omega) hb7 ((zeros_at w6 m 5).ch hc7 (by simp))); have H7 := Lib.hid h7.u.ch; clear hb7 h7 hc7)
          | (go_at_call 19; with_reducible refine HS7.out.mono ?_; rintro e w8 ⟨rfl, hc8⟩; have HE := Lib.hid (H7.out.trans hc8); clear hc8)
          | fail)
        all_goals
          go_wp2
          go_ret
          exact ⟨rfl, HE.out.below _ (by simp) (Nat.le_refl _)⟩
      · rw [if_neg (by rintro ⟨h, -⟩; cases h), if_neg (by decide)] at hR
        have C := Lib.hid (HX4.out.uc.try (E := 14) (z' := CZ.fail ⟨false, (k : Int), m, [], false, pg, j⟩) (x' := y) rfl (show j < 1000000 by omega) wait (by rw [hR]) (by rw [hR]) (by rw [hR]))
        clear hR HJW
        go_wp2_with fail
        with_reducible refine C.out.mono ?_
        rintro e w5 ⟨rfl, h5, hc5⟩
        clear C
        have H5 := Lib.hid (h5.quiet (Ch.refl [] w5).drew)
        have hmk := fun W => zmake hmN.1 W
        clear h5 hc5 HB4 HV4
        go_wp2_with fail
        refine wp_region_noPanic ?_
        refine wp_region_held_drew (S := fun _ => True) (by kernel_rfl) True.intro (fun hHeld => ?_)
        refine wpAnyH_ready (rs := [0]) (by kernel_rfl) (by simp) ?_
        refine AllReadyH.cons (o := { dst := some 115, op := _, type := _, pos := _, after := _, guard := _ }) rfl (fun K hK => ?_) AllReadyH.nil
        go_simp
        with_reducible refine (known14 _).mono ?_; rintro e w6 ⟨rfl, hk6⟩; have H6 := Lib.hid (H5.out.quiet hk6); have H6z := Lib.hid (H6.out.quiet ((Ch.refl [] w6).alloc (.cells (madeCells #[.int .u8 0] m) 5))); clear hk6
        (try go_wp2_with fail)
        refine hK.out _ _ True.intro (fun hHeld => ?_)
        clear hK K
        try simp only [Act.put, List.setIfInBounds_toArray, List.set_cons_zero, List.set_cons_succ]
        refine wpAnyH_take (i := 1) (oi := { dst := some 116, op := _, type := _, pos := _, after := _, guard := _ }) (v := ?v1) rfl (by kernel_rfl) (by kernel_rfl) (by kernel_rfl) (fun _ _ _ h => h) (.inl ⟨by rfl, ?h1⟩) (by assumption) ?_
        case h1 => intro w hSw; go_simp; (try with_reducible rfl)
        try simp only [Act.put, List.setIfInBounds_toArray, List.set_cons_zero, List.set_cons_succ]
        refine wpAnyH_take (i := 2) (oi := { dst := some 117, op := _, type := _, pos := _, after := _, guard := _ }) (v := ?v2) rfl (by kernel_rfl) (by kernel_rfl) (by kernel_rfl) (fun _ _ _ h => h) (.inl ⟨by rfl, ?h2⟩) (by assumption) ?_
        case h2 => intro w hSw; go_simp; (try with_reducible rfl)
        try simp only [Act.put, List.setIfInBounds_toArray, List.set_cons_zero, List.set_cons_succ]
        refine wpAnyH_take (i := 3) (oi := { dst := some 118, op := _, type := _, pos := _, after := _, guard := _ }) (v := ?v3) rfl (by kernel_rfl) (by kernel_rfl) (by kernel_rfl) (fun _ _ _ h => h) (.inl ⟨by rfl, ?h3⟩) (by assumption) ?_
        case h3 => intro w hSw; go_simp; (try with_reducible rfl)
        try simp only [Act.put, List.setIfInBounds_toArray, List.set_cons_zero, List.set_cons_succ]
        refine wpAnyH_take (i := 4) (oi := { dst := some 119, op := _, type := _, pos := _, after := _, guard := _ }) (v := ?v4) rfl (by kernel_rfl) (by kernel_rfl) (by kernel_rfl) (fun _ _ _ h => h) (.inl ⟨by rfl, ?h4⟩) (by assumption) ?_
        case h4 => intro w hSw; go_simp; (try with_reducible rfl)
        try simp only [Act.put, List.setIfInBounds_toArray, List.set_cons_zero, List.set_cons_succ]
        refine wpAnyH_take (i := 5) (oi := { dst := some 120, op := _, type := _, pos := _, after := _, guard := _ }) (v := ?v5) rfl (by kernel_rfl) (by kernel_rfl) (by kernel_rfl) (fun _ _ _ h => h) (.inl ⟨by rfl, ?h5⟩) (by assumption) ?_
        case h5 => intro w hSw; go_simp; (try with_reducible rfl)
        try simp only [Act.put, List.setIfInBounds_toArray, List.set_cons_zero, List.set_cons_succ]
        refine wpAnyH_take (i := 6) (oi := { dst := some 121, op := _, type := _, pos := _, after := _, guard := _ }) (v := ?v6) rfl (by kernel_rfl) (by kernel_rfl) (by kernel_rfl) (fun _ _ _ h => h) (.inl ⟨by rfl, ?h6⟩) (by assumption) ?_
        case h6 => intro w hSw; go_simp; (try with_reducible rfl)
        try simp only [Act.put, List.setIfInBounds_toArray, List.set_cons_zero, List.set_cons_succ]
        refine wpAnyH_take (i := 7) (oi := { dst := some 122, op := _, type := _, pos := _, after := _, guard := _ }) (v := ?v7) rfl (by kernel_rfl) (by kernel_rfl) (by kernel_rfl) (fun _ _ _ h => h) (.inl ⟨by rfl, ?h7⟩) (by assumption) ?_
        case h7 => intro w hSw; go_simp; (try with_reducible rfl)
        try simp only [Act.put, List.setIfInBounds_toArray, List.set_cons_zero, List.set_cons_succ]
        refine wpAnyH_take (i := 8) (oi := { dst := some 123, op := _, type := _, pos := _, after := _, guard := _ }) (v := ?v8) rfl (by kernel_rfl) (by kernel_rfl) (by kernel_rfl) (fun _ _ _ h => h) (.inl ⟨by rfl, ?h8⟩) (by assumption) ?_
        case h8 => intro w hSw; go_simp; (try with_reducible rfl)
        try simp only [Act.put, List.setIfInBounds_toArray, List.set_cons_zero, List.set_cons_succ]
        refine wpAnyH_take (i := 9) (oi := { dst := some 124, op := _, type := _, pos := _, after := _, guard := _ }) (v := undef) rfl (by kernel_rfl) (by kernel_rfl) (by kernel_rfl) (fun _ _ _ h => h) (.inr ⟨by rfl, rfl⟩) (by assumption) ?_
        try simp only [Act.put, List.setIfInBounds_toArray, List.set_cons_zero, List.set_cons_succ]
        refine wpAnyH_take (i := 10) (oi := { dst := some 125, op := _, type := _, pos := _, after := _, guard := _ }) (v := undef) rfl (by kernel_rfl) (by kernel_rfl) (by kernel_rfl) (fun _ _ _ h => h) (.inr ⟨by rfl, rfl⟩) (by assumption) ?_
        try simp only [Act.put, List.setIfInBounds_toArray, List.set_cons_zero, List.set_cons_succ]
        refine wpAnyH_take (i := 11) (oi := { dst := some 126, op := _, type := _, pos := _, after := _, guard := _ }) (v := ?v11) rfl (by kernel_rfl) (by kernel_rfl) (by kernel_rfl) (fun _ _ _ h => h) (.inl ⟨by rfl, ?h11⟩) (by assumption) ?_
        case h11 => intro w hSw; go_simp; (try with_reducible rfl)
        try simp only [Act.put, List.setIfInBounds_toArray, List.set_cons_zero, List.set_cons_succ]
        refine wpAnyH_take (i := 12) (oi := { dst := some 127, op := _, type := _, pos := _, after := _, guard := _ }) (v := ?v12) rfl (by kernel_rfl) (by kernel_rfl) (by kernel_rfl) (fun _ _ _ h => h) (.inl ⟨by rfl, ?h12⟩) (by assumption) ?_
        case h12 => intro w hSw; go_simp; (try with_reducible rfl)
        try simp only [Act.put, List.setIfInBounds_toArray, List.set_cons_zero, List.set_cons_succ]
        refine wpAnyH_take (i := 13) (oi := { dst := some 128, op := _, type := _, pos := _, after := _, guard := _ }) (v := ?v13) rfl (by kernel_rfl) (by kernel_rfl) (by kernel_rfl) (fun _ _ _ h => h) (.inl ⟨by rfl, ?h13⟩) (by assumption) ?_
        case h13 => intro w hSw; go_simp; (try with_reducible rfl)
        try simp only [Act.put, List.setIfInBounds_toArray, List.set_cons_zero, List.set_cons_succ]
        refine wpAnyH_take (i := 14) (oi := { dst := some 129, op := _, type := _, pos := _, after := _, guard := _ }) (v := ?v14) rfl (by kernel_rfl) (by kernel_rfl) (by kernel_rfl) (fun _ _ _ h => h) (.inl ⟨by rfl, ?h14⟩) (by assumption) ?_
        case h14 => intro w hSw; go_simp; (try with_reducible rfl)
        try simp only [Act.put, List.setIfInBounds_toArray, List.set_cons_zero, List.set_cons_succ]
        refine wpAnyH_ready (rs := [15]) (by kernel_rfl) (by simp) ?_
        refine AllReadyH.cons (o := { dst := some 130, op := _, type := _, pos := _, after := _, guard := _ }) rfl (fun K hK => ?_) AllReadyH.nil
        go_simp
        with_reducible refine (H6.out.over (q := true) rfl).mono ?_; rintro e w' ⟨rfl, rfl⟩
        (try go_wp2_with fail)
        refine hK.out _ _ True.intro (fun hHeld => ?_)
        clear hK K
        try simp only [Act.put, List.setIfInBounds_toArray, List.set_cons_zero, List.set_cons_succ]
        refine wpAnyH_take (i := 16) (oi := { dst := some 131, op := _, type := _, pos := _, after := _, guard := _ }) (v := ?v16) rfl (by kernel_rfl) (by kernel_rfl) (by kernel_rfl) (fun _ _ _ h => h) (.inl ⟨by rfl, ?h16⟩) (by assumption) ?_
        case h16 => intro w hSw; go_simp; (try with_reducible rfl)
        try simp only [Act.put, List.setIfInBounds_toArray, List.set_cons_zero, List.set_cons_succ]
        refine wpAnyH_take (i := 17) (oi := { dst := some 132, op := _, type := _, pos := _, after := _, guard := _ }) (v := ?v17) rfl (by kernel_rfl) (by kernel_rfl) (by kernel_rfl) (fun _ _ _ h => h) (.inl ⟨by rfl, ?h17⟩) (by assumption) ?_
        case h17 => intro w hSw; go_simp; (try with_reducible rfl)
        try simp only [Act.put, List.setIfInBounds_toArray, List.set_cons_zero, List.set_cons_succ]
        refine wpAnyH_take (i := 18) (oi := { dst := some 133, op := _, type := _, pos := _, after := _, guard := _ }) (v := ?v18) rfl (by kernel_rfl) (by kernel_rfl) (by kernel_rfl) (fun _ _ _ h => h) (.inl ⟨by rfl, ?h18⟩) (by assumption) ?_
        case h18 => intro w hSw; go_simp; (try with_reducible rfl)
        try simp only [Act.put, List.setIfInBounds_toArray, List.set_cons_zero, List.set_cons_succ]
        refine wpAnyH_take (i := 20) (oi := { dst := some 135, op := _, type := _, pos := _, after := _, guard := _ }) (v := ?v20) rfl (by kernel_rfl) (by kernel_rfl) (by kernel_rfl) (fun _ _ _ h => h) (.inl ⟨by rfl, ?h20⟩) (by assumption) ?_
        case h20 => intro w hSw; go_simp; (try with_reducible rfl)
        try simp only [Act.put, List.setIfInBounds_toArray, List.set_cons_zero, List.set_cons_succ]
        refine wpAnyH_ready (rs := [19, 21]) (by kernel_rfl) (by simp) ?_
        refine AllReadyH.cons (o := { dst := some 134, op := _, type := _, pos := _, after := _, guard := _ }) rfl (fun K hK => ?_) (AllReadyH.cons (o := { dst := some 136, op := _, type := _, pos := _, after := _, guard := _ }) rfl (fun K hK => ?_) AllReadyH.nil)
        · go_simp
          with_reducible refine (H6.out.bytes (l := List.replicate m 0) rfl (k := m) (by simp)).mono ?_; rintro e w7 ⟨v7, cap7, rfl, hb7, h7, hc7⟩; have HS7 := Lib.hid (same_any cap7 m (n := m) (by simp) (by omega) (hb7.ch ((Ch.refl [] w7).alloc (.cells (madeCells #[.int .u8 0] m) 5)) (by simp)) (zeros_at w7 m 5)); have H7 := Lib.hid (h7.u.ch.alloc (.cells (madeCells #[.int .u8 0] m) 5)); clear hb7 h7 hc7
          (try go_wp2_with fail)
          refine hK.out _ _ True.intro (fun hHeld => ?_)
          clear hK K
          try simp only [Act.put, List.setIfInBounds_toArray, List.set_cons_zero, List.set_cons_succ]
          refine wpAnyH_ready (rs := [21]) (by kernel_rfl) (by simp) ?_
          refine AllReadyH.cons (o := { dst := some 136, op := _, type := _, pos := _, after := _, guard := _ }) rfl (fun K hK => ?_) AllReadyH.nil
          go_simp
          skip
          (try go_wp2_with fail)
          refine hK.out _ _ True.intro (fun hHeld => ?_)
          clear hK K
          try simp only [Act.put, List.setIfInBounds_toArray, List.set_cons_zero, List.set_cons_succ]
          refine wpAnyH_ready (rs := [22]) (by kernel_rfl) (by simp) ?_
          refine AllReadyH.cons (o := { dst := some 137, op := _, type := _, pos := _, after := _, guard := _ }) rfl (fun K hK => ?_) AllReadyH.nil
          go_simp
          with_reducible refine HS7.out.mono ?_; rintro e w8 ⟨rfl, hc8⟩; have HE := Lib.hid (H7.out.trans hc8); clear hc8
          (try go_wp2_with fail)
          refine hK.out _ _ True.intro (fun hHeld => ?_)
          clear hK K
          try simp only [Act.put, List.setIfInBounds_toArray, List.set_cons_zero, List.set_cons_succ]
          refine wpAnyH_take (i := 23) (oi := { dst := some 138, op := _, type := _, pos := _, after := _, guard := _ }) (v := ?v1_23) rfl (by kernel_rfl) (by kernel_rfl) (by kernel_rfl) (fun _ _ _ h => h) (.inl ⟨by rfl, ?h1_23⟩) (by assumption) ?_
          case h1_23 => intro w hSw; go_simp; (try with_reducible rfl)
          try simp only [Act.put, List.setIfInBounds_toArray, List.set_cons_zero, List.set_cons_succ]
          refine wpAnyH_take (i := 24) (oi := { dst := some 10, op := _, type := _, pos := _, after := _, guard := _ }) (v := ?v1_24) rfl (by kernel_rfl) (by kernel_rfl) (by kernel_rfl) (fun _ _ _ h => h) (.inl ⟨by rfl, ?h1_24⟩) (by assumption) ?_
          case h1_24 => intro w hSw; go_simp; (try with_reducible rfl)
          try simp only [Act.put, List.setIfInBounds_toArray, List.set_cons_zero, List.set_cons_succ]
          refine wpAnyH_done (by kernel_rfl) ?_ _
          refine NoPanic.normal ?_
          go_wp2
          go_ret
          exact ⟨rfl, HE.out.below _ (by simp) (Nat.le_refl _)⟩
        · go_simp
          skip
          (try go_wp2_with fail)
          refine hK.out _ _ True.intro (fun hHeld => ?_)
          clear hK K
          try simp only [Act.put, List.setIfInBounds_toArray, List.set_cons_zero, List.set_cons_succ]
          refine wpAnyH_ready (rs := [19]) (by kernel_rfl) (by simp) ?_
          refine AllReadyH.cons (o := { dst := some 134, op := _, type := _, pos := _, after := _, guard := _ }) rfl (fun K hK => ?_) AllReadyH.nil
          go_simp
          with_reducible refine (H6z.out.bytes (l := List.replicate m 0) rfl (k := m) (by simp)).mono ?_; rintro e w7 ⟨v7, cap7, rfl, hb7, h7, hc7⟩; have HS7 := Lib.hid (same_any cap7 m (n := m) (by simp) (by omega) hb7 ((zeros_at w6 m 5).ch hc7 (by simp))); have H7 := Lib.hid h7.u.ch; clear hb7 h7 hc7
          (try go_wp2_with fail)
          refine hK.out _ _ True.intro (fun hHeld => ?_)
          clear hK K
          try simp only [Act.put, List.setIfInBounds_toArray, List.set_cons_zero, List.set_cons_succ]
          refine wpAnyH_ready (rs := [22]) (by kernel_rfl) (by simp) ?_
          refine AllReadyH.cons (o := { dst := some 137, op := _, type := _, pos := _, after := _, guard := _ }) rfl (fun K hK => ?_) AllReadyH.nil
          go_simp
          with_reducible refine HS7.out.mono ?_; rintro e w8 ⟨rfl, hc8⟩; have HE := Lib.hid (H7.out.trans hc8); clear hc8
          (try go_wp2_with fail)
          refine hK.out _ _ True.intro (fun hHeld => ?_)
          clear hK K
          try simp only [Act.put, List.setIfInBounds_toArray, List.set_cons_zero, List.set_cons_succ]
          refine wpAnyH_take (i := 23) (oi := { dst := some 138, op := _, type := _, pos := _, after := _, guard := _ }) (v := ?v2_23) rfl (by kernel_rfl) (by kernel_rfl) (by kernel_rfl) (fun _ _ _ h => h) (.inl ⟨by rfl, ?h2_23⟩) (by assumption) ?_
          case h2_23 => intro w hSw; go_simp; (try with_reducible rfl)
          try simp only [Act.put, List.setIfInBounds_toArray, List.set_cons_zero, List.set_cons_succ]
          refine wpAnyH_take (i := 24) (oi := { dst := some 10, op := _, type := _, pos := _, after := _, guard := _ }) (v := ?v2_24) rfl (by kernel_rfl) (by kernel_rfl) (by kernel_rfl) (fun _ _ _ h => h) (.inl ⟨by rfl, ?h2_24⟩) (by assumption) ?_
          case h2_24 => intro w hSw; go_simp; (try with_reducible rfl)
          try simp only [Act.put, List.setIfInBounds_toArray, List.set_cons_zero, List.set_cons_succ]
          refine wpAnyH_done (by kernel_rfl) ?_ _
          refine NoPanic.normal ?_
          go_wp2
          go_ret
          exact ⟨rfl, HE.out.below _ (by simp) (Nat.le_refl _)⟩
    · skip
      have hcond : ((j : Int) ≤ (len : Int) ∧ ¬ (j : Int) ≤ 30) ∨ ¬ (j : Int) ≤ (len : Int) := by
        by_cases hkn : (j : Int) ≤ (len : Int)
        · exact .inl ⟨hkn, by omega⟩
        · exact .inr hkn
      have hwt : wait = true := by
        rcases hjw with h | h
        · omega
        · exact h
      subst hwt
      have HC := Lib.hid hl.p.l.ch
      clear hl hgo hj hjw
      rcases hcond with ⟨hc1, hc2⟩ | hc1
      all_goals
        go_wp2_with fail
        with_reducible refine (known14 _).mono ?_
        rintro e w6 ⟨rfl, hk6⟩
        have HZ := Lib.hid (HC.out.trans hk6)
        clear hk6
        go_wp2_with fail
        go_ret
        exact ⟨rfl, HZ.out.below _ (by simp) (Nat.le_refl _)⟩
end Go.Proofs.Ytcdolkbljheniaa
