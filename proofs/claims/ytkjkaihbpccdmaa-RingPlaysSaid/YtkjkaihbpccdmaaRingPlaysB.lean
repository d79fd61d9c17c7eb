/-
  The law RingPlays, walked: the walk itself.
-/
import Derived.Test.YtkjkaihbpccdmaaRingPlays
namespace Go.Proofs.Ytkjkaihbpccdmaa
open Go.RowKit rI

attribute [local go_sem] Oper.semAt_some

theorem rI.IAt.take {w : World} {a : Option Addr} {zs : List Int} {n : Nat} (h : IAt w a zs) : IAt w a (zs.take n) := by
  rcases h with rfl | ⟨b, off, rfl, h⟩
  · exact .inl (by simp)
  · refine .inr ⟨b, off, rfl, fun i hi => ?_⟩
    rw [List.length_take] at hi
    rw [h i (by omega)]
    simp
theorem iat_below {w W : World} {S : Nat} {a : Option Addr} {zs : List Int} (h : IAt w a zs) (hB : Below S w W) (hS : S = w.heap.size) : IAt W a zs :=
  h.ch (S := []) (Ch.of_below (hS ▸ hB)) (by simp)
theorem iat_far {w : World} {S R : Nat} {a : Option Addr} {zs : List Int} (h : IAt w a zs) (hS : S = w.heap.size) (hR : S < R) : zs ≠ [] → ∀ x, a = some x → x.block ∉ [R, S] := by
  intro hne x hx
  rcases h with h | ⟨b, off, rfl, h⟩
  · exact absurd h hne
  · cases hx
    have h0 := cell_lt (h 0 (List.length_pos_iff.2 hne))
    simp at h0 ⊢
    omega

set_option maxRecDepth 100000 in
set_option maxHeartbeats 1000000 in
theorem plays_bad (room : Int) (v : Value) (w : World) (h : room < 1 ∨ 256 < room) :
    Calls Try.prog 3 #[.int .i64 room, v] w fun e w' => e = .returned (.bool true) ∧ Below w.heap.size w w' := by
  have HN := Lib.hid (new_bad room w h)
  have HK := Lib.hid (known_any w)
  by_cases h0 : room < 1
  · have hd1 : decide (room < 1) = true := by simpa using h0
    clear h
    go_enter Try.func3, Try.ntmps3
    go_wp2_with (first | (go_at_call 7; refine HN.out.mono ?_; rintro e w' ⟨rfl, rfl⟩) | (go_at_call 8; refine HK.out.mono ?_; rintro e w' ⟨rfl, hb⟩))
    go_ret
    exact ⟨rfl, hb⟩
  · have h1 : 256 < room := by omega
    have hd1 : decide (room < 1) = false := by simpa using h0
    have hd2 : decide (256 < room) = true := by simpa using h1
    clear h
    go_enter Try.func3, Try.ntmps3
    go_wp2_with (first | (go_at_call 7; refine HN.out.mono ?_; rintro e w' ⟨rfl, rfl⟩) | (go_at_call 8; refine HK.out.mono ?_; rintro e w' ⟨rfl, hb⟩))
    go_ret
    exact ⟨rfl, hb⟩

set_option maxRecDepth 100000 in
set_option maxHeartbeats 4000000 in
theorem plays_law (a0 : Int) (a : Option Addr) (len cap : Nat) (w : World) (_ : len ≤ 9223372036854775807) (ha : ActsAt w a len) :
    Calls Try.prog 3 #[.int .i64 a0, .slice a len cap] w fun e w' => e = .returned (.bool true) ∧ Below w.heap.size w w' := by
  by_cases hr : a0 < 1 ∨ 256 < a0
  · exact plays_bad a0 _ w hr
  obtain ⟨room, rfl⟩ : ∃ room : Nat, a0 = (room : Int) := ⟨a0.toNat, by omega⟩
  have hr1 : 1 ≤ room := by omega
  have hr2 : room ≤ 256 := by omega
  have hd1 : decide ((room : Int) < 1) = false := by simp; omega
  have hd2 : decide ((256 : Int) < (room : Int)) = false := by simp; omega
  clear hr
  obtain ⟨S, hS⟩ : ∃ S, S = w.heap.size := ⟨_, rfl⟩
  have HNew := Lib.hid (new_l room w hr1 hr2)
  rw [← hS] at HNew ⊢
  have HS := Lib.hid hS
  have HA := Lib.hid ha
  clear hS ha
  go_enter Try.func3, Try.ntmps3
  go_wp2_with fail
  refine HNew.out.mono ?_
  rintro e w1 ⟨R, rfl, hl1, hb1, hR1, hR2⟩
  have HL1 := Lib.hid hl1
  have HB1 := Lib.hid hb1
  have HSz := Lib.hid (show R + 1 ≤ w1.heap.size by omega)
  have HSR := Lib.hid (show (∀ k ∈ [R, S], S ≤ k) ∧ (∀ k ∈ [R, S], k < R + 1) ∧ S < R by simp; omega)
  clear hl1 hb1 hR1 hR2
  go_wp2_with fail
  go_loopw [7, 8] (fun m x wr => ∃ (k : Nat) (xs : List Int), k ≤ len ∧ x = .int .i64 (k : Int) ∧ wr.ownsRow (R + 1) 3 1 m xs.length (ivs xs) ∧ RL wr R S room xs ∧ Below S w wr ∧ R + 1 ≤ wr.heap.size) (fun _ x _ => len - (intOf x).toNat)
  case atStart => exact ⟨0, [], Nat.zero_le _, rfl, World.ownsRow_nil _ _ _ _, HL1.out, HB1.out, HSz.out⟩
  case round =>
    obtain ⟨k, xs, hk, rfl, hm, hl, hb, hsz⟩ := hrel
    have HM := Lib.hid hm
    have HL := Lib.hid hl
    have HB := Lib.hid hb
    have HZ := Lib.hid hsz
    have HX := Lib.hid (show xs.length ≤ room from hl.le.1)
    clear hm hl hb hsz
    by_cases hlt : k < len ∧ k < 60
    · obtain ⟨hlt, h60⟩ := hlt
      rcases HA.out with h0 | ⟨b, off, rfl, hacts⟩
      · exfalso; omega
      obtain ⟨K, I, aL, cL, zs, hc0, hc1, hc2, hzl, hzc, hz⟩ := hacts k hlt
      have hbs : b < S := by rw [HS.out]; exact cell_lt hc0
      have hc0 := (HB.out.cell (p := ⟨b, off + k * 3, none⟩) hbs).trans hc0
      have hc1 := (HB.out.cell (p := ⟨b, off + k * 3 + 1, none⟩) hbs).trans hc1
      have hc2 := (HB.out.cell (p := ⟨b, off + k * 3 + 2, none⟩) hbs).trans hc2
      have HZs := Lib.hid hz
      have ht1 : decide ((k : Int) < 60) = true := by simp; omega
      have ht2 : (k : Int) < (len : Int) := by omega
      clear hz hacts
      obtain ⟨nL, hnL⟩ : ∃ nL, nL = zs.length := ⟨_, rfl⟩
      rw [← hnL] at hc2 hzl
      have HnL := Lib.hid hnL
      clear hnL
      have hU : 0 ≤ IntKind.u64.wrap K ∧ IntKind.u64.wrap K < 18446744073709551616 := by rw [IntKind.wrap_u64]; omega
      generalize hgU : IntKind.u64.wrap K = U at hU
      obtain ⟨hU0, hU1⟩ := hU
      have HB1' := Lib.hid (HB.out.alloc (by have := HZ.out; have := HSR.out.2.2; omega) (.cells #[.int .i64 K, .int .i64 I, .slice aL nL cL] 30))
      have HL1' := Lib.hid (HL.out.ch (S := []) ((Ch.refl _ _).alloc (.cells #[.int .i64 K, .int .i64 I, .slice aL nL cL] 30)) (by simp) (by simp))
      have HM1' := Lib.hid (HM.out.alloc (.cells #[.int .i64 K, .int .i64 I, .slice aL nL cL] 30))
      have HZ1' := Lib.hid (show R + 1 ≤ (wr.alloc (.cells #[.int .i64 K, .int .i64 I, .slice aL nL cL] 30)).heap.size by have := HZ.out; simp; omega)
      have hq : (U % 4 = 0 ∧ nL ≤ 40) ∨ (U % 4 = 0 ∧ 40 < nL) ∨ U % 4 = 1 ∨ U % 4 = 2 ∨ U % 4 = 3 := by omega
      rcases hq with ⟨hq, h40⟩ | ⟨hq, h40⟩ | hq | hq | hq
      · skip
        have hzN : IAt w aL (zs.take nL) := HZs.out.take
        have hzl' : (zs.take nL).length = nL := by rw [List.length_take, ← HnL.out]; omega
        have HZN := Lib.hid hzN
        have HLN := Lib.hid hzl'
        clear hzN hzl'
        go_wp2_with fail
        have hp1 := rpush_any HM1'.out room HX.out hr2 aL cL (zs.take nL) (iat_below HZN.out HB1'.out HS.out) (by rw [HLN.out]; omega)
        rw [HLN.out] at hp1
        refine hp1.mono ?_
        rintro e w2 ⟨m2, rfl, hm2, hb2⟩
        have HL2 := Lib.hid (HL1'.out.ch (S := []) (Ch.of_below hb2) (by simp) (by simp))
        have HM2 := Lib.hid (own_mono hm2 HZ1'.out)
        have HB2 := Lib.hid (HB1'.out.trans (hb2.mono (by have := HZ1'.out; have := HSR.out.2.2; omega)))
        have HZ2 := Lib.hid (Nat.le_trans HZ1'.out hb2.size)
        clear hm2 hb2 hp1
        go_wp2_with fail
        have hp2 := push_l HL2.out aL cL (zs.take nL) (iat_below HZN.out HB2.out HS.out) (by rw [HLN.out]; omega) hzc (iat_far HZN.out HS.out HSR.out.2.2)
        rw [HLN.out] at hp2
        refine hp2.mono ?_
        rintro e w3 ⟨rfl, hl3, hc3⟩
        have HLx := Lib.hid hl3
        have HMx := Lib.hid (own_ch HM2.out hc3 HSR.out.2.1)
        have HBx := Lib.hid (HB2.out.trans (hc3.below S HSR.out.1 (by have := HZ2.out; have := HSR.out.2.2; omega)))
        have HZx := Lib.hid (Nat.le_trans HZ2.out hc3.size)
        have HXx := Lib.hid hl3.le.1
        clear hl3 hc3 hp2
        generalize xs ++ (zs.take nL).take (room - xs.length) = ys at HLx HMx HXx
        obtain ⟨am, cm, hmv⟩ := own_form HMx.out
        subst hmv
        go_wp2_with fail
        with_reducible refine (len_l HLx.out).mono ?_
        rintro e w4 ⟨rfl, rfl⟩
        go_wp2_with fail
        with_reducible refine (room_l HLx.out).mono ?_
        rintro e w4 ⟨rfl, rfl⟩
        go_wp2_with fail
        with_reducible refine (list_l HLx.out).mono ?_
        rintro e w5 ⟨v5, rfl, ho5, hb5⟩
        have HM5 := Lib.hid (own_ch (S := []) HMx.out (Ch.of_below hb5) (by simp))
        have HL5 := Lib.hid (HLx.out.ch (S := []) (Ch.of_below hb5) (by simp) (by simp))
        have HB5 := Lib.hid (HBx.out.trans (hb5.mono (by have := HZx.out; have := HSR.out.2.2; omega)))
        have HZ5 := Lib.hid (Nat.le_trans HZx.out hb5.size)
        clear hb5
        obtain ⟨a5, c5, rfl⟩ := own_form ho5
        have HO5 := Lib.hid ho5
        clear ho5
        go_wp2_with fail
        with_reducible refine (same_eq a5 am c5 cm ys w5 (by have := HXx.out; omega) (own_IAt HO5.out) (own_IAt HM5.out)).mono ?_
        rintro e w6 ⟨rfl, m6, rfl⟩
        go_wp2
        go_roundw
        case rel => exact ⟨k + 1, ys, by omega, by go_num, own_ch (S := []) HM5.out ((Ch.refl _ _).drewN m6) (by simp), HL5.out.ch (S := []) ((Ch.refl _ _).drewN m6) (by simp) (by simp), below_drewN HB5.out m6, HZ5.out⟩
        case measure => simp [intOf]; omega
      · skip
        have hzN : IAt w aL (zs.take 40) := HZs.out.take
        have hzl' : (zs.take 40).length = 40 := by rw [List.length_take, ← HnL.out]; omega
        have HZN := Lib.hid hzN
        have HLN := Lib.hid hzl'
        clear hzN hzl'
        go_wp2_with fail
        have hp1 := rpush_any HM1'.out room HX.out hr2 aL cL (zs.take 40) (iat_below HZN.out HB1'.out HS.out) (by rw [HLN.out]; omega)
        rw [HLN.out] at hp1
        refine hp1.mono ?_
        rintro e w2 ⟨m2, rfl, hm2, hb2⟩
        have HL2 := Lib.hid (HL1'.out.ch (S := []) (Ch.of_below hb2) (by simp) (by simp))
        have HM2 := Lib.hid (own_mono hm2 HZ1'.out)
        have HB2 := Lib.hid (HB1'.out.trans (hb2.mono (by have := HZ1'.out; have := HSR.out.2.2; omega)))
        have HZ2 := Lib.hid (Nat.le_trans HZ1'.out hb2.size)
        clear hm2 hb2 hp1
        go_wp2_with fail
        have hp2 := push_l HL2.out aL cL (zs.take 40) (iat_below HZN.out HB2.out HS.out) (by rw [HLN.out]; omega) hzc (iat_far HZN.out HS.out HSR.out.2.2)
        rw [HLN.out] at hp2
        refine hp2.mono ?_
        rintro e w3 ⟨rfl, hl3, hc3⟩
        have HLx := Lib.hid hl3
        have HMx := Lib.hid (own_ch HM2.out hc3 HSR.out.2.1)
        have HBx := Lib.hid (HB2.out.trans (hc3.below S HSR.out.1 (by have := HZ2.out; have := HSR.out.2.2; omega)))
        have HZx := Lib.hid (Nat.le_trans HZ2.out hc3.size)
        have HXx := Lib.hid hl3.le.1
        clear hl3 hc3 hp2
        generalize xs ++ (zs.take 40).take (room - xs.length) = ys at HLx HMx HXx
        obtain ⟨am, cm, hmv⟩ := own_form HMx.out
        subst hmv
        go_wp2_with fail
        with_reducible refine (len_l HLx.out).mono ?_
        rintro e w4 ⟨rfl, rfl⟩
        go_wp2_with fail
        with_reducible refine (room_l HLx.out).mono ?_
        rintro e w4 ⟨rfl, rfl⟩
        go_wp2_with fail
        with_reducible refine (list_l HLx.out).mono ?_
        rintro e w5 ⟨v5, rfl, ho5, hb5⟩
        have HM5 := Lib.hid (own_ch (S := []) HMx.out (Ch.of_below hb5) (by simp))
        have HL5 := Lib.hid (HLx.out.ch (S := []) (Ch.of_below hb5) (by simp) (by simp))
        have HB5 := Lib.hid (HBx.out.trans (hb5.mono (by have := HZx.out; have := HSR.out.2.2; omega)))
        have HZ5 := Lib.hid (Nat.le_trans HZx.out hb5.size)
        clear hb5
        obtain ⟨a5, c5, rfl⟩ := own_form ho5
        have HO5 := Lib.hid ho5
        clear ho5
        go_wp2_with fail
        with_reducible refine (same_eq a5 am c5 cm ys w5 (by have := HXx.out; omega) (own_IAt HO5.out) (own_IAt HM5.out)).mono ?_
        rintro e w6 ⟨rfl, m6, rfl⟩
        go_wp2
        go_roundw
        case rel => exact ⟨k + 1, ys, by omega, by go_num, own_ch (S := []) HM5.out ((Ch.refl _ _).drewN m6) (by simp), HL5.out.ch (S := []) ((Ch.refl _ _).drewN m6) (by simp) (by simp), below_drewN HB5.out m6, HZ5.out⟩
        case measure => simp [intOf]; omega
      · skip
        go_wp2_with fail
        with_reducible refine (rtake_u HM1'.out (by exact HZ1'.out) (by have := HX.out; omega) 0).mono ?_
        rintro e w2 ⟨m2, rfl, hm2, hb2⟩
        have HL2 := Lib.hid (HL1'.out.ch (S := []) (Ch.of_below hb2) (by simp) (by simp))
        have HM2 := Lib.hid hm2
        have HB2 := Lib.hid (HB1'.out.trans (hb2.mono (by have := HZ1'.out; have := HSR.out.2.2; omega)))
        have HZ2 := Lib.hid (Nat.le_trans HZ1'.out hb2.size)
        skip
        clear hm2 hb2
        go_wp2_with fail
        with_reducible refine (pop_u HL2.out).mono ?_
        rintro e w3 ⟨rfl, hl3, hc3⟩
        have HLx := Lib.hid hl3
        have HMx := Lib.hid (own_ch HM2.out hc3 HSR.out.2.1)
        have HBx := Lib.hid (HB2.out.trans (hc3.below S HSR.out.1 (by have := HZ2.out; have := HSR.out.2.2; omega)))
        have HZx := Lib.hid (Nat.le_trans HZ2.out hc3.size)
        have HXx := Lib.hid hl3.le.1
        clear hl3 hc3
        generalize tkL xs 0 = ys at HLx HMx HXx
        obtain ⟨am, cm, hmv⟩ := own_form HMx.out
        subst hmv
        go_wp2_with fail
        with_reducible refine (len_l HLx.out).mono ?_
        rintro e w4 ⟨rfl, rfl⟩
        go_wp2_with fail
        with_reducible refine (room_l HLx.out).mono ?_
        rintro e w4 ⟨rfl, rfl⟩
        go_wp2_with fail
        with_reducible refine (list_l HLx.out).mono ?_
        rintro e w5 ⟨v5, rfl, ho5, hb5⟩
        have HM5 := Lib.hid (own_ch (S := []) HMx.out (Ch.of_below hb5) (by simp))
        have HL5 := Lib.hid (HLx.out.ch (S := []) (Ch.of_below hb5) (by simp) (by simp))
        have HB5 := Lib.hid (HBx.out.trans (hb5.mono (by have := HZx.out; have := HSR.out.2.2; omega)))
        have HZ5 := Lib.hid (Nat.le_trans HZx.out hb5.size)
        clear hb5
        obtain ⟨a5, c5, rfl⟩ := own_form ho5
        have HO5 := Lib.hid ho5
        clear ho5
        go_wp2_with fail
        with_reducible refine (same_eq a5 am c5 cm ys w5 (by have := HXx.out; omega) (own_IAt HO5.out) (own_IAt HM5.out)).mono ?_
        rintro e w6 ⟨rfl, m6, rfl⟩
        go_wp2
        go_roundw
        case rel => exact ⟨k + 1, ys, by omega, by go_num, own_ch (S := []) HM5.out ((Ch.refl _ _).drewN m6) (by simp), HL5.out.ch (S := []) ((Ch.refl _ _).drewN m6) (by simp) (by simp), below_drewN HB5.out m6, HZ5.out⟩
        case measure => simp [intOf]; omega
      · skip
        go_wp2_with fail
        with_reducible refine (rtake_u HM1'.out (by exact HZ1'.out) (by have := HX.out; omega) I).mono ?_
        rintro e w2 ⟨m2, rfl, hm2, hb2⟩
        have HL2 := Lib.hid (HL1'.out.ch (S := []) (Ch.of_below hb2) (by simp) (by simp))
        have HM2 := Lib.hid hm2
        have HB2 := Lib.hid (HB1'.out.trans (hb2.mono (by have := HZ1'.out; have := HSR.out.2.2; omega)))
        have HZ2 := Lib.hid (Nat.le_trans HZ1'.out hb2.size)
        have hcI := (hb2.cell (p := ⟨wr.heap.size, 1, none⟩) (by simp)).trans (World.cell?_alloc_at #[.int .i64 K, .int .i64 I, .slice aL nL cL] 30 wr.heap.size 1 rfl)
        simp at hcI
        clear hm2 hb2
        go_wp2_with fail
        with_reducible refine (take_u HL2.out I).mono ?_
        rintro e w3 ⟨rfl, hl3, hc3⟩
        have HLx := Lib.hid hl3
        have HMx := Lib.hid (own_ch HM2.out hc3 HSR.out.2.1)
        have HBx := Lib.hid (HB2.out.trans (hc3.below S HSR.out.1 (by have := HZ2.out; have := HSR.out.2.2; omega)))
        have HZx := Lib.hid (Nat.le_trans HZ2.out hc3.size)
        have HXx := Lib.hid hl3.le.1
        clear hl3 hc3
        generalize tkL xs I = ys at HLx HMx HXx
        obtain ⟨am, cm, hmv⟩ := own_form HMx.out
        subst hmv
        go_wp2_with fail
        with_reducible refine (len_l HLx.out).mono ?_
        rintro e w4 ⟨rfl, rfl⟩
        go_wp2_with fail
        with_reducible refine (room_l HLx.out).mono ?_
        rintro e w4 ⟨rfl, rfl⟩
        go_wp2_with fail
        with_reducible refine (list_l HLx.out).mono ?_
        rintro e w5 ⟨v5, rfl, ho5, hb5⟩
        have HM5 := Lib.hid (own_ch (S := []) HMx.out (Ch.of_below hb5) (by simp))
        have HL5 := Lib.hid (HLx.out.ch (S := []) (Ch.of_below hb5) (by simp) (by simp))
        have HB5 := Lib.hid (HBx.out.trans (hb5.mono (by have := HZx.out; have := HSR.out.2.2; omega)))
        have HZ5 := Lib.hid (Nat.le_trans HZx.out hb5.size)
        clear hb5
        obtain ⟨a5, c5, rfl⟩ := own_form ho5
        have HO5 := Lib.hid ho5
        clear ho5
        go_wp2_with fail
        with_reducible refine (same_eq a5 am c5 cm ys w5 (by have := HXx.out; omega) (own_IAt HO5.out) (own_IAt HM5.out)).mono ?_
        rintro e w6 ⟨rfl, m6, rfl⟩
        go_wp2
        go_roundw
        case rel => exact ⟨k + 1, ys, by omega, by go_num, own_ch (S := []) HM5.out ((Ch.refl _ _).drewN m6) (by simp), HL5.out.ch (S := []) ((Ch.refl _ _).drewN m6) (by simp) (by simp), below_drewN HB5.out m6, HZ5.out⟩
        case measure => simp [intOf]; omega
      · skip
        go_wp2_with fail
        with_reducible refine (rtake_u HM1'.out (by exact HZ1'.out) (by have := HX.out; omega) I).mono ?_
        rintro e w2 ⟨m2, rfl, hm2, hb2⟩
        have HL2 := Lib.hid (HL1'.out.ch (S := []) (Ch.of_below hb2) (by simp) (by simp))
        have HM2 := Lib.hid (own_ch (S := []) HM1'.out (Ch.of_below hb2) (by simp))
        have HB2 := Lib.hid (HB1'.out.trans (hb2.mono (by have := HZ1'.out; have := HSR.out.2.2; omega)))
        have HZ2 := Lib.hid (Nat.le_trans HZ1'.out hb2.size)
        have hcI := (hb2.cell (p := ⟨wr.heap.size, 1, none⟩) (by simp)).trans (World.cell?_alloc_at #[.int .i64 K, .int .i64 I, .slice aL nL cL] 30 wr.heap.size 1 rfl)
        simp at hcI
        clear hm2 hb2
        go_wp2_with fail
        with_reducible refine (at_u HL2.out I).mono ?_
        rintro e w3 ⟨rfl, hl3, hc3⟩
        have HLx := Lib.hid hl3
        have HMx := Lib.hid (own_ch HM2.out hc3 HSR.out.2.1)
        have HBx := Lib.hid (HB2.out.trans (hc3.below S HSR.out.1 (by have := HZ2.out; have := HSR.out.2.2; omega)))
        have HZx := Lib.hid (Nat.le_trans HZ2.out hc3.size)
        have HXx := Lib.hid hl3.le.1
        clear hl3 hc3
        obtain ⟨am, cm, hmv⟩ := own_form HMx.out
        subst hmv
        go_wp2_with fail
        with_reducible refine (len_l HLx.out).mono ?_
        rintro e w4 ⟨rfl, rfl⟩
        go_wp2_with fail
        with_reducible refine (room_l HLx.out).mono ?_
        rintro e w4 ⟨rfl, rfl⟩
        go_wp2_with fail
        with_reducible refine (list_l HLx.out).mono ?_
        rintro e w5 ⟨v5, rfl, ho5, hb5⟩
        have HM5 := Lib.hid (own_ch (S := []) HMx.out (Ch.of_below hb5) (by simp))
        have HL5 := Lib.hid (HLx.out.ch (S := []) (Ch.of_below hb5) (by simp) (by simp))
        have HB5 := Lib.hid (HBx.out.trans (hb5.mono (by have := HZx.out; have := HSR.out.2.2; omega)))
        have HZ5 := Lib.hid (Nat.le_trans HZx.out hb5.size)
        clear hb5
        obtain ⟨a5, c5, rfl⟩ := own_form ho5
        have HO5 := Lib.hid ho5
        clear ho5
        go_wp2_with fail
        with_reducible refine (same_eq a5 am c5 cm (xs) w5 (by have := HXx.out; omega) (own_IAt HO5.out) (own_IAt HM5.out)).mono ?_
        rintro e w6 ⟨rfl, m6, rfl⟩
        go_wp2
        go_roundw
        case rel => exact ⟨k + 1, xs, by omega, by go_num, own_ch (S := []) HM5.out ((Ch.refl _ _).drewN m6) (by simp), HL5.out.ch (S := []) ((Ch.refl _ _).drewN m6) (by simp) (by simp), below_drewN HB5.out m6, HZ5.out⟩
        case measure => simp [intOf]; omega
    · have hex : (k < len ∧ k < 60) = False := by simpa using hlt
      by_cases h1 : k < len
      · have h2 : decide ((k : Int) < 60) = false := by simp; omega
        have h3 : (k : Int) < (len : Int) := by omega
        go_wp2_with fail
        with_reducible refine (known_any _).mono ?_
        rintro e w2 ⟨rfl, hb2⟩
        go_wp2
        go_ret
        exact ⟨rfl, HB.out.trans (hb2.mono (by have := HZ.out; have := HSR.out.2.2; omega))⟩
      · have h3 : ¬ (k : Int) < (len : Int) := by omega
        go_wp2_with fail
        with_reducible refine (known_any _).mono ?_
        rintro e w2 ⟨rfl, hb2⟩
        go_wp2
        go_ret
        exact ⟨rfl, HB.out.trans (hb2.mono (by have := HZ.out; have := HSR.out.2.2; omega))⟩
end Go.Proofs.Ytkjkaihbpccdmaa
