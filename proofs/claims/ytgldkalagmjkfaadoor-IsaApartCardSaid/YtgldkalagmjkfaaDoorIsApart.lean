/-
  The law IsaApart, walked.
-/
import Derived.Test.YtgldkalagmjkfaaDoorIsY
import Derived.Test.YtgldkalagmjkfaaDoorIsU
namespace Go.Proofs.YtgldkalagmjkfaaDoor
open Go.RowKit Go.Lib

attribute [local go_sem] Oper.semAt_some

/-- The text: none, where it isn't right. -/
def tx (x : I5) : List UInt8 := if chk x = 0 then txt x else []
theorem text_all {x : I5} (hx : Fit x) {w : World} (hT : Tb w) : Calls Tryd.prog 16 #[iv x] w fun e w' => e = .returned (.string ⟨(tx x).toArray⟩) ∧ Ch [] w w' := by
  unfold tx
  by_cases h : chk x = 0
  · rw [if_pos h]; exact text_any hx h hT
  · rw [if_neg h]; exact text_bad hx h w
theorem tx_len (x : I5) : (0 < (tx x).length) ↔ chk x = 0 := by
  unfold tx
  by_cases h : chk x = 0
  · rw [if_pos h]; exact ⟨fun _ => h, fun _ => List.length_pos_iff.2 (txt_ne h)⟩
  · rw [if_neg h]; simp [h]
/-- The bytes of one. -/
theorem bytes_one {x : I5} (hx : Fit x) (w : World) : Calls Tryd.prog 18 #[.slice (some ⟨w.heap.size, 0, none⟩) 1 1] (w.alloc (.cells #[.int .i64 x.op, .int .i64 x.d, .int .i64 x.s, .int .i64 x.o, .int .i64 x.i] 34)) fun e w' => Ch [] w w' ∧ ∃ v n c, e = .returned (.tuple #[.slice v n c, .int .i64 (chk x)]) ∧ BytesAt w' v (if chk x = 0 then enc x else []) ∧ n = if chk x = 0 then 8 else 0 := by
  have hin : InsAt (w.alloc (.cells #[.int .i64 x.op, .int .i64 x.d, .int .i64 x.s, .int .i64 x.o, .int .i64 x.i] 34)) (some ⟨w.heap.size, 0, none⟩) [x] := by
    refine .inr ⟨w.heap.size, 0, rfl, fun i hi => ?_⟩
    obtain rfl : i = 0 := by simpa using hi
    have h := Five.new w x 34
    exact ⟨h.c0, h.c1, h.c2, h.c3, h.c4⟩
  refine (bytes_any (cap := 1) (n := 1) (L := [x]) rfl (by decide) hin (by intro y hy; obtain rfl : y = x := by simpa using hy
                                                                           exact hx)).mono ?_
  rintro e w' ⟨he, hc⟩
  refine ⟨((Ch.refl [] w).alloc _).trans hc, ?_⟩
  have hf : firstE [x] = chk x := by
    show (if chk x = 0 then (0 : Int) else chk x) = chk x
    by_cases h : chk x = 0 <;> simp [h]
  have hen : encL [x] = enc x := by simp [encL]
  rw [hf, hen] at he
  rcases he with ⟨h, rfl⟩ | ⟨h, v, rfl, hnb⟩
  · exact ⟨none, 0, 0, rfl, by rw [if_neg h]; exact .inl rfl, by rw [if_neg h]⟩
  · obtain ⟨a, c, rfl, hb, -⟩ := hnb.form
    exact ⟨a, 8, c, by rw [h, enc_length], by rw [if_pos h]; exact hb, by rw [if_pos h]⟩

set_option maxRecDepth 100000 in
set_option maxHeartbeats 8000000 in
theorem apart_law {x y : I5} (hx : Fit x) (hy : Fit y) {w : World} (hT : Tb w) :
    Calls Tryd.prog 7 #[iv x, iv y] w fun e w' => e = .returned (.bool true) ∧ Below w.heap.size w w' := by
  have HT := Lib.hid hT
  have HFx := Lib.hid ((Five.new w x 29).ch ((Ch.refl [] _).alloc (.cells #[.int .i64 y.op, .int .i64 y.d, .int .i64 y.s, .int .i64 y.o, .int .i64 y.i] 29)) (by simp))
  have HFy := Lib.hid (Five.new (w.alloc (.cells #[.int .i64 x.op, .int .i64 x.d, .int .i64 x.s, .int .i64 x.o, .int .i64 x.i] 29)) y 29)
  have HC := Lib.hid (((Ch.refl [] w).alloc (.cells #[.int .i64 x.op, .int .i64 x.d, .int .i64 x.s, .int .i64 x.o, .int .i64 x.i] 29)).alloc (.cells #[.int .i64 y.op, .int .i64 y.d, .int .i64 y.s, .int .i64 y.o, .int .i64 y.i] 29))
  have HTx := Lib.hid (fun (w : World) (h : Tb w) => text_all hx h)
  have HTy := Lib.hid (fun (w : World) (h : Tb w) => text_all hy h)
  have HBx := Lib.hid (fun (w : World) => bytes_one hx w)
  have HBy := Lib.hid (fun (w : World) => bytes_one hy w)
  have HKx := Lib.hid (fun w => check_any hx w)
  have HKy := Lib.hid (fun w => check_any hy w)
  have HLx := Lib.hid (tx_len x)
  have HLy := Lib.hid (tx_len y)
  have HDs := Lib.hid (show chk x = 0 → chk y = 0 → (tx x = tx y ↔ x = y) from fun h1 h2 => by
    unfold tx; rw [if_pos h1, if_pos h2]
    exact ⟨fun h => txt_inj h1 h2 h, fun h => by rw [h]⟩)
  have HDb := Lib.hid (show chk x = 0 → chk y = 0 → (enc x = enc y ↔ x = y) from fun h1 h2 => ⟨fun h => enc_inj h1 h2 h, fun h => by rw [h]⟩)
  have HEq := Lib.hid (fun w => ins_eql x y w)
  have HW0 := Lib.hid (show (w.alloc (.cells #[.int .i64 x.op, .int .i64 x.d, .int .i64 x.s, .int .i64 x.o, .int .i64 x.i] 29)).heap.size = w.heap.size + 1 by simp)
  have HL8 := Lib.hid (And.intro (enc_length x) (enc_length y))
  obtain ⟨D, hD⟩ : ∃ D, decide (x = y) = D := ⟨_, rfl⟩
  rw [hD] at HEq
  have HD := Lib.hid hD
  generalize enc x = bx at *
  generalize enc y = by' at *
  generalize tx x = sx at *
  generalize tx y = sy at *
  generalize chk x = cx at *
  generalize chk y = cy at *
  rw [HW0.out] at HFy
  have HXY := Lib.hid (show decide (x = y) = D from hD)
  clear hD hx hy hT
  obtain ⟨op, d, s, o, i⟩ := x
  obtain ⟨op', d', s', o', i'⟩ := y
  unfold iv at *
  simp only at HTx HTy HBx HBy HKx HKy HEq
  go_enter Tryd.func7, Tryd.ntmps7
  go_wp2_with fail
  refine apart1 HFx.out HFy.out ?_
  intro x5 x6 x13 x14 x15 x16 wq ⟨P, Q, e5, e6, hP, hQ, hc⟩
  subst e5 e6
  have HP := Lib.hid hP
  have HQ := Lib.hid hQ
  have HC1 := Lib.hid (HC.out.trans hc)
  have HTd := Lib.hid (HT.out.ch (HC.out.trans hc).drew)
  obtain ⟨p0, p1, p2, p3, p4⟩ := hP
  obtain ⟨q0, q1, q2, q3, q4⟩ := hQ
  simp only at p0 p1 p2 p3 p4 q0 q1 q2 q3 q4
  clear hc
  go_wp2_with fail
  go_region_held3 (fun w' => (w'.cell? ⟨P, 0, none⟩ = some (.int .i64 op) ∧ w'.cell? ⟨P, 1, none⟩ = some (.int .i64 d) ∧ w'.cell? ⟨P, 2, none⟩ = some (.int .i64 s) ∧ w'.cell? ⟨P, 3, none⟩ = some (.int .i64 o) ∧ w'.cell? ⟨P, 4, none⟩ = some (.int .i64 i)) ∧ w'.cell? ⟨Q, 0, none⟩ = some (.int .i64 op') ∧ w'.cell? ⟨Q, 1, none⟩ = some (.int .i64 d') ∧ w'.cell? ⟨Q, 2, none⟩ = some (.int .i64 s') ∧ w'.cell? ⟨Q, 3, none⟩ = some (.int .i64 o') ∧ w'.cell? ⟨Q, 4, none⟩ = some (.int .i64 i')) (go_keep) (first
    | (with_reducible refine (HTx.out _ HTd.out).mono ?_; rintro e w2 ⟨rfl, hc2⟩; have HC2 := Lib.hid (HC1.out.drew.trans hc2); have HP2 := Lib.hid (HP.out.ch ((Ch.refl [] wq).drew.trans hc2) (by simp)); have HQ2 := Lib.hid (HQ.out.ch ((Ch.refl [] wq).drew.trans hc2) (by simp)); have HT2 := Lib.hid (HTd.out.ch hc2); obtain ⟨a0, a1, a2, a3, a4⟩ := HP2.out; obtain ⟨b0, b1, b2, b3, b4⟩ := HQ2.out; simp only at a0 a1 a2 a3 a4 b0 b1 b2 b3 b4; clear hc2)
    | (with_reducible refine (HTy.out _ HT2.out).mono ?_; rintro e w3 ⟨rfl, hc3⟩; have HC3 := Lib.hid (HC2.out.trans hc3); have HP3 := Lib.hid (HP2.out.ch hc3 (by simp)); have HQ3 := Lib.hid (HQ2.out.ch hc3 (by simp)); obtain ⟨e0, e1, e2, e3, e4⟩ := HP3.out; obtain ⟨f0, f1, f2, f3, f4⟩ := HQ3.out; simp only at e0 e1 e2 e3 e4 f0 f1 f2 f3 f4; clear hc3)
    | fail)
  have hp := HP3.out
  clear p0 p1 p2 p3 p4 q0 q1 q2 q3 q4 a0 a1 a2 a3 a4 b0 b1 b2 b3 b4 HP2 HQ2 HT2 HC2 HTd
  go_wp2_with fail
  with_reducible refine (HBx.out _).mono ?_
  rintro e w4 ⟨hc4, v4, n4, c4, rfl, hb4, hn4⟩
  have HC4 := Lib.hid (HC3.out.trans hc4)
  have HP4 := Lib.hid (HP3.out.ch hc4 (by simp))
  have HQ4 := Lib.hid (HQ3.out.ch hc4 (by simp))
  obtain ⟨a0, a1, a2, a3, a4⟩ := HQ4.out
  simp only at a0 a1 a2 a3 a4
  have HN4 := Lib.hid hn4
  have HBB4 := Lib.hid hb4
  clear hn4 hb4 hc4 hp e0 e1 e2 e3 e4 f0 f1 f2 f3 f4
  go_wp2_with fail
  with_reducible refine (HBy.out _).mono ?_
  rintro e w5 ⟨hc5, v5, n5, c5, rfl, hb5, hn5⟩
  have HC5 := Lib.hid (HC4.out.trans hc5)
  have HP5 := Lib.hid (HP4.out.ch hc5 (by simp))
  have HQ5 := Lib.hid (HQ4.out.ch hc5 (by simp))
  have hn4 := HN4.out
  have hb4 := HBB4.out.ch hc5 (by simp)
  clear HN4 HBB4 hc5 a0 a1 a2 a3 a4 HC3 HP3 HQ3 HC4 HP4 HQ4 HFx HFy HC1 HP HQ HTx HTy HBx HBy
  by_cases hx0 : cx = 0
  · by_cases hy0 : cy = 0
    · subst hx0 hy0
      have HDs2 := Lib.hid (HDs.out rfl rfl)
      have HDb2 := Lib.hid (HDb.out rfl rfl)
      clear HDs HDb
      have hsl : 0 < sx.length := HLx.out.2 rfl
      rw [if_pos rfl] at hb4 hn4
      rw [if_pos rfl] at hb5 hn5
      subst hn4 hn5
      have HB4 := Lib.hid hb4
      have HB5 := Lib.hid hb5
      clear hb4 hb5
      have hp := HP5.out
      obtain ⟨a0, a1, a2, a3, a4⟩ := hp
      simp only at a0 a1 a2 a3 a4
      go_wp2_with fail
      with_reducible refine (HKx.out _).mono ?_
      rintro e w6 ⟨rfl, hc6⟩
      have HC6 := Lib.hid (HC5.out.trans hc6)
      have HP6 := Lib.hid (HP5.out.ch hc6 (by simp))
      have HQ6 := Lib.hid (HQ5.out.ch hc6 (by simp))
      have HB6 := Lib.hid (HB4.out.ch hc6 (by simp))
      have HD6 := Lib.hid (HB5.out.ch hc6 (by simp))
      clear hc6 a0 a1 a2 a3 a4
      obtain ⟨a0, a1, a2, a3, a4⟩ := HP6.out
      simp only at a0 a1 a2 a3 a4
      go_wp2_with fail
      with_reducible refine (HKx.out _).mono ?_
      rintro e w7 ⟨rfl, hc7⟩
      have HC7 := Lib.hid (HC6.out.trans hc7)
      have HP7 := Lib.hid (HP6.out.ch hc7 (by simp))
      have HQ7 := Lib.hid (HQ6.out.ch hc7 (by simp))
      have HB7 := Lib.hid (HB6.out.ch hc7 (by simp))
      have HD7 := Lib.hid (HD6.out.ch hc7 (by simp))
      clear hc7 a0 a1 a2 a3 a4 HP6 HQ6 HB6 HD6
      obtain ⟨a0, a1, a2, a3, a4⟩ := HQ7.out
      simp only at a0 a1 a2 a3 a4
      go_wp2_with fail
      with_reducible refine (HKy.out _).mono ?_
      rintro e w8 ⟨rfl, hc8⟩
      have HC8 := Lib.hid (HC7.out.trans hc8)
      have HP8 := Lib.hid (HP7.out.ch hc8 (by simp))
      have HQ8 := Lib.hid (HQ7.out.ch hc8 (by simp))
      have HB8 := Lib.hid (HB7.out.ch hc8 (by simp))
      have HD8 := Lib.hid (HD7.out.ch hc8 (by simp))
      clear hc8 a0 a1 a2 a3 a4 HP7 HQ7 HB7 HD7
      have hst : (sx == sy) = D := by
        rw [← HXY.out, Bool.eq_iff_iff, decide_eq_true_iff, beq_iff_eq]; exact HDs2.out
      have HSm := Lib.hid (show ∀ W, Ch [] w8 W → Calls Tryd.prog 20 #[.slice v4 8 c4, .slice v5 8 c5] W fun e w' => e = .returned (.bool D) ∧ Ch [] W w' from fun W hW => by
        by_cases he : bx = by'
        · have : D = true := by rw [← HXY.out, decide_eq_true_iff]; exact HDb2.out.1 he
          rw [this]
          exact same_any c4 c5 HL8.out.1 (by decide) (HB8.out.ch hW (by simp)) (by rw [he]; exact HD8.out.ch hW (by simp))
        · have : D = false := by rw [← HXY.out, decide_eq_false_iff_not]; exact fun h => he (HDb2.out.2 h)
          rw [this]
          have := same_not c4 c5 (l := bx) (m := by') (by rw [HL8.out.1]; decide) (by rw [HL8.out.2]; decide) he (HB8.out.ch hW (by simp)) (HD8.out.ch hW (by simp))
          rw [HL8.out.1, HL8.out.2] at this
          exact this)
      have heq := HEq.out
      have HTd8 := Lib.hid (HT.out.ch HC8.out.drew)
      obtain ⟨a0, a1, a2, a3, a4⟩ := HP8.out
      simp only at a0 a1 a2 a3 a4
      obtain ⟨b0, b1, b2, b3, b4⟩ := HQ8.out
      simp only at b0 b1 b2 b3 b4
      go_wp2_with fail
      go_region_held3 (fun w' => (w'.cell? ⟨P, 0, none⟩ = some (.int .i64 op) ∧ w'.cell? ⟨P, 1, none⟩ = some (.int .i64 d) ∧ w'.cell? ⟨P, 2, none⟩ = some (.int .i64 s) ∧ w'.cell? ⟨P, 3, none⟩ = some (.int .i64 o) ∧ w'.cell? ⟨P, 4, none⟩ = some (.int .i64 i)) ∧ w'.cell? ⟨Q, 0, none⟩ = some (.int .i64 op') ∧ w'.cell? ⟨Q, 1, none⟩ = some (.int .i64 d') ∧ w'.cell? ⟨Q, 2, none⟩ = some (.int .i64 s') ∧ w'.cell? ⟨Q, 3, none⟩ = some (.int .i64 o') ∧ w'.cell? ⟨Q, 4, none⟩ = some (.int .i64 i')) (go_keep) (first
        | (with_reducible refine (known_any HTd8.out).mono ?_; rintro e w9 ⟨rfl, hc9⟩; have HC9 := Lib.hid (HC8.out.drew.trans hc9); have HM9 := Lib.hid ((Ch.refl [] w8).drew.trans hc9); have HP9 := Lib.hid (HP8.out.ch ((Ch.refl [] w8).drew.trans hc9) (by simp)); have HQ9 := Lib.hid (HQ8.out.ch ((Ch.refl [] w8).drew.trans hc9) (by simp)); obtain ⟨g0, g1, g2, g3, g4⟩ := HP9.out; obtain ⟨k0, k1, k2, k3, k4⟩ := HQ9.out; simp only at g0 g1 g2 g3 g4 k0 k1 k2 k3 k4; clear hc9)
        | (with_reducible refine (HSm.out _ HM9.out).mono ?_; rintro e wz ⟨rfl, hcz⟩; have HCz := Lib.hid (HC9.out.trans hcz); have HPz := Lib.hid (HP9.out.ch hcz (by simp)); have HQz := Lib.hid (HQ9.out.ch hcz (by simp)); obtain ⟨m0, m1, m2, m3, m4⟩ := HPz.out; obtain ⟨n0, n1, n2, n3, n4⟩ := HQz.out; simp only at m0 m1 m2 m3 m4 n0 n1 n2 n3 n4; clear hcz)
        | fail)
      go_wp2
      go_ret
      exact ⟨rfl, HCz.out.below _ (by simp) (Nat.le_refl _)⟩
    · have HZy := Lib.hid hy0
      subst hx0
      clear hy0
      have hsl : 0 < sx.length := HLx.out.2 rfl
      rw [if_pos rfl] at hb4 hn4
      have hyb : (cy == 0) = false := by have := HZy.out; simpa using this
      have hyb2 : (cy != 0) = true := by have := HZy.out; simpa using this
      rw [if_neg HZy.out] at hb5 hn5
      subst hn4 hn5
      have HB4 := Lib.hid hb4
      have HB5 := Lib.hid hb5
      clear hb4 hb5
      have hp := HP5.out
      obtain ⟨a0, a1, a2, a3, a4⟩ := hp
      simp only at a0 a1 a2 a3 a4
      go_wp2_with fail
      with_reducible refine (HKx.out _).mono ?_
      rintro e w6 ⟨rfl, hc6⟩
      have HC6 := Lib.hid (HC5.out.trans hc6)
      have HP6 := Lib.hid (HP5.out.ch hc6 (by simp))
      have HQ6 := Lib.hid (HQ5.out.ch hc6 (by simp))
      have HB6 := Lib.hid (HB4.out.ch hc6 (by simp))
      have HD6 := Lib.hid (HB5.out.ch hc6 (by simp))
      clear hc6 a0 a1 a2 a3 a4
      obtain ⟨a0, a1, a2, a3, a4⟩ := HP6.out
      simp only at a0 a1 a2 a3 a4
      go_wp2_with fail
      with_reducible refine (HKx.out _).mono ?_
      rintro e w7 ⟨rfl, hc7⟩
      have HC7 := Lib.hid (HC6.out.trans hc7)
      have HP7 := Lib.hid (HP6.out.ch hc7 (by simp))
      have HQ7 := Lib.hid (HQ6.out.ch hc7 (by simp))
      have HB7 := Lib.hid (HB6.out.ch hc7 (by simp))
      have HD7 := Lib.hid (HD6.out.ch hc7 (by simp))
      clear hc7 a0 a1 a2 a3 a4 HP6 HQ6 HB6 HD6
      obtain ⟨a0, a1, a2, a3, a4⟩ := HQ7.out
      simp only at a0 a1 a2 a3 a4
      go_wp2_with fail
      with_reducible refine (HKy.out _).mono ?_
      rintro e w8 ⟨rfl, hc8⟩
      have HC8 := Lib.hid (HC7.out.trans hc8)
      have HP8 := Lib.hid (HP7.out.ch hc8 (by simp))
      have HQ8 := Lib.hid (HQ7.out.ch hc8 (by simp))
      have HB8 := Lib.hid (HB7.out.ch hc8 (by simp))
      have HD8 := Lib.hid (HD7.out.ch hc8 (by simp))
      clear hc8 a0 a1 a2 a3 a4 HP7 HQ7 HB7 HD7
      go_wp2_with fail
      with_reducible refine (known_any (HT.out.ch HC8.out)).mono ?_
      rintro e w9 ⟨rfl, hc9⟩
      have HC9 := Lib.hid (HC8.out.trans hc9)
      clear hc9
      go_wp2
      go_ret
      exact ⟨rfl, HC9.out.below _ (by simp) (Nat.le_refl _)⟩
  · have HZx := Lib.hid hx0
    by_cases hy0 : cy = 0
    · subst hy0
      clear hx0
      obtain rfl : sx = [] := List.eq_nil_of_length_eq_zero (by have := HLx.out; have := HZx.out; omega)
      have hxb : (cx == 0) = false := by have := HZx.out; simpa using this
      have hxb2 : (cx != 0) = true := by have := HZx.out; simpa using this
      rw [if_neg HZx.out] at hb4 hn4
      rw [if_pos rfl] at hb5 hn5
      subst hn4 hn5
      have HB4 := Lib.hid hb4
      have HB5 := Lib.hid hb5
      clear hb4 hb5
      have hp := HP5.out
      obtain ⟨a0, a1, a2, a3, a4⟩ := hp
      simp only at a0 a1 a2 a3 a4
      go_wp2_with fail
      with_reducible refine (HKx.out _).mono ?_
      rintro e w6 ⟨rfl, hc6⟩
      have HC6 := Lib.hid (HC5.out.trans hc6)
      have HP6 := Lib.hid (HP5.out.ch hc6 (by simp))
      have HQ6 := Lib.hid (HQ5.out.ch hc6 (by simp))
      have HB6 := Lib.hid (HB4.out.ch hc6 (by simp))
      have HD6 := Lib.hid (HB5.out.ch hc6 (by simp))
      clear hc6 a0 a1 a2 a3 a4
      obtain ⟨a0, a1, a2, a3, a4⟩ := HP6.out
      simp only at a0 a1 a2 a3 a4
      go_wp2_with fail
      with_reducible refine (HKx.out _).mono ?_
      rintro e w7 ⟨rfl, hc7⟩
      have HC7 := Lib.hid (HC6.out.trans hc7)
      have HP7 := Lib.hid (HP6.out.ch hc7 (by simp))
      have HQ7 := Lib.hid (HQ6.out.ch hc7 (by simp))
      have HB7 := Lib.hid (HB6.out.ch hc7 (by simp))
      have HD7 := Lib.hid (HD6.out.ch hc7 (by simp))
      clear hc7 a0 a1 a2 a3 a4 HP6 HQ6 HB6 HD6
      obtain ⟨a0, a1, a2, a3, a4⟩ := HQ7.out
      simp only at a0 a1 a2 a3 a4
      go_wp2_with fail
      with_reducible refine (HKy.out _).mono ?_
      rintro e w8 ⟨rfl, hc8⟩
      have HC8 := Lib.hid (HC7.out.trans hc8)
      have HP8 := Lib.hid (HP7.out.ch hc8 (by simp))
      have HQ8 := Lib.hid (HQ7.out.ch hc8 (by simp))
      have HB8 := Lib.hid (HB7.out.ch hc8 (by simp))
      have HD8 := Lib.hid (HD7.out.ch hc8 (by simp))
      clear hc8 a0 a1 a2 a3 a4 HP7 HQ7 HB7 HD7
      go_wp2_with fail
      with_reducible refine (known_any (HT.out.ch HC8.out)).mono ?_
      rintro e w9 ⟨rfl, hc9⟩
      have HC9 := Lib.hid (HC8.out.trans hc9)
      clear hc9
      go_wp2
      go_ret
      exact ⟨rfl, HC9.out.below _ (by simp) (Nat.le_refl _)⟩
    · have HZy := Lib.hid hy0
      clear hx0 hy0
      obtain rfl : sx = [] := List.eq_nil_of_length_eq_zero (by have := HLx.out; have := HZx.out; omega)
      have hxb : (cx == 0) = false := by have := HZx.out; simpa using this
      have hxb2 : (cx != 0) = true := by have := HZx.out; simpa using this
      rw [if_neg HZx.out] at hb4 hn4
      have hyb : (cy == 0) = false := by have := HZy.out; simpa using this
      have hyb2 : (cy != 0) = true := by have := HZy.out; simpa using this
      rw [if_neg HZy.out] at hb5 hn5
      subst hn4 hn5
      have HB4 := Lib.hid hb4
      have HB5 := Lib.hid hb5
      clear hb4 hb5
      have hp := HP5.out
      obtain ⟨a0, a1, a2, a3, a4⟩ := hp
      simp only at a0 a1 a2 a3 a4
      go_wp2_with fail
      with_reducible refine (HKx.out _).mono ?_
      rintro e w6 ⟨rfl, hc6⟩
      have HC6 := Lib.hid (HC5.out.trans hc6)
      have HP6 := Lib.hid (HP5.out.ch hc6 (by simp))
      have HQ6 := Lib.hid (HQ5.out.ch hc6 (by simp))
      have HB6 := Lib.hid (HB4.out.ch hc6 (by simp))
      have HD6 := Lib.hid (HB5.out.ch hc6 (by simp))
      clear hc6 a0 a1 a2 a3 a4
      obtain ⟨a0, a1, a2, a3, a4⟩ := HP6.out
      simp only at a0 a1 a2 a3 a4
      go_wp2_with fail
      with_reducible refine (HKx.out _).mono ?_
      rintro e w7 ⟨rfl, hc7⟩
      have HC7 := Lib.hid (HC6.out.trans hc7)
      have HP7 := Lib.hid (HP6.out.ch hc7 (by simp))
      have HQ7 := Lib.hid (HQ6.out.ch hc7 (by simp))
      have HB7 := Lib.hid (HB6.out.ch hc7 (by simp))
      have HD7 := Lib.hid (HD6.out.ch hc7 (by simp))
      clear hc7 a0 a1 a2 a3 a4 HP6 HQ6 HB6 HD6
      obtain ⟨a0, a1, a2, a3, a4⟩ := HQ7.out
      simp only at a0 a1 a2 a3 a4
      go_wp2_with fail
      with_reducible refine (HKy.out _).mono ?_
      rintro e w8 ⟨rfl, hc8⟩
      have HC8 := Lib.hid (HC7.out.trans hc8)
      have HP8 := Lib.hid (HP7.out.ch hc8 (by simp))
      have HQ8 := Lib.hid (HQ7.out.ch hc8 (by simp))
      have HB8 := Lib.hid (HB7.out.ch hc8 (by simp))
      have HD8 := Lib.hid (HD7.out.ch hc8 (by simp))
      clear hc8 a0 a1 a2 a3 a4 HP7 HQ7 HB7 HD7
      go_wp2_with fail
      with_reducible refine (known_any (HT.out.ch HC8.out)).mono ?_
      rintro e w9 ⟨rfl, hc9⟩
      have HC9 := Lib.hid (HC8.out.trans hc9)
      clear hc9
      go_wp2
      go_ret
      exact ⟨rfl, HC9.out.below _ (by simp) (Nat.le_refl _)⟩
end Go.Proofs.YtgldkalagmjkfaaDoor
