/-
  The program's Text at right instructions.
-/
import Derived.Test.YtgldkalagmjkfaaDoorIsK
namespace Go.Proofs.YtgldkalagmjkfaaDoor
open Go.RowKit Go.Lib

attribute [local go_sem] Oper.semAt_some

theorem tab_lt {P : Program} {w : World} {name : String} {k : IntKind} {zs : List Int} (h : Lib.TabIs P w name k zs) {g : Nat} (hg : P.globalNamed name = some g) : g < w.heap.size := by
  unfold Lib.TabIs World.var? at h
  simp only [hg, Option.bind_some] at h
  rcases Nat.lt_or_ge g w.heap.size with h' | h'
  · exact h'
  · rw [Array.getElem?_eq_none h'] at h; simp at h

set_option maxRecDepth 100000 in
set_option maxHeartbeats 4000000 in
theorem text_any {x : I5} (hx : Fit x) (hk : chk x = 0) {w : World} (hT : Tb w) : Calls Tryd.prog 16 #[iv x] w fun e w' => e = .returned (.string ⟨(txt x).toArray⟩) ∧ Ch [] w w' := by
  obtain ⟨hc0, hb, hf⟩ := chk_zero hk
  have HK := Lib.hid (fun w => check_any hx w)
  rw [hk] at HK
  have HN := Lib.hid (fun (w : World) (h : Tb w) => name_any hx.op.1 hx.op.2 h)
  have HU := Lib.hid (fun w => used_any hx.op.1 hx.op.2 w)
  have HX := Lib.hid hx
  have HE := Lib.hid (all5_txt hc0)
  have HTb := Lib.hid hT
  have HF := Lib.hid (Five.new w x 34)
  have HC := Lib.hid ((Ch.refl [] w).alloc (.cells #[.int .i64 x.op, .int .i64 x.d, .int .i64 x.s, .int .i64 x.o, .int .i64 x.i] 34))
  have HNL := Lib.hid (sizes_of hc0).1
  have hb' := hb
  obtain ⟨b1, b2, b3, b4, b5, b6, b7, b8⟩ := hb'
  have HL1 := Lib.hid (itoa_len (n := x.d) (by omega) (by omega))
  have HL2 := Lib.hid (itoa_len (n := x.s) (by omega) (by omega))
  have HL3 := Lib.hid (itoa_len (n := x.o) (by omega) (by omega))
  have HL4 := Lib.hid (itoa_len (n := x.i) (by omega) (by omega))
  clear b1 b2 b3 b4 b5 b6 b7 b8
  unfold all5 at HE
  generalize has (shp x.op) 100 = u1 at *
  generalize has (shp x.op) 115 = u2 at *
  generalize has (shp x.op) 111 = u3 at *
  generalize has (shp x.op) 105 = u4 at *
  generalize txt x = tx at *
  generalize nm x.op = n0 at *
  obtain ⟨st, hst⟩ : ∃ b, sto x.op = b := ⟨_, rfl⟩
  rw [hst] at HE
  have HS := Lib.hid hst
  obtain ⟨op, d, s, o, i⟩ := x
  unfold iv at *
  simp only at *
  obtain ⟨a0, a1, a2, a3, a4⟩ := HF.out
  simp only at a0 a1 a2 a3 a4
  clear hk hx hc0 hb hf hT hst
  go_enter Tryd.func16, Tryd.ntmps16
  go_wp2_with fail
  with_reducible refine (HK.out _).mono ?_
  rintro e w1 ⟨rfl, hc1⟩
  have HC1 := Lib.hid (HC.out.trans hc1)
  have HF1 := Lib.hid (HF.out.ch hc1 (by simp))
  have HT1 := Lib.hid (HTb.out.ch HC1.out)
  obtain ⟨c0, c1, c2, c3, c4⟩ := HF1.out
  simp only at c0 c1 c2 c3 c4
  clear hc1 a0 a1 a2 a3 a4
  go_wp2_with (first
    | (with_reducible refine (HN.out _ HT1.out).mono ?_; rintro e w1 ⟨rfl, rfl⟩)
    | fail)
  have h2 := (Ch.refl [] w1).alloc (.cells #[.string ⟨n0.toArray⟩] 9)
  have h3 := h2.alloc (.cells #[.string ⟨#[32]⟩] 9)
  refine text5 (HF1.out.ch h3 (by simp)) HS.out HU.out ?_
  intro x6 x7 x16 x17 x18 x19 x20 x21 x22 x23 x24 x25 x26 wq ⟨U, e6, e7, hU, hbo, hch⟩
  subst e6 e7
  have hB : w.heap.size < w1.heap.size := HF1.out.lt
  have hwle : w.heap.size ≤ w1.heap.size := by omega
  have hch3 := h3.trans hch
  have hTX : TX wq w.heap.size U w1.heap.size (w1.heap.size + 1) ⟨op, d, s, o, i⟩ u1 u2 u3 u4 n0 [32] := by
    refine ⟨HF1.out.ch hch3 (by simp), hbo, ?_, ?_, ?_, ?_, HT1.out.ch hch3, ?_, ?_, by omega, ?_, ?_⟩
    · exact (hch.cell (p := ⟨w1.heap.size, 0, none⟩) (by simp; omega) (by simp)).trans ((World.cell?_alloc_past _ _ _ (by simp)).trans (cell_new w1 _ _).1)
    · exact (hch.frozen (p := ⟨w1.heap.size, 0, none⟩) (by simp; omega) (by simp)).trans ((World.frozen?_alloc_old _ _ ⟨w1.heap.size, 0, none⟩ (by simp)).trans (cell_new w1 _ _).2)
    · exact (hch.cell (p := ⟨w1.heap.size + 1, 0, none⟩) (by simp) (by simp)).trans (by rw [World.cell?_alloc_at _ _ _ _ (by simp)]; rfl)
    · exact (hch.frozen (p := ⟨w1.heap.size + 1, 0, none⟩) (by simp) (by simp)).trans (by have := (cell_new (w1.alloc (.cells #[.string ⟨n0.toArray⟩] 9)) (.string ⟨#[32]⟩) 9).2; simp)
    · simp; omega
    · simp at hU ⊢; omega
    · have := cell_lt (HTb.out.nam 0 (by decide)); simp at this ⊢; omega
    · intro p hp; have := tab_lt HTb.out.pow hp; simp; omega
  have HT2 := Lib.hid hTX
  have HZ := Lib.hid (HC1.out.trans hch3)
  have HD := Lib.hid (And.intro hwle hU)
  clear hTX hch3 hch h3 h2 hbo hU hB hwle c0 c1 c2 c3 c4
  have k3 := HT2.out.five.c3
  simp only at k3
  go_wp2_with fail
  with_reducible refine (itoa_fit HX.out.o HT2.out.tb).mono ?_
  rintro e w2 ⟨rfl, hc2⟩
  obtain ⟨t3, ht3⟩ : ∃ t, itoa o = t := ⟨_, rfl⟩
  obtain ⟨t1, ht1⟩ : ∃ t, itoa d = t := ⟨_, rfl⟩
  obtain ⟨t2, ht2⟩ : ∃ t, itoa s = t := ⟨_, rfl⟩
  obtain ⟨t4, ht4⟩ : ∃ t, itoa i = t := ⟨_, rfl⟩
  obtain ⟨r1, hr1⟩ : ∃ t, 114 :: t1 = t := ⟨_, rfl⟩
  obtain ⟨r2, hr2⟩ : ∃ t, 114 :: t2 = t := ⟨_, rfl⟩
  rw [ht1, hr1, ht2, hr2, ht3, ht4] at HE
  rw [ht1] at HL1
  rw [ht2] at HL2
  rw [ht3] at HL3
  rw [ht4] at HL4
  rw [ht3]
  have hr1l : r1.length ≤ 30 := by rw [← hr1]; have := HL1.out; simp; omega
  have hr2l : r2.length ≤ 30 := by rw [← hr2]; have := HL2.out; simp; omega
  have hadd1 := add_str [114] t1 (by simp) (by have := HL1.out; omega)
  have hadd2 := add_str [114] t2 (by simp) (by have := HL2.out; omega)
  rw [show [114] ++ t1 = r1 from hr1] at hadd1
  rw [show [114] ++ t2 = r2 from hr2] at hadd2
  have HI1 := Lib.hid (fun (w : World) (hT : Tb w) => itoa_fit HX.out.d hT)
  have HI2 := Lib.hid (fun (w : World) (hT : Tb w) => itoa_fit HX.out.s hT)
  have HI4 := Lib.hid (fun (w : World) (hT : Tb w) => itoa_fit HX.out.i hT)
  simp only at HI1 HI2 HI4
  rw [ht1] at HI1
  rw [ht2] at HI2
  rw [ht4] at HI4
  clear ht1 ht2 ht3 ht4 hr1 hr2 HL1 HL2
  have HR1 := Lib.hid hr1l
  have HR2 := Lib.hid hr2l
  have HG := Lib.hid (HT2.out.quiet hc2)
  have HZ3 := Lib.hid (HZ.out.trans hc2)
  clear hc2 k3 hr1l hr2l
  obtain ⟨U0, hU0⟩ : ∃ n, w1.heap.size = n := ⟨_, rfl⟩
  rw [hU0] at HG ⊢
  have hlo : w.heap.size ≤ U0 := by rw [← hU0]; exact HD.out.1
  have HLo := Lib.hid hlo
  have HUU := Lib.hid hU0
  clear hU0 hlo
  have HTd := Lib.hid (HG.out.quiet (Ch.refl [] w2).drew)
  have k0 := HG.out.bo.c0
  have k1 := HG.out.five.c1
  simp only at k1
  go_wp2_with fail
  go_region_held3 (fun w' => w'.cell? ⟨U, 0, none⟩ = some (.bool u1) ∧ w'.cell? ⟨w.heap.size, 1, none⟩ = some (.int .i64 d)) (go_keep) (first
    | (go_at_call 31; with_reducible refine (HI1.out _ HTd.out.tb).mono ?_; rintro e w3 ⟨rfl, hc3⟩; have HT4 := Lib.hid (HTd.out.quiet hc3); have HZ4 := Lib.hid (HZ3.out.drew.trans hc3); have e0 := HT4.out.bo.c0; have e1 := HT4.out.five.c1; simp only at e1; clear hc3)
    | (go_at_call 30; with_reducible refine (TX.go (A := (n0, [32])) HT4.out u1 (p := r1) (by have := HNL.out; simp; omega) (by simp) HR1.out).mono ?_; rintro e w4 ⟨rfl, hT5, hc5⟩; have HT5 := Lib.hid hT5; have HZ5 := Lib.hid (ch_own HZ4.out hc5 (by have := HLo.out; simp; omega)); have z0 := HT5.out.bo.c0; have z1 := HT5.out.five.c1; simp only at z1; clear hT5 hc5)
    | fail)
  obtain ⟨A1, hA1⟩ : ∃ A, pp u1 r1 (n0, [32]) = A := ⟨_, rfl⟩
  have hl1 := pp_len u1 (A := (n0, [32])) (by simp) HR1.out
  rw [hA1] at hl1 HT5 HE
  have HA1 := Lib.hid (show A1.1.length ≤ 40 ∧ A1.2.length ≤ 2 from ⟨by have := HNL.out; have := hl1.1; simp at this; omega, hl1.2⟩)
  clear hA1 hl1 k0 k1 e0 e1 z0 z1 HT4 HZ4 HTd HG HZ3 HZ HT2 HNL hadd1 HI1 HR1
  cases u3 <;> cases st
  · have z2 := HT5.out.bo.c2
    go_wp2_with fail
    with_reducible refine (TX.go HT5.out false (p := t3) (by have := HA1.out; omega) HA1.out.2 (by have := HL3.out; omega)).mono ?_
    rintro e w5 ⟨rfl, hT6, hc6⟩
    have HT6 := Lib.hid hT6
    have HZ6 := Lib.hid (ch_own HZ5.out hc6 (by have := HLo.out; simp; omega))
    clear hT6 hc6 z2
    obtain ⟨A2, hA⟩ : ∃ A, pp false t3 A1 = A := ⟨_, rfl⟩
    have hl := pp_len false (A := A1) HA1.out.2 (p := t3) (by have := HL3.out; omega)
    rw [hA] at hl HT6
    have A2E := Lib.hid hA
    have HA2 := Lib.hid (show A2.1.length ≤ 80 ∧ A2.2.length ≤ 2 from ⟨by have := HA1.out; omega, hl.2⟩)
    clear hA hl
    have HTd := Lib.hid (HT6.out.quiet (Ch.refl [] _).drew)
    have k0 := HT6.out.bo.c1
    have k1 := HT6.out.five.c2
    simp only at k1
    go_wp2_with fail
    go_region_held3 (fun w' => w'.cell? ⟨U, 1, none⟩ = some (.bool u2) ∧ w'.cell? ⟨w.heap.size, 2, none⟩ = some (.int .i64 s)) (go_keep) (first
      | (go_at_call 31; with_reducible refine (HI2.out _ HTd.out.tb).mono ?_; rintro e w7a ⟨rfl, hc3⟩; have HT4 := Lib.hid (HTd.out.quiet hc3); have HZ4 := Lib.hid (HZ6.out.drew.trans hc3); have e0 := HT4.out.bo.c1; have e1 := HT4.out.five.c2; simp only at e1; clear hc3)
      | (go_at_call 30; with_reducible refine (TX.go HT4.out u2 (p := r2) (by have := HA2.out; omega) HA2.out.2 HR2.out).mono ?_; rintro e w7 ⟨rfl, hT5, hc5⟩; have HT7 := Lib.hid hT5; have HZ7 := Lib.hid (ch_own HZ4.out hc5 (by have := HLo.out; simp; omega)); have z0 := HT7.out.bo.c1; have z1 := HT7.out.five.c2; simp only at z1; clear hT5 hc5)
      | fail)
    obtain ⟨A3, hA⟩ : ∃ A, pp u2 r2 A2 = A := ⟨_, rfl⟩
    have hl := pp_len u2 (A := A2) HA2.out.2 (p := r2) HR2.out
    rw [hA] at hl HT7
    have A3E := Lib.hid hA
    have HA3 := Lib.hid (show A3.1.length ≤ 120 ∧ A3.2.length ≤ 2 from ⟨by have := HA2.out; omega, hl.2⟩)
    clear hA hl
    clear k0 k1 e0 e1 z0 z1 HT4 HZ4 HTd HZ6 HT6
    have HTd := Lib.hid (HT7.out.quiet (Ch.refl [] _).drew)
    have k0 := HT7.out.bo.c3
    have k1 := HT7.out.five.c4
    simp only at k1
    go_wp2_with fail
    go_region_held3 (fun w' => w'.cell? ⟨U, 3, none⟩ = some (.bool u4) ∧ w'.cell? ⟨w.heap.size, 4, none⟩ = some (.int .i64 i)) (go_keep) (first
      | (go_at_call 31; with_reducible refine (HI4.out _ HTd.out.tb).mono ?_; rintro e w8a ⟨rfl, hc3⟩; have HT4 := Lib.hid (HTd.out.quiet hc3); have HZ4 := Lib.hid (HZ7.out.drew.trans hc3); have e0 := HT4.out.bo.c3; have e1 := HT4.out.five.c4; simp only at e1; clear hc3)
      | (go_at_call 30; with_reducible refine (TX.go HT4.out u4 (p := t4) (by have := HA3.out; omega) HA3.out.2 (by have := HL4.out; omega)).mono ?_; rintro e w8 ⟨rfl, hT5, hc5⟩; have HT8 := Lib.hid hT5; have HZ8 := Lib.hid (ch_own HZ4.out hc5 (by have := HLo.out; simp; omega)); have z0 := HT8.out.bo.c3; have z1 := HT8.out.five.c4; simp only at z1; clear hT5 hc5)
      | fail)
    obtain ⟨A4, hA⟩ : ∃ A, pp u4 t4 A3 = A := ⟨_, rfl⟩
    have hl := pp_len u4 (A := A3) HA3.out.2 (p := t4) (by have := HL4.out; omega)
    rw [hA] at hl HT8
    have A4E := Lib.hid hA
    have HA4 := Lib.hid (show A4.1.length ≤ 160 ∧ A4.2.length ≤ 2 from ⟨by have := HA3.out; omega, hl.2⟩)
    clear hA hl
    clear k0 k1 e0 e1 z0 z1 HT4 HZ4 HTd HZ7 HT7
    have z2 := HT8.out.bo.c2
    go_wp2_with fail
    with_reducible refine (TX.go HT8.out _ (p := t3) (by have := HA4.out; omega) HA4.out.2 (by have := HL3.out; omega)).mono ?_
    rintro e w9 ⟨rfl, hT9, hc9⟩
    have HT9 := Lib.hid hT9
    have HZ9 := Lib.hid (ch_own HZ8.out hc9 (by have := HLo.out; simp; omega))
    have z3 := hT9.t
    have htx : (pp false t3 (pp u4 t4 (pp u2 r2 (pp false t3 A1)))).1 = tx := HE.out
    rw [A2E.out, A3E.out, A4E.out] at htx
    have HTX := Lib.hid htx
    clear hT9 hc9 z2 htx
    go_wp2
    go_ret
    exact ⟨by rw [← HTX.out]; rfl, HZ9.out⟩
  · have z2 := HT5.out.bo.c2
    go_wp2_with fail
    with_reducible refine (TX.go HT5.out false (p := t3) (by have := HA1.out; omega) HA1.out.2 (by have := HL3.out; omega)).mono ?_
    rintro e w5 ⟨rfl, hT6, hc6⟩
    have HT6 := Lib.hid hT6
    have HZ6 := Lib.hid (ch_own HZ5.out hc6 (by have := HLo.out; simp; omega))
    clear hT6 hc6 z2
    obtain ⟨A2, hA⟩ : ∃ A, pp false t3 A1 = A := ⟨_, rfl⟩
    have hl := pp_len false (A := A1) HA1.out.2 (p := t3) (by have := HL3.out; omega)
    rw [hA] at hl HT6
    have A2E := Lib.hid hA
    have HA2 := Lib.hid (show A2.1.length ≤ 80 ∧ A2.2.length ≤ 2 from ⟨by have := HA1.out; omega, hl.2⟩)
    clear hA hl
    have HTd := Lib.hid (HT6.out.quiet (Ch.refl [] _).drew)
    have k0 := HT6.out.bo.c1
    have k1 := HT6.out.five.c2
    simp only at k1
    go_wp2_with fail
    go_region_held3 (fun w' => w'.cell? ⟨U, 1, none⟩ = some (.bool u2) ∧ w'.cell? ⟨w.heap.size, 2, none⟩ = some (.int .i64 s)) (go_keep) (first
      | (go_at_call 31; with_reducible refine (HI2.out _ HTd.out.tb).mono ?_; rintro e w7a ⟨rfl, hc3⟩; have HT4 := Lib.hid (HTd.out.quiet hc3); have HZ4 := Lib.hid (HZ6.out.drew.trans hc3); have e0 := HT4.out.bo.c1; have e1 := HT4.out.five.c2; simp only at e1; clear hc3)
      | (go_at_call 30; with_reducible refine (TX.go HT4.out u2 (p := r2) (by have := HA2.out; omega) HA2.out.2 HR2.out).mono ?_; rintro e w7 ⟨rfl, hT5, hc5⟩; have HT7 := Lib.hid hT5; have HZ7 := Lib.hid (ch_own HZ4.out hc5 (by have := HLo.out; simp; omega)); have z0 := HT7.out.bo.c1; have z1 := HT7.out.five.c2; simp only at z1; clear hT5 hc5)
      | fail)
    obtain ⟨A3, hA⟩ : ∃ A, pp u2 r2 A2 = A := ⟨_, rfl⟩
    have hl := pp_len u2 (A := A2) HA2.out.2 (p := r2) HR2.out
    rw [hA] at hl HT7
    have A3E := Lib.hid hA
    have HA3 := Lib.hid (show A3.1.length ≤ 120 ∧ A3.2.length ≤ 2 from ⟨by have := HA2.out; omega, hl.2⟩)
    clear hA hl
    clear k0 k1 e0 e1 z0 z1 HT4 HZ4 HTd HZ6 HT6
    have HTd := Lib.hid (HT7.out.quiet (Ch.refl [] _).drew)
    have k0 := HT7.out.bo.c3
    have k1 := HT7.out.five.c4
    simp only at k1
    go_wp2_with fail
    go_region_held3 (fun w' => w'.cell? ⟨U, 3, none⟩ = some (.bool u4) ∧ w'.cell? ⟨w.heap.size, 4, none⟩ = some (.int .i64 i)) (go_keep) (first
      | (go_at_call 31; with_reducible refine (HI4.out _ HTd.out.tb).mono ?_; rintro e w8a ⟨rfl, hc3⟩; have HT4 := Lib.hid (HTd.out.quiet hc3); have HZ4 := Lib.hid (HZ7.out.drew.trans hc3); have e0 := HT4.out.bo.c3; have e1 := HT4.out.five.c4; simp only at e1; clear hc3)
      | (go_at_call 30; with_reducible refine (TX.go HT4.out u4 (p := t4) (by have := HA3.out; omega) HA3.out.2 (by have := HL4.out; omega)).mono ?_; rintro e w8 ⟨rfl, hT5, hc5⟩; have HT8 := Lib.hid hT5; have HZ8 := Lib.hid (ch_own HZ4.out hc5 (by have := HLo.out; simp; omega)); have z0 := HT8.out.bo.c3; have z1 := HT8.out.five.c4; simp only at z1; clear hT5 hc5)
      | fail)
    obtain ⟨A4, hA⟩ : ∃ A, pp u4 t4 A3 = A := ⟨_, rfl⟩
    have hl := pp_len u4 (A := A3) HA3.out.2 (p := t4) (by have := HL4.out; omega)
    rw [hA] at hl HT8
    have A4E := Lib.hid hA
    have HA4 := Lib.hid (show A4.1.length ≤ 160 ∧ A4.2.length ≤ 2 from ⟨by have := HA3.out; omega, hl.2⟩)
    clear hA hl
    clear k0 k1 e0 e1 z0 z1 HT4 HZ4 HTd HZ7 HT7
    have z2 := HT8.out.bo.c2
    go_wp2_with fail
    with_reducible refine (TX.go HT8.out _ (p := t3) (by have := HA4.out; omega) HA4.out.2 (by have := HL3.out; omega)).mono ?_
    rintro e w9 ⟨rfl, hT9, hc9⟩
    have HT9 := Lib.hid hT9
    have HZ9 := Lib.hid (ch_own HZ8.out hc9 (by have := HLo.out; simp; omega))
    have z3 := hT9.t
    have htx : (pp false t3 (pp u4 t4 (pp u2 r2 (pp false t3 A1)))).1 = tx := HE.out
    rw [A2E.out, A3E.out, A4E.out] at htx
    have HTX := Lib.hid htx
    clear hT9 hc9 z2 htx
    go_wp2
    go_ret
    exact ⟨by rw [← HTX.out]; rfl, HZ9.out⟩
  · have z2 := HT5.out.bo.c2
    go_wp2_with fail
    with_reducible refine (TX.go HT5.out false (p := t3) (by have := HA1.out; omega) HA1.out.2 (by have := HL3.out; omega)).mono ?_
    rintro e w5 ⟨rfl, hT6, hc6⟩
    have HT6 := Lib.hid hT6
    have HZ6 := Lib.hid (ch_own HZ5.out hc6 (by have := HLo.out; simp; omega))
    clear hT6 hc6 z2
    obtain ⟨A2, hA⟩ : ∃ A, pp false t3 A1 = A := ⟨_, rfl⟩
    have hl := pp_len false (A := A1) HA1.out.2 (p := t3) (by have := HL3.out; omega)
    rw [hA] at hl HT6
    have A2E := Lib.hid hA
    have HA2 := Lib.hid (show A2.1.length ≤ 80 ∧ A2.2.length ≤ 2 from ⟨by have := HA1.out; omega, hl.2⟩)
    clear hA hl
    have HTd := Lib.hid (HT6.out.quiet (Ch.refl [] _).drew)
    have k0 := HT6.out.bo.c1
    have k1 := HT6.out.five.c2
    simp only at k1
    go_wp2_with fail
    go_region_held3 (fun w' => w'.cell? ⟨U, 1, none⟩ = some (.bool u2) ∧ w'.cell? ⟨w.heap.size, 2, none⟩ = some (.int .i64 s)) (go_keep) (first
      | (go_at_call 31; with_reducible refine (HI2.out _ HTd.out.tb).mono ?_; rintro e w7a ⟨rfl, hc3⟩; have HT4 := Lib.hid (HTd.out.quiet hc3); have HZ4 := Lib.hid (HZ6.out.drew.trans hc3); have e0 := HT4.out.bo.c1; have e1 := HT4.out.five.c2; simp only at e1; clear hc3)
      | (go_at_call 30; with_reducible refine (TX.go HT4.out u2 (p := r2) (by have := HA2.out; omega) HA2.out.2 HR2.out).mono ?_; rintro e w7 ⟨rfl, hT5, hc5⟩; have HT7 := Lib.hid hT5; have HZ7 := Lib.hid (ch_own HZ4.out hc5 (by have := HLo.out; simp; omega)); have z0 := HT7.out.bo.c1; have z1 := HT7.out.five.c2; simp only at z1; clear hT5 hc5)
      | fail)
    obtain ⟨A3, hA⟩ : ∃ A, pp u2 r2 A2 = A := ⟨_, rfl⟩
    have hl := pp_len u2 (A := A2) HA2.out.2 (p := r2) HR2.out
    rw [hA] at hl HT7
    have A3E := Lib.hid hA
    have HA3 := Lib.hid (show A3.1.length ≤ 120 ∧ A3.2.length ≤ 2 from ⟨by have := HA2.out; omega, hl.2⟩)
    clear hA hl
    clear k0 k1 e0 e1 z0 z1 HT4 HZ4 HTd HZ6 HT6
    have HTd := Lib.hid (HT7.out.quiet (Ch.refl [] _).drew)
    have k0 := HT7.out.bo.c3
    have k1 := HT7.out.five.c4
    simp only at k1
    go_wp2_with fail
    go_region_held3 (fun w' => w'.cell? ⟨U, 3, none⟩ = some (.bool u4) ∧ w'.cell? ⟨w.heap.size, 4, none⟩ = some (.int .i64 i)) (go_keep) (first
      | (go_at_call 31; with_reducible refine (HI4.out _ HTd.out.tb).mono ?_; rintro e w8a ⟨rfl, hc3⟩; have HT4 := Lib.hid (HTd.out.quiet hc3); have HZ4 := Lib.hid (HZ7.out.drew.trans hc3); have e0 := HT4.out.bo.c3; have e1 := HT4.out.five.c4; simp only at e1; clear hc3)
      | (go_at_call 30; with_reducible refine (TX.go HT4.out u4 (p := t4) (by have := HA3.out; omega) HA3.out.2 (by have := HL4.out; omega)).mono ?_; rintro e w8 ⟨rfl, hT5, hc5⟩; have HT8 := Lib.hid hT5; have HZ8 := Lib.hid (ch_own HZ4.out hc5 (by have := HLo.out; simp; omega)); have z0 := HT8.out.bo.c3; have z1 := HT8.out.five.c4; simp only at z1; clear hT5 hc5)
      | fail)
    obtain ⟨A4, hA⟩ : ∃ A, pp u4 t4 A3 = A := ⟨_, rfl⟩
    have hl := pp_len u4 (A := A3) HA3.out.2 (p := t4) (by have := HL4.out; omega)
    rw [hA] at hl HT8
    have A4E := Lib.hid hA
    have HA4 := Lib.hid (show A4.1.length ≤ 160 ∧ A4.2.length ≤ 2 from ⟨by have := HA3.out; omega, hl.2⟩)
    clear hA hl
    clear k0 k1 e0 e1 z0 z1 HT4 HZ4 HTd HZ7 HT7
    have z2 := HT8.out.bo.c2
    go_wp2_with fail
    with_reducible refine (TX.go HT8.out _ (p := t3) (by have := HA4.out; omega) HA4.out.2 (by have := HL3.out; omega)).mono ?_
    rintro e w9 ⟨rfl, hT9, hc9⟩
    have HT9 := Lib.hid hT9
    have HZ9 := Lib.hid (ch_own HZ8.out hc9 (by have := HLo.out; simp; omega))
    have z3 := hT9.t
    have htx : (pp true t3 (pp u4 t4 (pp u2 r2 (pp false t3 A1)))).1 = tx := HE.out
    rw [A2E.out, A3E.out, A4E.out] at htx
    have HTX := Lib.hid htx
    clear hT9 hc9 z2 htx
    go_wp2
    go_ret
    exact ⟨by rw [← HTX.out]; rfl, HZ9.out⟩
  · have z2 := HT5.out.bo.c2
    go_wp2_with fail
    with_reducible refine (TX.go HT5.out true (p := t3) (by have := HA1.out; omega) HA1.out.2 (by have := HL3.out; omega)).mono ?_
    rintro e w5 ⟨rfl, hT6, hc6⟩
    have HT6 := Lib.hid hT6
    have HZ6 := Lib.hid (ch_own HZ5.out hc6 (by have := HLo.out; simp; omega))
    clear hT6 hc6 z2
    obtain ⟨A2, hA⟩ : ∃ A, pp true t3 A1 = A := ⟨_, rfl⟩
    have hl := pp_len true (A := A1) HA1.out.2 (p := t3) (by have := HL3.out; omega)
    rw [hA] at hl HT6
    have A2E := Lib.hid hA
    have HA2 := Lib.hid (show A2.1.length ≤ 80 ∧ A2.2.length ≤ 2 from ⟨by have := HA1.out; omega, hl.2⟩)
    clear hA hl
    have HTd := Lib.hid (HT6.out.quiet (Ch.refl [] _).drew)
    have k0 := HT6.out.bo.c1
    have k1 := HT6.out.five.c2
    simp only at k1
    go_wp2_with fail
    go_region_held3 (fun w' => w'.cell? ⟨U, 1, none⟩ = some (.bool u2) ∧ w'.cell? ⟨w.heap.size, 2, none⟩ = some (.int .i64 s)) (go_keep) (first
      | (go_at_call 31; with_reducible refine (HI2.out _ HTd.out.tb).mono ?_; rintro e w7a ⟨rfl, hc3⟩; have HT4 := Lib.hid (HTd.out.quiet hc3); have HZ4 := Lib.hid (HZ6.out.drew.trans hc3); have e0 := HT4.out.bo.c1; have e1 := HT4.out.five.c2; simp only at e1; clear hc3)
      | (go_at_call 30; with_reducible refine (TX.go HT4.out u2 (p := r2) (by have := HA2.out; omega) HA2.out.2 HR2.out).mono ?_; rintro e w7 ⟨rfl, hT5, hc5⟩; have HT7 := Lib.hid hT5; have HZ7 := Lib.hid (ch_own HZ4.out hc5 (by have := HLo.out; simp; omega)); have z0 := HT7.out.bo.c1; have z1 := HT7.out.five.c2; simp only at z1; clear hT5 hc5)
      | fail)
    obtain ⟨A3, hA⟩ : ∃ A, pp u2 r2 A2 = A := ⟨_, rfl⟩
    have hl := pp_len u2 (A := A2) HA2.out.2 (p := r2) HR2.out
    rw [hA] at hl HT7
    have A3E := Lib.hid hA
    have HA3 := Lib.hid (show A3.1.length ≤ 120 ∧ A3.2.length ≤ 2 from ⟨by have := HA2.out; omega, hl.2⟩)
    clear hA hl
    clear k0 k1 e0 e1 z0 z1 HT4 HZ4 HTd HZ6 HT6
    have HTd := Lib.hid (HT7.out.quiet (Ch.refl [] _).drew)
    have k0 := HT7.out.bo.c3
    have k1 := HT7.out.five.c4
    simp only at k1
    go_wp2_with fail
    go_region_held3 (fun w' => w'.cell? ⟨U, 3, none⟩ = some (.bool u4) ∧ w'.cell? ⟨w.heap.size, 4, none⟩ = some (.int .i64 i)) (go_keep) (first
      | (go_at_call 31; with_reducible refine (HI4.out _ HTd.out.tb).mono ?_; rintro e w8a ⟨rfl, hc3⟩; have HT4 := Lib.hid (HTd.out.quiet hc3); have HZ4 := Lib.hid (HZ7.out.drew.trans hc3); have e0 := HT4.out.bo.c3; have e1 := HT4.out.five.c4; simp only at e1; clear hc3)
      | (go_at_call 30; with_reducible refine (TX.go HT4.out u4 (p := t4) (by have := HA3.out; omega) HA3.out.2 (by have := HL4.out; omega)).mono ?_; rintro e w8 ⟨rfl, hT5, hc5⟩; have HT8 := Lib.hid hT5; have HZ8 := Lib.hid (ch_own HZ4.out hc5 (by have := HLo.out; simp; omega)); have z0 := HT8.out.bo.c3; have z1 := HT8.out.five.c4; simp only at z1; clear hT5 hc5)
      | fail)
    obtain ⟨A4, hA⟩ : ∃ A, pp u4 t4 A3 = A := ⟨_, rfl⟩
    have hl := pp_len u4 (A := A3) HA3.out.2 (p := t4) (by have := HL4.out; omega)
    rw [hA] at hl HT8
    have A4E := Lib.hid hA
    have HA4 := Lib.hid (show A4.1.length ≤ 160 ∧ A4.2.length ≤ 2 from ⟨by have := HA3.out; omega, hl.2⟩)
    clear hA hl
    clear k0 k1 e0 e1 z0 z1 HT4 HZ4 HTd HZ7 HT7
    have z2 := HT8.out.bo.c2
    go_wp2_with fail
    with_reducible refine (TX.go HT8.out _ (p := t3) (by have := HA4.out; omega) HA4.out.2 (by have := HL3.out; omega)).mono ?_
    rintro e w9 ⟨rfl, hT9, hc9⟩
    have HT9 := Lib.hid hT9
    have HZ9 := Lib.hid (ch_own HZ8.out hc9 (by have := HLo.out; simp; omega))
    have z3 := hT9.t
    have htx : (pp false t3 (pp u4 t4 (pp u2 r2 (pp true t3 A1)))).1 = tx := HE.out
    rw [A2E.out, A3E.out, A4E.out] at htx
    have HTX := Lib.hid htx
    clear hT9 hc9 z2 htx
    go_wp2
    go_ret
    exact ⟨by rw [← HTX.out]; rfl, HZ9.out⟩
end Go.Proofs.YtgldkalagmjkfaaDoor
