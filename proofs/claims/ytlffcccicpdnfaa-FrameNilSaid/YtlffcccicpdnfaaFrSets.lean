/-
  FrameSets: the law's walk. (Written by gen/sets18.py.)
-/
import Derived.Test.YtlffcccicpdnfaaFrT
namespace Go.Proofs.Ytlffcccicpdnfaa
open Go.RowKit Go.BigFrame

attribute [local go_sem] Oper.semAt_some

/-- Calls that came in. -/
def ActsAt (w : World) (a : Option Addr) (len : Nat) : Prop := len = 0 ∨ ∃ b off, a = some ⟨b, off, none⟩ ∧ ∀ i, i < len → ∃ S t x, A7 w b (off + i * 7) S t x

set_option maxRecDepth 20000 in
set_option maxHeartbeats 16000000 in
theorem sets_law {a0 : Option Addr} {n0 c0 : Nat} {w : World} (hA : ActsAt w a0 n0) :
    Calls Try.prog 3 #[.slice a0 n0 c0] w fun e w' => e = .returned (.bool true) ∧ Ch [] w w' := by
  have HA := Lib.hid hA
  have hN := new_any (w := w) (a := none) (n := 0) (cap := 0) (L := []) rfl (by decide) (.inl rfl) (fun _ _ => rfl)
  obtain ⟨b, hb⟩ : ∃ b, w.heap.size = b := ⟨_, rfl⟩
  rw [hb] at hN
  have HN := Lib.hid hN
  have HBl := Lib.hid hb
  have HKn := Lib.hid (fun W => known18 W)
  clear hA hN hb
  go_enter Try.func3, Try.ntmps3
  go_wp2_with fail
  with_reducible refine HN.out.mono ?_
  rintro e w1 ⟨rfl, hF1, hc1⟩
  have hz := z90b w1
  obtain ⟨R, hR⟩ : ∃ b, w1.heap.size = b := ⟨_, rfl⟩
  obtain ⟨w2, hw2⟩ : ∃ W, w1.alloc (.cells (fl F0).toArray 32) = W := ⟨_, rfl⟩
  have HF2 := Lib.hid (show FR w2 b F0 by rw [← hw2]; exact hF1.quiet ((Ch.refl [] w1).alloc _))
  have HR2 := Lib.hid (show FR w2 R F0 by rw [← hw2, ← hR]; exact FR.new w1 F0 _)
  have HC2 := Lib.hid (show Ch [] w w2 by rw [← hw2]; exact hc1.alloc _)
  have HBR := Lib.hid (show b ≠ R ∧ w.heap.size ≤ R from by have := hF1.lt; have := hc1.size; omega)
  have HRs := Lib.hid hR
  have HWs := Lib.hid hw2
  clear hF1 hc1 hR hw2 HN
  go_wp2_with fail
  rw [HRs.out, HWs.out]
  clear hz HRs HWs
  go_loopw [6] (fun i wr => ∃ (t : Nat) (F : FV), i = .int .i64 (t : Int) ∧ t ≤ n0 ∧ t ≤ 40 ∧ FR wr b F ∧ FR wr R F ∧ Ch [] w wr) (fun i _ => 40 - (intOf i).toNat)
  case atStart => exact ⟨0, _, rfl, Nat.zero_le _, by decide, HF2.out, HR2.out, HC2.out⟩
  case round =>
    obtain ⟨j, F, rfl, ht1, ht2, hF, hR, hc⟩ := hrel
    have HF := Lib.hid hF
    have HR := Lib.hid hR
    have HC := Lib.hid hc
    have hgo : (j < n0 ∧ j < 40) ∨ ¬ (j < n0 ∧ j < 40) := Decidable.em _
    rcases hgo with ⟨h1, h2⟩ | hgo
    · have h1' : (j : Int) < (n0 : Int) := by omega
      have h2' : (j : Int) < 40 := by omega
      have hjw : IntKind.i64.wrap ((j : Int) + 1) = ((j + 1 : Nat) : Int) := by rw [IntKind.wrap_i64]; omega
      rcases HA.out with h0 | ⟨ba, off, rfl, hcl⟩
      · exfalso; omega
      obtain ⟨S, t, x, hx⟩ := hcl j h1
      obtain ⟨q0, q1, q2, q3, q4, q5, q6⟩ := hx.ch hc (by simp)
      obtain ⟨T, hT⟩ : ∃ b, wr.heap.size = b := ⟨_, rfl⟩
      obtain ⟨w3, hw3⟩ : ∃ W, wr.alloc (.cells #[.bool S, .int .i64 t, .bool x.r, .int .i64 x.m, .int .i64 x.s, .int .i64 x.g, .int .u64 (x.n : Int)] 34) = W := ⟨_, rfl⟩
      have hal : Ch [] wr w3 := by rw [← hw3]; exact (Ch.refl [] wr).alloc _
      have HT3 := Lib.hid (show A7 w3 T 0 S t x by rw [← hw3, ← hT]; exact A7.new wr S t x _)
      have HF3 := Lib.hid (hF.quiet hal)
      have HR3 := Lib.hid (hR.quiet hal)
      have HC3 := Lib.hid (hc.trans hal)
      have HTn := Lib.hid (show T ≠ b ∧ T ≠ R ∧ w.heap.size ≤ T from by have := hF.lt; have := hR.lt; have := hc.size; omega)
      have HTs := Lib.hid hT
      have HWs := Lib.hid hw3
      obtain ⟨g0, g1, g2, g3, g4, g5, g6⟩ := HT3.out
      simp only [Nat.zero_add] at g1 g2 g3 g4 g5 g6
      rw [← hw3, ← hT] at g0 g1
      clear hcl hx hal hT hw3 hF hR hc h1 h2 g2 g3 g4 g5 g6 HF HR HC
      cases S
      · by_cases ht : 0 ≤ t ∧ t < 10
        · obtain ⟨k, rfl⟩ : ∃ k : Nat, t = (k : Int) := ⟨t.toNat, by omega⟩
          have hk : k < 10 := by omega
          have hk' : (k : Int) < 10 := by omega
          have hk0 : (0 : Int) ≤ (k : Int) := by omega
          have HRd := Lib.hid (reg_in HF3.out hk)
          generalize F k = y at *
          unfold vv at HRd
          clear ht
          go_wp2_with fail
          rw [HTs.out, HWs.out]
          with_reducible refine HRd.out.mono ?_
          rintro e w4 ⟨rfl, hc4⟩
          obtain ⟨V, hV⟩ : ∃ b, w4.heap.size = b := ⟨_, rfl⟩
          obtain ⟨w5, hw5⟩ : ∃ W, w4.alloc (.cells #[.bool y.r, .int .i64 y.m, .int .i64 y.s, .int .i64 y.g, .int .u64 (y.n : Int)] 38) = W := ⟨_, rfl⟩
          have hc5 : Ch [] w3 w5 := by rw [← hw5]; exact hc4.alloc _
          have HF5 := Lib.hid (HF3.out.quiet hc5)
          have HR5 := Lib.hid (HR3.out.quiet hc5)
          have HT5 := Lib.hid (HT3.out.ch hc5 (by simp))
          have HC5 := Lib.hid (HC3.out.trans hc5)
          have HVs := Lib.hid hV
          have HW5 := Lib.hid hw5
          clear hc4 hc5 hV hw5 g0 g1 q0 q1 q2 q3 q4 q5 q6 HRd HWs HTs HF3 HR3 HT3 HC3
          go_wp2_with fail
          rw [HVs.out, HW5.out]
          refine setr_in HF5.out hk HT5.out HTn.out.1 ?_
          intro x103 x104 x105 x106 x107 x108 x109 x110 x111 x112 x113 x114 x115 x116 x117 x118 x119 x120 x121 x122 x123 x124 x125 x126 x127 x128 x129 x130 x131 w6 h6
          obtain ⟨rfl, hF6, hc6⟩ := h6
          have HR6 := Lib.hid (HR5.out.ch hc6 (by have := HBR.out.1; simp; omega))
          have HC6 := Lib.hid (HC5.out.fresh hc6 (by have := HBl.out; simp; omega))
          have hk18 : (k : Int) < 18 := by omega
          obtain ⟨f0, f1, f2, f3, f4, f5, f6⟩ := HT5.out.ch hc6 (by have := HTn.out.1; simp; omega)
          simp only [Nat.zero_add] at f1 f2 f3 f4 f5 f6
          obtain ⟨r0, r1, r2, r3, r4⟩ := HR6.out.a k (by omega)
          have rf := HR6.out.fr
          obtain ⟨w8, hw8⟩ : ∃ W, st5 w6 R (k * 5) x = W := ⟨_, rfl⟩
          have HR8 := Lib.hid (show FR w8 R (upd F k x) by rw [← hw8]; exact HR6.out.set (by omega) x)
          have hc8 : Ch [R] w6 w8 := by rw [← hw8]; exact st5_ch w6 R _ x
          have hF8 : FR w8 b (upd F k x) := hF6.ch hc8 (by have := HBR.out.1; simp; omega)
          have HF8 := Lib.hid hF8
          have HC8 := Lib.hid (HC6.out.fresh hc8 (by have := HBR.out.2; simp; omega))
          have HSm := Lib.hid (same18 hF8)
          unfold st5 at hw8
          have HW8 := Lib.hid hw8
          clear hF6 hc6 hk hc8 hF8 hw8 HVs HW5 HF5 HR5 HT5 HC5 HR6 HC6
          simp only [Exit.then]
          go_wp2_with (first | ((with_reducible show wpList _ _ _ (Oper.mk _ (Op.load 32 _) _ _ _ _ :: _) _ _); rw [HW8.out]; refine wpList_readF rfl HR8.out (by rfl) (by rfl) ?_) | fail)
          with_reducible refine HSm.out.mono ?_
          rintro e w9 ⟨rfl, hc9⟩
          have HF9 := Lib.hid (HF8.out.quiet hc9)
          have HR9 := Lib.hid (HR8.out.quiet hc9)
          have HC9 := Lib.hid (HC8.out.trans hc9)
          clear hc9 r0 r1 r2 r3 r4 rf f0 f1 f2 f3 f4 f5 f6 HF8 HR8 HC8 HSm HW8
          go_wp2_with fail
          go_roundw
          case rel => exact ⟨j + 1, upd F k x, by go_num, by omega, by omega, HF9.out, HR9.out, HC9.out⟩
          case measure => simp [intOf]; omega
        · have hcond : t < 0 ∨ (0 ≤ t ∧ ¬ t < 10) := by omega
          have hto : t < 0 ∨ 10 ≤ t := by omega
          have HRd := Lib.hid (reg_out (w := w3) b hto)
          obtain ⟨z, hz⟩ : ∃ z, num 0 = z := ⟨_, rfl⟩
          have HZ0 := Lib.hid hz
          rw [hz] at HRd
          unfold vv at HRd
          clear ht hz
          rcases hcond with hneg | ⟨h0, h8⟩
          all_goals
            go_wp2_with fail
            rw [HTs.out, HWs.out]
            with_reducible refine HRd.out.mono ?_
            rintro e w4 ⟨rfl, hc4⟩
            obtain ⟨V, hV⟩ : ∃ b, w4.heap.size = b := ⟨_, rfl⟩
            obtain ⟨w5, hw5⟩ : ∃ W, w4.alloc (.cells #[.bool z.r, .int .i64 z.m, .int .i64 z.s, .int .i64 z.g, .int .u64 (z.n : Int)] 38) = W := ⟨_, rfl⟩
            have hc5 : Ch [] w3 w5 := by rw [← hw5]; exact hc4.alloc _
            have HV5 := Lib.hid (show B5 w5 V (num 0) by rw [← hw5, ← hV, HZ0.out]; exact B5.new w4 z _)
            have HF5 := Lib.hid (HF3.out.quiet hc5)
            have HR5 := Lib.hid (HR3.out.quiet hc5)
            have HT5 := Lib.hid (HT3.out.ch hc5 (by simp))
            have HC5 := Lib.hid (HC3.out.trans hc5)
            have HVs := Lib.hid hV
            have HW5 := Lib.hid hw5
            clear hc4 hc5 hV hw5 g0 g1 q0 q1 q2 q3 q4 q5 q6 HRd HWs HTs HF3 HR3 HT3 HC3
            go_wp2_with fail
            rw [HVs.out, HW5.out]
            refine setr_out hto HT5.out HV5.out ?_
            intro x103 x104 x105 x106 x107 x108 x109 x110 x111 x112 x113 x114 x115 x116 x117 x118 x119 x120 x121 x122 x123 x124 x125 x126 x127 x128 x129 x130 x131 w6 h6
            obtain ⟨rfl, hc6⟩ := h6
            have hF6 := HF5.out.quiet hc6
            have HF6 := Lib.hid hF6
            have HR6 := Lib.hid (HR5.out.quiet hc6)
            have HC6 := Lib.hid (HC5.out.trans hc6)
            have HSm := Lib.hid (same18 hF6)
            clear hF6 hc6 HVs HW5 HF5 HR5 HT5 HC5 HV5
            simp only [Exit.then]
            go_wp2_with (first | ((with_reducible show wpList _ _ _ (Oper.mk _ (Op.load 32 _) _ _ _ _ :: _) _ _); refine wpList_readF rfl HR6.out (by rfl) (by rfl) ?_) | fail)
            with_reducible refine HSm.out.mono ?_
            rintro e w9 ⟨rfl, hc9⟩
            have HF9 := Lib.hid (HF6.out.quiet hc9)
            have HR9 := Lib.hid (HR6.out.quiet hc9)
            have HC9 := Lib.hid (HC6.out.trans hc9)
            clear hc9 HF6 HR6 HC6 HSm
            go_wp2_with fail
            go_roundw
            case rel => exact ⟨j + 1, F, by go_num, by omega, by omega, HF9.out, HR9.out, HC9.out⟩
            case measure => simp [intOf]; omega
      · by_cases ht : 0 ≤ t ∧ t < 8
        · obtain ⟨k, rfl⟩ : ∃ k : Nat, t = (k : Int) := ⟨t.toNat, by omega⟩
          have hk : k < 8 := by omega
          have hk' : (k : Int) < 8 := by omega
          have hk0 : (0 : Int) ≤ (k : Int) := by omega
          have HRd := Lib.hid (word_in HF3.out hk)
          generalize F (10 + k) = y at *
          unfold vv at HRd
          clear ht
          go_wp2_with fail
          rw [HTs.out, HWs.out]
          with_reducible refine HRd.out.mono ?_
          rintro e w4 ⟨rfl, hc4⟩
          obtain ⟨V, hV⟩ : ∃ b, w4.heap.size = b := ⟨_, rfl⟩
          obtain ⟨w5, hw5⟩ : ∃ W, w4.alloc (.cells #[.bool y.r, .int .i64 y.m, .int .i64 y.s, .int .i64 y.g, .int .u64 (y.n : Int)] 38) = W := ⟨_, rfl⟩
          have hc5 : Ch [] w3 w5 := by rw [← hw5]; exact hc4.alloc _
          have HF5 := Lib.hid (HF3.out.quiet hc5)
          have HR5 := Lib.hid (HR3.out.quiet hc5)
          have HT5 := Lib.hid (HT3.out.ch hc5 (by simp))
          have HC5 := Lib.hid (HC3.out.trans hc5)
          have HVs := Lib.hid hV
          have HW5 := Lib.hid hw5
          clear hc4 hc5 hV hw5 g0 g1 q0 q1 q2 q3 q4 q5 q6 HRd HWs HTs HF3 HR3 HT3 HC3
          go_wp2_with fail
          rw [HVs.out, HW5.out]
          refine setw_in HF5.out hk HT5.out HTn.out.1 ?_
          intro x51 x52 x53 x54 x55 x56 x57 x58 x59 x60 x61 x62 x63 x64 x65 x66 x67 x68 x69 x70 x71 x72 x73 x74 x75 x76 x77 x78 x79 w6 h6
          obtain ⟨rfl, hF6, hc6⟩ := h6
          have HR6 := Lib.hid (HR5.out.ch hc6 (by have := HBR.out.1; simp; omega))
          have HC6 := Lib.hid (HC5.out.fresh hc6 (by have := HBl.out; simp; omega))
          obtain ⟨kk, hkk⟩ : ∃ kk, (10 + k) = kk := ⟨_, rfl⟩
          rw [hkk] at hF6
          have hk18 : (kk : Int) < 18 := by omega
          have hwr : IntKind.i64.wrap (10 + (k : Int)) = (kk : Int) := by rw [IntKind.wrap_i64]; omega
          obtain ⟨f0, f1, f2, f3, f4, f5, f6⟩ := HT5.out.ch hc6 (by have := HTn.out.1; simp; omega)
          simp only [Nat.zero_add] at f1 f2 f3 f4 f5 f6
          obtain ⟨r0, r1, r2, r3, r4⟩ := HR6.out.a kk (by omega)
          have rf := HR6.out.fr
          obtain ⟨w8, hw8⟩ : ∃ W, st5 w6 R (kk * 5) x = W := ⟨_, rfl⟩
          have HR8 := Lib.hid (show FR w8 R (upd F kk x) by rw [← hw8]; exact HR6.out.set (by omega) x)
          have hc8 : Ch [R] w6 w8 := by rw [← hw8]; exact st5_ch w6 R _ x
          have hF8 : FR w8 b (upd F kk x) := hF6.ch hc8 (by have := HBR.out.1; simp; omega)
          have HF8 := Lib.hid hF8
          have HC8 := Lib.hid (HC6.out.fresh hc8 (by have := HBR.out.2; simp; omega))
          have HSm := Lib.hid (same18 hF8)
          unfold st5 at hw8
          have HW8 := Lib.hid hw8
          clear hF6 hc6 hkk hk hc8 hF8 hw8 HVs HW5 HF5 HR5 HT5 HC5 HR6 HC6
          simp only [Exit.then]
          go_wp2_with (first | ((with_reducible show wpList _ _ _ (Oper.mk _ (Op.load 32 _) _ _ _ _ :: _) _ _); rw [HW8.out]; refine wpList_readF rfl HR8.out (by rfl) (by rfl) ?_) | fail)
          with_reducible refine HSm.out.mono ?_
          rintro e w9 ⟨rfl, hc9⟩
          have HF9 := Lib.hid (HF8.out.quiet hc9)
          have HR9 := Lib.hid (HR8.out.quiet hc9)
          have HC9 := Lib.hid (HC8.out.trans hc9)
          clear hc9 r0 r1 r2 r3 r4 rf f0 f1 f2 f3 f4 f5 f6 HF8 HR8 HC8 HSm HW8
          go_wp2_with fail
          go_roundw
          case rel => exact ⟨j + 1, upd F kk x, by go_num, by omega, by omega, HF9.out, HR9.out, HC9.out⟩
          case measure => simp [intOf]; omega
        · have hcond : t < 0 ∨ (0 ≤ t ∧ ¬ t < 8) := by omega
          have hto : t < 0 ∨ 8 ≤ t := by omega
          have HRd := Lib.hid (word_out (w := w3) b hto)
          obtain ⟨z, hz⟩ : ∃ z, num 0 = z := ⟨_, rfl⟩
          have HZ0 := Lib.hid hz
          rw [hz] at HRd
          unfold vv at HRd
          clear ht hz
          rcases hcond with hneg | ⟨h0, h8⟩
          all_goals
            go_wp2_with fail
            rw [HTs.out, HWs.out]
            with_reducible refine HRd.out.mono ?_
            rintro e w4 ⟨rfl, hc4⟩
            obtain ⟨V, hV⟩ : ∃ b, w4.heap.size = b := ⟨_, rfl⟩
            obtain ⟨w5, hw5⟩ : ∃ W, w4.alloc (.cells #[.bool z.r, .int .i64 z.m, .int .i64 z.s, .int .i64 z.g, .int .u64 (z.n : Int)] 38) = W := ⟨_, rfl⟩
            have hc5 : Ch [] w3 w5 := by rw [← hw5]; exact hc4.alloc _
            have HV5 := Lib.hid (show B5 w5 V (num 0) by rw [← hw5, ← hV, HZ0.out]; exact B5.new w4 z _)
            have HF5 := Lib.hid (HF3.out.quiet hc5)
            have HR5 := Lib.hid (HR3.out.quiet hc5)
            have HT5 := Lib.hid (HT3.out.ch hc5 (by simp))
            have HC5 := Lib.hid (HC3.out.trans hc5)
            have HVs := Lib.hid hV
            have HW5 := Lib.hid hw5
            clear hc4 hc5 hV hw5 g0 g1 q0 q1 q2 q3 q4 q5 q6 HRd HWs HTs HF3 HR3 HT3 HC3
            go_wp2_with fail
            rw [HVs.out, HW5.out]
            refine setw_out hto HT5.out HV5.out ?_
            intro x51 x52 x53 x54 x55 x56 x57 x58 x59 x60 x61 x62 x63 x64 x65 x66 x67 x68 x69 x70 x71 x72 x73 x74 x75 x76 x77 x78 x79 w6 h6
            obtain ⟨rfl, hc6⟩ := h6
            have hF6 := HF5.out.quiet hc6
            have HF6 := Lib.hid hF6
            have HR6 := Lib.hid (HR5.out.quiet hc6)
            have HC6 := Lib.hid (HC5.out.trans hc6)
            have HSm := Lib.hid (same18 hF6)
            clear hF6 hc6 HVs HW5 HF5 HR5 HT5 HC5 HV5
            simp only [Exit.then]
            go_wp2_with (first | ((with_reducible show wpList _ _ _ (Oper.mk _ (Op.load 32 _) _ _ _ _ :: _) _ _); refine wpList_readF rfl HR6.out (by rfl) (by rfl) ?_) | fail)
            with_reducible refine HSm.out.mono ?_
            rintro e w9 ⟨rfl, hc9⟩
            have HF9 := Lib.hid (HF6.out.quiet hc9)
            have HR9 := Lib.hid (HR6.out.quiet hc9)
            have HC9 := Lib.hid (HC6.out.trans hc9)
            clear hc9 HF6 HR6 HC6 HSm
            go_wp2_with fail
            go_roundw
            case rel => exact ⟨j + 1, F, by go_num, by omega, by omega, HF9.out, HR9.out, HC9.out⟩
            case measure => simp [intOf]; omega
    · have hcond : ((j : Int) < (n0 : Int) ∧ ¬ (j : Int) < 40) ∨ ¬ (j : Int) < (n0 : Int) := by
        by_cases h : (j : Int) < (n0 : Int)
        · exact .inl ⟨h, by omega⟩
        · exact .inr h
      clear hgo hF hR hc
      rcases hcond with ⟨h1, h2⟩ | h1
      all_goals
        go_wp2_with fail
        with_reducible refine (HKn.out _).mono ?_
        rintro e w6 ⟨rfl, hc6⟩
        have HZ := Lib.hid (HC.out.trans hc6)
        clear hc6
        go_wp2_with fail
        go_ret
        exact ⟨rfl, HZ.out⟩
end Go.Proofs.Ytlffcccicpdnfaa
