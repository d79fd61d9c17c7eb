/-
  The document's wrong.
-/
import Derived.Deep.CutBlock
import Derived.Test.YtadogffllkompaaDoorCkL
namespace Go.Proofs.YtadogffllkompaaDoor
open Go.RowKit

attribute [local go_sem] Oper.semAt_some

/-- What is wrong with an instruction that leads to a word, or to an instruction. -/
def wrgT (n : Nat) (sl : Bool) (x : I5) (a : Nat) : Int := if x.op = 72 ∧ hlp x.i = false then 4 else if x.op = 72 ∧ x.i = 16 ∧ sl = false then 17 else if a + 1 = n ∧ x.op ≠ 73 ∧ x.op ≠ 32 then 10 else 0
theorem wrg_split (n : Nat) (sl : Bool) (x : I5) (a : Nat) : wrg n sl x a = if astr n x a = true then 2 else wrgT n sl x a := rfl

set_option maxRecDepth 10000 in
set_option maxHeartbeats 16000000 in
theorem rwrong_tail {n cap b off k Bx : Nat} {sl : Bool} {x : I5} (hn : n ≤ 1000) (_ : k < n) (hfit : fit x.i) {w W : World} (hF : Five W Bx x) (hC : Ch [] w W) {u8 u9 u10 u11 u15 u16 u17 u18 u19 u20 u21 u22 u23 u24 u25 u26 u27 u28 u29 u30 u31 u32 u33 u34 u35 u36 u37 u38 u39 u40 u41 u42 u43 u44 u45 u46 u47 u48 u49 u50 u51 u52 u53 u54 u55 u56 u57 u58 u59 u60 u61 u62 u63 u64 u65 u66 : Value} :
    Code.wp Tryd.prog (codeOf [1, 1, 1, 1, 1, 1, 1] (Tryd.f31.body.getD .skip)) (bodyPost Tryd.prog Tryd.f31 fun e w' => e = .returned (.int .i64 (wrgT n sl x k)) ∧ Ch [] w w')
      { tmps := #[.slice (some ⟨b, off, none⟩) n cap, .bool sl, .int .i64 (k : Int), undef, undef, undef, .int .i64 0, .pointer (some ⟨Bx, 0, none⟩), u8, u9, u10, u11, undef, undef, undef, u15, u16, u17, u18, u19, u20, u21, u22, u23, u24, u25, u26, u27, u28, u29, u30, u31, u32, u33, u34, u35, u36, u37, u38, u39, u40, u41, u42, u43, u44, u45, u46, u47, u48, u49, u50, u51, u52, u53, u54, u55, u56, u57, u58, u59, u60, u61, u62, u63, u64, u65, u66, undef, undef, undef, undef, undef, undef, undef, undef, undef, undef, undef, undef, undef, undef, undef, undef, undef, undef, undef, undef, undef, undef, undef, undef, undef, undef, undef, undef, undef, undef, undef, undef, undef, undef, undef, undef, undef, undef, undef, undef, undef], defers := [] } W := by
  obtain ⟨r, hr⟩ : ∃ r, r = wrgT n sl x k := ⟨_, rfl⟩
  rw [← hr]
  unfold wrgT at hr
  have HRr := Lib.hid hr
  have HF := Lib.hid hF
  have HC := Lib.hid hC
  have HH := Lib.hid (fun W => rhelp_any hfit W)
  unfold hV at HH
  have hlst : IntKind.i64.wrap ((n : Int) - 1) = (n : Int) - 1 := by rw [IntKind.wrap_i64]; omega
  have a4 := hF.c4
  obtain ⟨op, d, s, o, i⟩ := x
  simp only at *
  clear hr hF hC hfit
  simp only [codeOf, Tryd.f31, Option.getD_some]
  refine wp_seq_k (fun K0 hK0 => ?_)
  have HK0 := Lib.hid hK0
  clear hK0
  go_wp2_with fail
  with_reducible refine (HH.out _).mono ?_
  rintro e W2 ⟨rfl, hc2⟩
  have HF2 := Lib.hid (HF.out.ch hc2 (by simp))
  have HC3 := Lib.hid (HC.out.trans hc2)
  clear hc2 HH HF HC a4
  go_wp2_with fail
  refine HK0.out _ _ ?_
  clear HK0
  obtain ⟨a0, a1, a2, a3, a4⟩ := HF2.out
  simp only at a0 a1 a2 a3 a4
  by_cases h72 : op = 72
  · subst h72
    cases hh : hlp i with
    | false =>
      have HHh := Lib.hid hh
      clear hh
      go_wp2_with fail
      go_ret
      refine ⟨congrArg (fun z => Ending.returned (.int .i64 z)) ?_, HC3.out⟩
      show (4 : Int) = _
      rw [HRr.out]
      simp [HHh.out]
    | true =>
      have HHh := Lib.hid hh
      clear hh
      by_cases h16 : i = 16
      · subst h16
        cases sl with
        | false =>
          go_wp2_with fail
          go_ret
          refine ⟨congrArg (fun z => Ending.returned (.int .i64 z)) ?_, HC3.out⟩
          show (17 : Int) = _
          rw [HRr.out]
          simp [HHh.out]
        | true =>
          by_cases hl : k + 1 = n
          · have elb : ((k : Int) == (n : Int) - 1) = true := by simp; omega
            have HL := Lib.hid hl
            clear hl
            go_wp2_with fail
            go_ret
            refine ⟨congrArg (fun z => Ending.returned (.int .i64 z)) ?_, HC3.out⟩
            show (10 : Int) = _
            rw [HRr.out]
            simp [HHh.out, HL.out]
          · have elb : ((k : Int) == (n : Int) - 1) = false := by simp; omega
            have HL := Lib.hid hl
            clear hl
            go_wp2_with fail
            go_ret
            refine ⟨congrArg (fun z => Ending.returned (.int .i64 z)) ?_, HC3.out⟩
            show (0 : Int) = _
            rw [HRr.out]
            simp [HHh.out, HL.out]
      · have e16 : (i == 16) = false := by simpa using h16
        have H16 := Lib.hid h16
        clear h16
        by_cases hl : k + 1 = n
        · have elb : ((k : Int) == (n : Int) - 1) = true := by simp; omega
          have HL := Lib.hid hl
          clear hl
          go_wp2_with fail
          go_ret
          refine ⟨congrArg (fun z => Ending.returned (.int .i64 z)) ?_, HC3.out⟩
          show (10 : Int) = _
          rw [HRr.out]
          simp [HHh.out, H16.out, HL.out]
        · have elb : ((k : Int) == (n : Int) - 1) = false := by simp; omega
          have HL := Lib.hid hl
          clear hl
          go_wp2_with fail
          go_ret
          refine ⟨congrArg (fun z => Ending.returned (.int .i64 z)) ?_, HC3.out⟩
          show (0 : Int) = _
          rw [HRr.out]
          simp [HHh.out, H16.out, HL.out]
  · have e72 : (op == 72) = false := by simpa using h72
    have H72 := Lib.hid h72
    clear h72
    by_cases hl : k + 1 = n
    · have elb : ((k : Int) == (n : Int) - 1) = true := by simp; omega
      have HL := Lib.hid hl
      clear hl
      by_cases h73 : op = 73
      · subst h73
        go_wp2_with fail
        go_ret
        refine ⟨congrArg (fun z => Ending.returned (.int .i64 z)) ?_, HC3.out⟩
        show (0 : Int) = _
        rw [HRr.out]
        simp [H72.out, HL.out]
      · have e73 : (op != 73) = true := by simpa using h73
        by_cases h32 : op = 32
        · subst h32
          go_wp2_with fail
          go_ret
          refine ⟨congrArg (fun z => Ending.returned (.int .i64 z)) ?_, HC3.out⟩
          show (0 : Int) = _
          rw [HRr.out]
          simp [H72.out, HL.out]
        · have e32 : (op != 32) = true := by simpa using h32
          have H73 := Lib.hid h73
          have H32 := Lib.hid h32
          clear h73 h32
          go_wp2_with fail
          go_ret
          refine ⟨congrArg (fun z => Ending.returned (.int .i64 z)) ?_, HC3.out⟩
          show (10 : Int) = _
          rw [HRr.out]
          simp [H72.out, HL.out, H73.out, H32.out]
    · have elb : ((k : Int) == (n : Int) - 1) = false := by simp; omega
      have HL := Lib.hid hl
      clear hl
      go_wp2_with fail
      go_ret
      refine ⟨congrArg (fun z => Ending.returned (.int .i64 z)) ?_, HC3.out⟩
      show (0 : Int) = _
      rw [HRr.out]
      simp [H72.out, HL.out]
set_option maxRecDepth 10000 in
set_option maxHeartbeats 16000000 in
theorem rwrong_any {n cap b off : Nat} {L : List I5} (sl : Bool) (k : Nat) (hL : L.length = n) (hn : n ≤ 1000) (hk : k < n) (hfit : Fit (ia L k)) {w : World} (hI : ∀ i (hi : i < L.length), FiveO w b (off + i * 5) L[i]) :
    Calls Tryd.prog 31 #[.slice (some ⟨b, off, none⟩) n cap, .bool sl, .int .i64 (k : Int)] w fun e w' => e = .returned (.int .i64 (wrg n sl (ia L k) k)) ∧ Ch [] w w' := by
  rw [wrg_split]
  unfold astr
  obtain ⟨c0, c1, c2, c3, c4⟩ := InsAt.at hI (k := k) (by omega)
  have hkn : (k : Int) < (n : Int) := by omega
  have hk1000 : (k : Int) < 1000 := by omega
  have HTl := Lib.hid (fun (Bx : Nat) (W : World) (hF : Five W Bx (ia L k)) (hC : Ch [] w W) (u8 u9 u10 u11 u15 u16 u17 u18 u19 u20 u21 u22 u23 u24 u25 u26 u27 u28 u29 u30 u31 u32 u33 u34 u35 u36 u37 u38 u39 u40 u41 u42 u43 u44 u45 u46 u47 u48 u49 u50 u51 u52 u53 u54 u55 u56 u57 u58 u59 u60 u61 u62 u63 u64 u65 u66 : Value) => rwrong_tail (b := b) (off := off) (cap := cap) (sl := sl) hn hk hfit.i hF hC (u8 := u8) (u9 := u9) (u10 := u10) (u11 := u11) (u15 := u15) (u16 := u16) (u17 := u17) (u18 := u18) (u19 := u19) (u20 := u20) (u21 := u21) (u22 := u22) (u23 := u23) (u24 := u24) (u25 := u25) (u26 := u26) (u27 := u27) (u28 := u28) (u29 := u29) (u30 := u30) (u31 := u31) (u32 := u32) (u33 := u33) (u34 := u34) (u35 := u35) (u36 := u36) (u37 := u37) (u38 := u38) (u39 := u39) (u40 := u40) (u41 := u41) (u42 := u42) (u43 := u43) (u44 := u44) (u45 := u45) (u46 := u46) (u47 := u47) (u48 := u48) (u49 := u49) (u50 := u50) (u51 := u51) (u52 := u52) (u53 := u53) (u54 := u54) (u55 := u55) (u56 := u56) (u57 := u57) (u58 := u58) (u59 := u59) (u60 := u60) (u61 := u61) (u62 := u62) (u63 := u63) (u64 := u64) (u65 := u65) (u66 := u66))
  have HK := Lib.hid (fun w => kind_any (ia L k).op w)
  unfold kindR at HK
  have hw1 : IntKind.i64.wrap ((k : Int) + 1) = (k : Int) + 1 := by rw [IntKind.wrap_i64]; omega
  obtain ⟨t, ht⟩ : ∃ t, tg (k : Int) (ia L k).o = t := ⟨_, rfl⟩
  have hw2 : IntKind.i64.wrap ((k : Int) + 1 + (ia L k).o) = t := by
    rw [← ht]; unfold tg
    rw [show wrap64 ((k : Int) + 1) = (k : Int) + 1 by unfold wrap64; omega, IntKind.wrap_i64]
    unfold wrap64; omega
  rw [ht]
  generalize wrgT n sl (ia L k) k = rt at *
  generalize nm (ia L k).op = l1 at *
  generalize shp (ia L k).op = l2 at *
  obtain ⟨cl, hcl⟩ : ∃ c, cls (ia L k).op = c := ⟨_, rfl⟩
  rw [hcl] at HK ⊢
  have HCls := Lib.hid (show cl = 3 → (ia L k).op ≠ 66 → (ia L k).op ≠ 67 → (ia L k).op = 64 ∨ (ia L k).op = 65 from fun h h1 h2 => by rw [← hcl] at h; unfold cls at h; repeat' split at h; all_goals omega)
  clear hcl ht hI hfit hL
  generalize ia L k = x at *
  obtain ⟨op, d, s, o, i⟩ := x
  simp only at *
  have HF := Lib.hid (Five.new w ⟨op, d, s, o, i⟩ 35)
  have HC1 := Lib.hid ((Ch.refl [] w).alloc (.cells #[.int .i64 op, .int .i64 d, .int .i64 s, .int .i64 o, .int .i64 i] 35))
  obtain ⟨r, hr⟩ : ∃ r, (if (if cl = 2 then !inn n t else if cl = 3 then decide (o < 0) || decide ((if op = 64 ∨ op = 65 then 8 else 4) ≤ o) else false) = true then 2 else rt) = r := ⟨_, rfl⟩
  rw [hr]
  have HRr := Lib.hid hr
  clear hr
  go_enter Tryd.func31, Tryd.ntmps31
  refine wp_seq_k (fun K0 hK0 => ?_)
  have HK0 := Lib.hid hK0
  clear hK0
  go_wp2
  refine HK0.out _ _ ?_
  clear HK0
  refine wp_seq_k (fun K0 hK0 => ?_)
  have HK0 := Lib.hid hK0
  clear hK0
  go_wp2
  refine HK0.out _ _ ?_
  clear HK0
  refine wp_seq_k (fun K0 hK0 => ?_)
  have HK0 := Lib.hid hK0
  clear hK0
  go_wp2_with fail
  with_reducible refine (HK.out _).mono ?_
  rintro e W2 ⟨rfl, hc2⟩
  have HF2 := Lib.hid (HF.out.ch hc2 (by simp))
  have HC2 := Lib.hid (HC1.out.trans hc2)
  clear hc2 HK HF HC1 c0 c1 c2 c3 c4
  go_wp2_with fail
  refine HK0.out _ _ ?_
  clear HK0
  refine wp_seq_k (fun K0 hK0 => ?_)
  have HK0 := Lib.hid hK0
  clear hK0
  go_wp2
  refine HK0.out _ _ ?_
  clear HK0
  obtain ⟨a0, a1, a2, a3, a4⟩ := HF2.out
  simp only at a0 a1 a2 a3 a4
  have HTg := Lib.hid (fun (u8 u9 u10 u11 u15 u16 u17 u18 u19 u20 u21 u22 u23 u24 u25 u26 u27 u28 u29 u30 u31 u32 u33 u34 u35 u36 u37 u38 u39 u40 u41 u42 u43 u44 u45 u46 u47 u48 u49 u50 u51 u52 u53 u54 u55 u56 u57 u58 u59 u60 u61 u62 u63 u64 u65 u66 : Value) => HTl.out _ _ HF2.out HC2.out u8 u9 u10 u11 u15 u16 u17 u18 u19 u20 u21 u22 u23 u24 u25 u26 u27 u28 u29 u30 u31 u32 u33 u34 u35 u36 u37 u38 u39 u40 u41 u42 u43 u44 u45 u46 u47 u48 u49 u50 u51 u52 u53 u54 u55 u56 u57 u58 u59 u60 u61 u62 u63 u64 u65 u66)
  clear HTl
  refine wp_seq_k (fun K0 hK0 => ?_)
  have HK0 := Lib.hid hK0
  clear hK0
  by_cases h3 : cl = 3
  · subst h3
    by_cases h66 : op = 66
    · subst h66
      go_wp2_with fail
      refine HK0.out _ _ ?_
      clear HK0
      refine wp_seq_k (fun K0 hK0 => ?_)
      have HK0 := Lib.hid hK0
      clear hK0
      by_cases ho : o < 0
      · have HO := Lib.hid ho
        go_wp2_with fail
        go_ret
        refine ⟨congrArg (fun z => Ending.returned (.int .i64 z)) ?_, HC2.out⟩
        show (2 : Int) = r
        rw [← HRr.out]
        simp [HO.out]
      · by_cases ho2 : 3 < o
        · have HO := Lib.hid ho2
          go_wp2_with fail
          go_ret
          refine ⟨congrArg (fun z => Ending.returned (.int .i64 z)) ?_, HC2.out⟩
          show (2 : Int) = r
          rw [← HRr.out]
          simp; omega
        · have HO := Lib.hid (And.intro ho ho2)
          go_wp2_with fail
          refine HK0.out _ _ ?_
          clear HK0
          refine wp_seq_k (fun K0 hK0 => ?_)
          have HK0 := Lib.hid hK0
          clear hK0
          go_wp2_with fail
          refine HK0.out _ _ ?_
          have hrr : rt = r := by rw [← HRr.out]; have := HO.out; simp; omega
          rw [← hrr]
          exact HTg.out _ _ _ _ _ _ _ _ _ _ _ _ _ _ _ _ _ _ _ _ _ _ _ _ _ _ _ _ _ _ _ _ _ _ _ _ _ _ _ _ _ _ _ _ _ _ _ _ _ _ _ _ _ _ _ _
    · by_cases h67 : op = 67
      · subst h67
        go_wp2_with fail
        refine HK0.out _ _ ?_
        clear HK0
        refine wp_seq_k (fun K0 hK0 => ?_)
        have HK0 := Lib.hid hK0
        clear hK0
        by_cases ho : o < 0
        · have HO := Lib.hid ho
          go_wp2_with fail
          go_ret
          refine ⟨congrArg (fun z => Ending.returned (.int .i64 z)) ?_, HC2.out⟩
          show (2 : Int) = r
          rw [← HRr.out]
          simp [HO.out]
        · by_cases ho2 : 3 < o
          · have HO := Lib.hid ho2
            go_wp2_with fail
            go_ret
            refine ⟨congrArg (fun z => Ending.returned (.int .i64 z)) ?_, HC2.out⟩
            show (2 : Int) = r
            rw [← HRr.out]
            simp; omega
          · have HO := Lib.hid (And.intro ho ho2)
            go_wp2_with fail
            refine HK0.out _ _ ?_
            clear HK0
            refine wp_seq_k (fun K0 hK0 => ?_)
            have HK0 := Lib.hid hK0
            clear hK0
            go_wp2_with fail
            refine HK0.out _ _ ?_
            have hrr : rt = r := by rw [← HRr.out]; have := HO.out; simp; omega
            rw [← hrr]
            exact HTg.out _ _ _ _ _ _ _ _ _ _ _ _ _ _ _ _ _ _ _ _ _ _ _ _ _ _ _ _ _ _ _ _ _ _ _ _ _ _ _ _ _ _ _ _ _ _ _ _ _ _ _ _ _ _ _ _
      · have e66 : (op == 66) = false := by simpa using h66
        have e67 : (op == 67) = false := by simpa using h67
        have H6 := Lib.hid (show op = 64 ∨ op = 65 from HCls.out rfl h66 h67)
        clear h66 h67
        go_wp2_with fail
        refine HK0.out _ _ ?_
        clear HK0
        refine wp_seq_k (fun K0 hK0 => ?_)
        have HK0 := Lib.hid hK0
        clear hK0
        by_cases ho : o < 0
        · have HO := Lib.hid ho
          go_wp2_with fail
          go_ret
          refine ⟨congrArg (fun z => Ending.returned (.int .i64 z)) ?_, HC2.out⟩
          show (2 : Int) = r
          rw [← HRr.out]
          simp [HO.out, H6.out]
        · by_cases ho2 : 7 < o
          · have HO := Lib.hid ho2
            go_wp2_with fail
            go_ret
            refine ⟨congrArg (fun z => Ending.returned (.int .i64 z)) ?_, HC2.out⟩
            show (2 : Int) = r
            rw [← HRr.out]
            simp [H6.out]; omega
          · have HO := Lib.hid (And.intro ho ho2)
            go_wp2_with fail
            refine HK0.out _ _ ?_
            clear HK0
            refine wp_seq_k (fun K0 hK0 => ?_)
            have HK0 := Lib.hid hK0
            clear hK0
            go_wp2_with fail
            refine HK0.out _ _ ?_
            have hrr : rt = r := by rw [← HRr.out]; have := HO.out; simp [H6.out]; omega
            rw [← hrr]
            exact HTg.out _ _ _ _ _ _ _ _ _ _ _ _ _ _ _ _ _ _ _ _ _ _ _ _ _ _ _ _ _ _ _ _ _ _ _ _ _ _ _ _ _ _ _ _ _ _ _ _ _ _ _ _ _ _ _ _
  · have e3 : (cl == 3) = false := by simpa using h3
    have H3 := Lib.hid h3
    clear h3
    have key : ∀ (m : Int) (v26 v27 v28 v29 v30 v31 v32 v33 : Value), True := fun _ _ _ _ _ _ _ _ _ => trivial
    clear key
    by_cases h66 : op = 66
    · subst h66
      go_wp2_with fail
      refine HK0.out _ _ ?_
      clear HK0
      refine wp_seq_k (fun K0 hK0 => ?_)
      have HK0 := Lib.hid hK0
      clear hK0
      go_wp2_with fail
      refine HK0.out _ _ ?_
      clear HK0
      refine wp_seq_k (fun K0 hK0 => ?_)
      have HK0 := Lib.hid hK0
      clear hK0
      by_cases h2 : cl = 2
      · subst h2
        by_cases hin : inn n t = true
        · have hin2 := hin
          unfold inn at hin2
          rw [decide_eq_true_eq] at hin2
          have t0 : ¬ t < 0 := by omega
          have t1 : ¬ (n : Int) ≤ t := by omega
          have HIn := Lib.hid hin
          clear hin hin2
          go_wp2_with fail
          refine HK0.out _ _ ?_
          have hrr : rt = r := by rw [← HRr.out]; simp [HIn.out]
          rw [← hrr]
          exact HTg.out _ _ _ _ _ _ _ _ _ _ _ _ _ _ _ _ _ _ _ _ _ _ _ _ _ _ _ _ _ _ _ _ _ _ _ _ _ _ _ _ _ _ _ _ _ _ _ _ _ _ _ _ _ _ _ _
        · have hin2 := hin
          unfold inn at hin2
          rw [decide_eq_true_eq] at hin2
          have HIn := Lib.hid hin
          clear hin
          by_cases t0 : t < 0
          · clear hin2
            go_wp2_with fail
            go_ret
            refine ⟨congrArg (fun z => Ending.returned (.int .i64 z)) ?_, HC2.out⟩
            show (2 : Int) = r
            rw [← HRr.out]
            simp [HIn.out]
          · have t1 : (n : Int) ≤ t := by omega
            clear hin2
            go_wp2_with fail
            go_ret
            refine ⟨congrArg (fun z => Ending.returned (.int .i64 z)) ?_, HC2.out⟩
            show (2 : Int) = r
            rw [← HRr.out]
            simp [HIn.out]
      · have e2 : (cl == 2) = false := by simpa using h2
        have H2 := Lib.hid h2
        clear h2
        go_wp2_with fail
        refine HK0.out _ _ ?_
        have hrr : rt = r := by rw [← HRr.out]; simp [H2.out, H3.out]
        rw [← hrr]
        exact HTg.out _ _ _ _ _ _ _ _ _ _ _ _ _ _ _ _ _ _ _ _ _ _ _ _ _ _ _ _ _ _ _ _ _ _ _ _ _ _ _ _ _ _ _ _ _ _ _ _ _ _ _ _ _ _ _ _
    · by_cases h67 : op = 67
      · subst h67
        go_wp2_with fail
        refine HK0.out _ _ ?_
        clear HK0
        refine wp_seq_k (fun K0 hK0 => ?_)
        have HK0 := Lib.hid hK0
        clear hK0
        go_wp2_with fail
        refine HK0.out _ _ ?_
        clear HK0
        refine wp_seq_k (fun K0 hK0 => ?_)
        have HK0 := Lib.hid hK0
        clear hK0
        by_cases h2 : cl = 2
        · subst h2
          by_cases hin : inn n t = true
          · have hin2 := hin
            unfold inn at hin2
            rw [decide_eq_true_eq] at hin2
            have t0 : ¬ t < 0 := by omega
            have t1 : ¬ (n : Int) ≤ t := by omega
            have HIn := Lib.hid hin
            clear hin hin2
            go_wp2_with fail
            refine HK0.out _ _ ?_
            have hrr : rt = r := by rw [← HRr.out]; simp [HIn.out]
            rw [← hrr]
            exact HTg.out _ _ _ _ _ _ _ _ _ _ _ _ _ _ _ _ _ _ _ _ _ _ _ _ _ _ _ _ _ _ _ _ _ _ _ _ _ _ _ _ _ _ _ _ _ _ _ _ _ _ _ _ _ _ _ _
          · have hin2 := hin
            unfold inn at hin2
            rw [decide_eq_true_eq] at hin2
            have HIn := Lib.hid hin
            clear hin
            by_cases t0 : t < 0
            · clear hin2
              go_wp2_with fail
              go_ret
              refine ⟨congrArg (fun z => Ending.returned (.int .i64 z)) ?_, HC2.out⟩
              show (2 : Int) = r
              rw [← HRr.out]
              simp [HIn.out]
            · have t1 : (n : Int) ≤ t := by omega
              clear hin2
              go_wp2_with fail
              go_ret
              refine ⟨congrArg (fun z => Ending.returned (.int .i64 z)) ?_, HC2.out⟩
              show (2 : Int) = r
              rw [← HRr.out]
              simp [HIn.out]
        · have e2 : (cl == 2) = false := by simpa using h2
          have H2 := Lib.hid h2
          clear h2
          go_wp2_with fail
          refine HK0.out _ _ ?_
          have hrr : rt = r := by rw [← HRr.out]; simp [H2.out, H3.out]
          rw [← hrr]
          exact HTg.out _ _ _ _ _ _ _ _ _ _ _ _ _ _ _ _ _ _ _ _ _ _ _ _ _ _ _ _ _ _ _ _ _ _ _ _ _ _ _ _ _ _ _ _ _ _ _ _ _ _ _ _ _ _ _ _
      · have e66 : (op == 66) = false := by simpa using h66
        have e67 : (op == 67) = false := by simpa using h67
        clear h66 h67
        go_wp2_with fail
        refine HK0.out _ _ ?_
        clear HK0
        refine wp_seq_k (fun K0 hK0 => ?_)
        have HK0 := Lib.hid hK0
        clear hK0
        go_wp2_with fail
        refine HK0.out _ _ ?_
        clear HK0
        refine wp_seq_k (fun K0 hK0 => ?_)
        have HK0 := Lib.hid hK0
        clear hK0
        by_cases h2 : cl = 2
        · subst h2
          by_cases hin : inn n t = true
          · have hin2 := hin
            unfold inn at hin2
            rw [decide_eq_true_eq] at hin2
            have t0 : ¬ t < 0 := by omega
            have t1 : ¬ (n : Int) ≤ t := by omega
            have HIn := Lib.hid hin
            clear hin hin2
            go_wp2_with fail
            refine HK0.out _ _ ?_
            have hrr : rt = r := by rw [← HRr.out]; simp [HIn.out]
            rw [← hrr]
            exact HTg.out _ _ _ _ _ _ _ _ _ _ _ _ _ _ _ _ _ _ _ _ _ _ _ _ _ _ _ _ _ _ _ _ _ _ _ _ _ _ _ _ _ _ _ _ _ _ _ _ _ _ _ _ _ _ _ _
          · have hin2 := hin
            unfold inn at hin2
            rw [decide_eq_true_eq] at hin2
            have HIn := Lib.hid hin
            clear hin
            by_cases t0 : t < 0
            · clear hin2
              go_wp2_with fail
              go_ret
              refine ⟨congrArg (fun z => Ending.returned (.int .i64 z)) ?_, HC2.out⟩
              show (2 : Int) = r
              rw [← HRr.out]
              simp [HIn.out]
            · have t1 : (n : Int) ≤ t := by omega
              clear hin2
              go_wp2_with fail
              go_ret
              refine ⟨congrArg (fun z => Ending.returned (.int .i64 z)) ?_, HC2.out⟩
              show (2 : Int) = r
              rw [← HRr.out]
              simp [HIn.out]
        · have e2 : (cl == 2) = false := by simpa using h2
          have H2 := Lib.hid h2
          clear h2
          go_wp2_with fail
          refine HK0.out _ _ ?_
          have hrr : rt = r := by rw [← HRr.out]; simp [H2.out, H3.out]
          rw [← hrr]
          exact HTg.out _ _ _ _ _ _ _ _ _ _ _ _ _ _ _ _ _ _ _ _ _ _ _ _ _ _ _ _ _ _ _ _ _ _ _ _ _ _ _ _ _ _ _ _ _ _ _ _ _ _ _ _ _ _ _ _
end Go.Proofs.YtadogffllkompaaDoor
