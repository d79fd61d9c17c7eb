/-
  Several texts in one: The program's astray, wrong. · The program's Check: its three looks, and the whole.
-/
import Derived.Deep.RegionHeld3
import Derived.Test.YtpbdmlipdfdblaaDoorMgD
import Derived.WalkMore
import Derived.Laws.EntriesVeiled
namespace Go.Proofs.YtpbdmlipdfdblaaDoor
open Go.RowKit Go.BigFrame

attribute [local go_sem] Oper.semAt_some

set_option maxHeartbeats 4000000 in
theorem astray_any {n cap b off : Nat} {L : List I5} (k : Nat) (hL : L.length = n) (hk : k < n) (hfit : Fit (ia L k)) {w : World} (hI : ∀ i (hi : i < L.length), FiveO w b (off + i * 5) L[i]) :
    Calls Tryd.prog 57 #[.slice (some ⟨b, off, none⟩) n cap, .int .i64 (k : Int)] w fun e w' => e = .returned (.bool (astr n (ia L k) k)) ∧ Ch [] w w' := by
  obtain ⟨c0, c1, c2, c3, c4⟩ := InsAt.at hI (k := k) (by omega)
  have hkn : (k : Int) < (n : Int) := by omega
  have HG := Lib.hid (fun w' (h : Ch [] w w') => target_any (cap := cap) (w := w') k hL hk (fun i hi => (hI i hi).ch h (by simp)))
  have HTh := Lib.hid (fun z W => there_any n cap (some ⟨b, off, none⟩) z W)
  have HCl := Lib.hid (fun w => class_any hfit.op.1 hfit.op.2 w)
  clear hI hfit
  unfold astr
  generalize tg (k : Int) (ia L k).o = t at *
  obtain ⟨cl, hcl⟩ : ∃ c, cls (ia L k).op = c := ⟨_, rfl⟩
  rw [hcl] at HCl ⊢
  have HCC := Lib.hid hcl
  clear hcl
  generalize ia L k = x at *
  obtain ⟨op, d, s, o, i⟩ := x
  simp only at *
  have HF := Lib.hid (Five.new w ⟨op, d, s, o, i⟩ 59)
  have HC1 := Lib.hid ((Ch.refl [] w).alloc (.cells #[.int .i64 op, .int .i64 d, .int .i64 s, .int .i64 o, .int .i64 i] 59))
  by_cases h2 : cl = 2
  · subst h2
    rw [if_pos rfl]
    have HGw := Lib.hid (HG.out _ HC1.out)
    have HTt := Lib.hid (fun W => HTh.out t W)
    generalize inn n t = r at *
    clear HG HTh
    go_enter Tryd.func57, Tryd.ntmps57
    go_wp2_with (first
      | (with_reducible refine (HCl.out _).mono ?_; rintro e w' ⟨rfl, rfl⟩)
      | (with_reducible refine HGw.out.mono ?_; rintro e w' ⟨rfl, rfl⟩)
      | (with_reducible refine (HTt.out _).mono ?_; rintro e w' ⟨rfl, rfl⟩)
      | fail)
    go_ret
    exact ⟨by cases r <;> rfl, HC1.out⟩
  · rw [if_neg h2]
    by_cases h3 : cl = 3
    · subst h3
      rw [if_pos rfl]
      obtain ⟨b1, hb1⟩ : ∃ b, decide (o < 0) = b := ⟨_, rfl⟩
      clear HG HTh
      by_cases h64 : op = 64 ∨ op = 65
      · rw [if_pos h64]
        obtain ⟨b2, hb2⟩ : ∃ b, decide ((8 : Int) ≤ o) = b := ⟨_, rfl⟩
        rw [hb1, hb2]
        rcases h64 with rfl | rfl
        all_goals
          cases b1 <;> cases b2
          all_goals
            go_enter Tryd.func57, Tryd.ntmps57
            go_wp2_with (first
              | (with_reducible refine (HCl.out _).mono ?_; rintro e w' ⟨rfl, rfl⟩)
              | fail)
            go_ret
            exact ⟨rfl, HC1.out⟩
      · rw [if_neg h64]
        obtain ⟨b2, hb2⟩ : ∃ b, decide ((4 : Int) ≤ o) = b := ⟨_, rfl⟩
        rw [hb1, hb2]
        have e64 : (op == 64) = false := by simp; omega
        have e65 : (op == 65) = false := by simp; omega
        clear h64
        cases b1 <;> cases b2
        all_goals
          go_enter Tryd.func57, Tryd.ntmps57
          go_wp2_with (first
            | (with_reducible refine (HCl.out _).mono ?_; rintro e w' ⟨rfl, rfl⟩)
            | fail)
          go_ret
          exact ⟨rfl, HC1.out⟩
    · rw [if_neg h3]
      have e2 : (cl == 2) = false := by simpa using h2
      have e3 : (cl == 3) = false := by simpa using h3
      clear HG HTh h2 h3
      go_enter Tryd.func57, Tryd.ntmps57
      go_wp2_with (first
        | (with_reducible refine (HCl.out _).mono ?_; rintro e w' ⟨rfl, rfl⟩)
        | fail)
      go_ret
      exact ⟨rfl, HC1.out⟩

set_option maxHeartbeats 16000000 in
theorem wrong_any {n cap b off : Nat} {L : List I5} (sl : Bool) (k : Nat) (hL : L.length = n) (hn : n ≤ 1000) (hk : k < n) (hfit : Fit (ia L k)) {w : World} (hI : ∀ i (hi : i < L.length), FiveO w b (off + i * 5) L[i]) (hT : Tb w) :
    Calls Tryd.prog 35 #[.agg #[.slice (some ⟨b, off, none⟩) n cap, .bool sl], .int .i64 (k : Int)] w fun e w' => e = .returned (.int .i64 (wrg n sl (ia L k) k)) ∧ Ch [] w w' := by
  have HT := Lib.hid hT
  have HI := Lib.hid hI
  have HAs := Lib.hid (fun w' (h : Ch [] w w') => astray_any (cap := cap) (w := w') k hL hk hfit (fun i hi => (hI i hi).ch h (by simp)))
  have HX := Lib.hid (Two.new w (.slice (some ⟨b, off, none⟩) n cap) (.bool sl) 27)
  have HC0 := Lib.hid ((Ch.refl [] w).alloc (.cells #[.slice (some ⟨b, off, none⟩) n cap, .bool sl] 27))
  have hf := InsAt.at hI (k := k) (by omega)
  have HFo := Lib.hid hf
  obtain ⟨w0, hw0⟩ : ∃ w0, w.alloc (.cells #[.slice (some ⟨b, off, none⟩) n cap, .bool sl] 27) = w0 := ⟨_, rfl⟩
  have HW0 := Lib.hid hw0
  rw [hw0] at HX HC0
  have hlst : IntKind.i64.wrap ((n : Int) - 1) = (n : Int) - 1 := by rw [IntKind.wrap_i64]; omega
  have hkn : (k : Int) < (n : Int) := by omega
  obtain ⟨r, hr⟩ : ∃ r, r = wrg n sl (ia L k) k := ⟨_, rfl⟩
  rw [← hr]
  unfold wrg at hr
  have HRr := Lib.hid hr
  clear hr
  generalize astr n (ia L k) k = ast at *
  generalize ia L k = x at *
  obtain ⟨op, d, s, o, i⟩ := x
  simp only at *
  clear hT hI hw0 hf hfit
  go_enter Tryd.func35, Tryd.ntmps35
  refine wp_seq_k (fun K0 hK0 => ?_)
  have HK0 := Lib.hid hK0
  clear hK0
  go_wp2
  refine HK0.out _ _ ?_
  clear HK0
  rw [HW0.out]
  refine wp_seq_k (fun K0 hK0 => ?_)
  have HK0 := Lib.hid hK0
  clear hK0
  have x0 := HX.out.c0
  have x1 := HX.out.c1
  have hcc := HFo.out.ch HC0.out (by simp)
  obtain ⟨c0, c1, c2, c3, c4⟩ := hcc
  simp only at c0 c1 c2 c3 c4
  have n1 : w0.heap.size ≠ w.heap.size := Nat.ne_of_gt (cell_lt x0)
  have n2 : w0.heap.size ≠ b := Nat.ne_of_gt (cell_lt c0)
  go_region_held (fun w' => w'.cell? ⟨w.heap.size, 0, none⟩ = some (.slice (some ⟨b, off, none⟩) n cap) ∧ w'.cell? ⟨b, off + k * 5, none⟩ = some (.int .i64 op) ∧ w'.cell? ⟨b, off + k * 5 + 1, none⟩ = some (.int .i64 d) ∧ w'.cell? ⟨b, off + k * 5 + 2, none⟩ = some (.int .i64 s) ∧ w'.cell? ⟨b, off + k * 5 + 3, none⟩ = some (.int .i64 o) ∧ w'.cell? ⟨b, off + k * 5 + 4, none⟩ = some (.int .i64 i)) (go_keep) (fail)
  simp only [Exit.then]
  refine HK0.out _ _ ?_
  clear HK0
  refine wp_seq_k (fun K0 hK0 => ?_)
  have HK0 := Lib.hid hK0
  clear hK0
  obtain ⟨W1, hW1⟩ : ∃ W1, (w0.alloc (.cells #[.int .i64 op, .int .i64 d, .int .i64 s, .int .i64 o, .int .i64 i] 59)).drew = W1 := ⟨_, rfl⟩
  have HC1 := Lib.hid (show Ch [] w0 W1 by rw [← hW1]; exact ((Ch.refl [] w0).alloc _).drew)
  have HF1 := Lib.hid (show Five W1 w0.heap.size ⟨op, d, s, o, i⟩ by rw [← hW1]; exact (Five.new w0 ⟨op, d, s, o, i⟩ 59).ch (Ch.refl [] _).drew (by simp))
  rw [hW1]
  have a4 := HF1.out.c4
  simp only at a4
  clear hW1 x0 x1 c0 c1 c2 c3 c4 n1 n2
  have HH := Lib.hid (help_any i (HT.out.ch (HC0.out.trans HC1.out)))
  unfold hV at HH
  go_wp2_with fail
  with_reducible refine HH.out.mono ?_
  rintro e W2 ⟨rfl, nd, hnd⟩
  have HC2 := Lib.hid (show Ch [] w0 W2 by rw [hnd]; exact HC1.out.drewN nd)
  have HF2 := Lib.hid (show Five W2 w0.heap.size ⟨op, d, s, o, i⟩ by rw [hnd]; exact HF1.out.ch ((Ch.refl [] _).drewN nd) (by simp))
  clear hnd HH HF1 HC1 a4
  go_wp2_with fail
  refine HK0.out _ _ ?_
  clear HK0
  have hx2 : W2.cell? ⟨w.heap.size, 0, none⟩ = some (.slice (some ⟨b, off, none⟩) n cap) := (HC2.out.cell (p := ⟨w.heap.size, 0, none⟩) (cell_lt HX.out.c0) (by simp)).trans HX.out.c0
  have HAw := Lib.hid (HAs.out W2 (HC0.out.trans HC2.out))
  clear HAs
  refine wp_seq_k (fun K0 hK0 => ?_)
  have HK0 := Lib.hid hK0
  clear hK0
  have HSt := Lib.hid (fun (w3 : World) (hc3 : Ch [] W2 w3) => And.intro (HF2.out.ch hc3 (by simp)) (And.intro ((hc3.cell (p := ⟨w.heap.size, 1, none⟩) (cell_lt ((HC2.out.cell (p := ⟨w.heap.size, 1, none⟩) (cell_lt HX.out.c1) (by simp)).trans HX.out.c1)) (by simp)).trans ((HC2.out.cell (p := ⟨w.heap.size, 1, none⟩) (cell_lt HX.out.c1) (by simp)).trans HX.out.c1)) ((HC0.out.trans HC2.out).trans hc3)))
  clear HX HFo HI HT
  cases ast with
  | true =>
    go_wp2_with (first
      | (with_reducible refine HAw.out.mono ?_; rintro e w3 ⟨rfl, hc3⟩; obtain ⟨hf3, a9, hc3⟩ := HSt.out w3 hc3; obtain ⟨a0, a1, a2, a3, a4⟩ := hf3; simp only at a0 a1 a2 a3 a4; have HC3 := Lib.hid hc3; clear hc3)
      | fail)
    go_ret
    refine ⟨congrArg (fun z => Ending.returned (.int .i64 z)) ?_, HC3.out⟩
    show (2 : Int) = _
    rw [HRr.out]
    simp []
  | false =>
    by_cases h72 : op = 72
    · subst h72
      cases hh : hlp i with
      | false =>
        have HHh := Lib.hid hh
        clear hh
        go_wp2_with (first
          | (with_reducible refine HAw.out.mono ?_; rintro e w3 ⟨rfl, hc3⟩; obtain ⟨hf3, a9, hc3⟩ := HSt.out w3 hc3; obtain ⟨a0, a1, a2, a3, a4⟩ := hf3; simp only at a0 a1 a2 a3 a4; have HC3 := Lib.hid hc3; clear hc3)
          | fail)
        go_ret
        refine ⟨congrArg (fun z => Ending.returned (.int .i64 z)) ?_, HC3.out⟩
        show (4 : Int) = _
        rw [HRr.out]
        simp [HHh.out]
      | true =>
        have HHh := Lib.hid hh
        clear hh
        by_cases h16 : i = 16
        · subst h16
          cases sl with
          | false =>
            go_wp2_with (first
              | (with_reducible refine HAw.out.mono ?_; rintro e w3 ⟨rfl, hc3⟩; obtain ⟨hf3, a9, hc3⟩ := HSt.out w3 hc3; obtain ⟨a0, a1, a2, a3, a4⟩ := hf3; simp only at a0 a1 a2 a3 a4; have HC3 := Lib.hid hc3; clear hc3)
              | fail)
            go_ret
            refine ⟨congrArg (fun z => Ending.returned (.int .i64 z)) ?_, HC3.out⟩
            show (17 : Int) = _
            rw [HRr.out]
            simp [HHh.out]
          | true =>
            by_cases hl : k + 1 = n
            · have elb : ((k : Int) == (n : Int) - 1) = true := by simp; omega
              have HL := Lib.hid hl
              clear hl
              go_wp2_with (first
                | (with_reducible refine HAw.out.mono ?_; rintro e w3 ⟨rfl, hc3⟩; obtain ⟨hf3, a9, hc3⟩ := HSt.out w3 hc3; obtain ⟨a0, a1, a2, a3, a4⟩ := hf3; simp only at a0 a1 a2 a3 a4; have HC3 := Lib.hid hc3; clear hc3)
                | fail)
              go_ret
              refine ⟨congrArg (fun z => Ending.returned (.int .i64 z)) ?_, HC3.out⟩
              show (10 : Int) = _
              rw [HRr.out]
              simp [HHh.out, HL.out]
            · have elb : ((k : Int) == (n : Int) - 1) = false := by simp; omega
              have HL := Lib.hid hl
              clear hl
              go_wp2_with (first
                | (with_reducible refine HAw.out.mono ?_; rintro e w3 ⟨rfl, hc3⟩; obtain ⟨hf3, a9, hc3⟩ := HSt.out w3 hc3; obtain ⟨a0, a1, a2, a3, a4⟩ := hf3; simp only at a0 a1 a2 a3 a4; have HC3 := Lib.hid hc3; clear hc3)
                | fail)
              refine HK0.out _ _ ?_
              go_wp2_with fail
              go_ret
              refine ⟨congrArg (fun z => Ending.returned (.int .i64 z)) ?_, HC3.out⟩
              show (0 : Int) = _
              rw [HRr.out]
              simp [HHh.out, HL.out]
        · have e16 : (i == 16) = false := by simpa using h16
          have H16 := Lib.hid h16
          clear h16
          by_cases hl : k + 1 = n
          · have elb : ((k : Int) == (n : Int) - 1) = true := by simp; omega
            have HL := Lib.hid hl
            clear hl
            go_wp2_with (first
              | (with_reducible refine HAw.out.mono ?_; rintro e w3 ⟨rfl, hc3⟩; obtain ⟨hf3, a9, hc3⟩ := HSt.out w3 hc3; obtain ⟨a0, a1, a2, a3, a4⟩ := hf3; simp only at a0 a1 a2 a3 a4; have HC3 := Lib.hid hc3; clear hc3)
              | fail)
            go_ret
            refine ⟨congrArg (fun z => Ending.returned (.int .i64 z)) ?_, HC3.out⟩
            show (10 : Int) = _
            rw [HRr.out]
            simp [HHh.out, H16.out, HL.out]
          · have elb : ((k : Int) == (n : Int) - 1) = false := by simp; omega
            have HL := Lib.hid hl
            clear hl
            go_wp2_with (first
              | (with_reducible refine HAw.out.mono ?_; rintro e w3 ⟨rfl, hc3⟩; obtain ⟨hf3, a9, hc3⟩ := HSt.out w3 hc3; obtain ⟨a0, a1, a2, a3, a4⟩ := hf3; simp only at a0 a1 a2 a3 a4; have HC3 := Lib.hid hc3; clear hc3)
              | fail)
            refine HK0.out _ _ ?_
            go_wp2_with fail
            go_ret
            refine ⟨congrArg (fun z => Ending.returned (.int .i64 z)) ?_, HC3.out⟩
            show (0 : Int) = _
            rw [HRr.out]
            simp [HHh.out, H16.out, HL.out]
    · have e72 : (op == 72) = false := by simpa using h72
      have H72 := Lib.hid h72
      clear h72
      by_cases hl : k + 1 = n
      · have elb : ((k : Int) == (n : Int) - 1) = true := by simp; omega
        have HL := Lib.hid hl
        clear hl
        by_cases h73 : op = 73
        · subst h73
          go_wp2_with (first
            | (with_reducible refine HAw.out.mono ?_; rintro e w3 ⟨rfl, hc3⟩; obtain ⟨hf3, a9, hc3⟩ := HSt.out w3 hc3; obtain ⟨a0, a1, a2, a3, a4⟩ := hf3; simp only at a0 a1 a2 a3 a4; have HC3 := Lib.hid hc3; clear hc3)
            | fail)
          refine HK0.out _ _ ?_
          go_wp2_with fail
          go_ret
          refine ⟨congrArg (fun z => Ending.returned (.int .i64 z)) ?_, HC3.out⟩
          show (0 : Int) = _
          rw [HRr.out]
          simp [H72.out, HL.out]
        · have e73 : (op != 73) = true := by simpa using h73
          by_cases h32 : op = 32
          · subst h32
            go_wp2_with (first
              | (with_reducible refine HAw.out.mono ?_; rintro e w3 ⟨rfl, hc3⟩; obtain ⟨hf3, a9, hc3⟩ := HSt.out w3 hc3; obtain ⟨a0, a1, a2, a3, a4⟩ := hf3; simp only at a0 a1 a2 a3 a4; have HC3 := Lib.hid hc3; clear hc3)
              | fail)
            refine HK0.out _ _ ?_
            go_wp2_with fail
            go_ret
            refine ⟨congrArg (fun z => Ending.returned (.int .i64 z)) ?_, HC3.out⟩
            show (0 : Int) = _
            rw [HRr.out]
            simp [H72.out, HL.out]
          · have e32 : (op != 32) = true := by simpa using h32
            have H73 := Lib.hid h73
            have H32 := Lib.hid h32
            clear h73 h32
            go_wp2_with (first
              | (with_reducible refine HAw.out.mono ?_; rintro e w3 ⟨rfl, hc3⟩; obtain ⟨hf3, a9, hc3⟩ := HSt.out w3 hc3; obtain ⟨a0, a1, a2, a3, a4⟩ := hf3; simp only at a0 a1 a2 a3 a4; have HC3 := Lib.hid hc3; clear hc3)
              | fail)
            go_ret
            refine ⟨congrArg (fun z => Ending.returned (.int .i64 z)) ?_, HC3.out⟩
            show (10 : Int) = _
            rw [HRr.out]
            simp [H72.out, HL.out, H73.out, H32.out]
      · have elb : ((k : Int) == (n : Int) - 1) = false := by simp; omega
        have HL := Lib.hid hl
        clear hl
        go_wp2_with (first
          | (with_reducible refine HAw.out.mono ?_; rintro e w3 ⟨rfl, hc3⟩; obtain ⟨hf3, a9, hc3⟩ := HSt.out w3 hc3; obtain ⟨a0, a1, a2, a3, a4⟩ := hf3; simp only at a0 a1 a2 a3 a4; have HC3 := Lib.hid hc3; clear hc3)
          | fail)
        refine HK0.out _ _ ?_
        go_wp2_with fail
        go_ret
        refine ⟨congrArg (fun z => Ending.returned (.int .i64 z)) ?_, HC3.out⟩
        show (0 : Int) = _
        rw [HRr.out]
        simp [H72.out, HL.out]
end Go.Proofs.YtpbdmlipdfdblaaDoor

namespace Go.Proofs.YtpbdmlipdfdblaaDoor
open Go.RowKit Go.BigFrame

attribute [local go_sem] Oper.semAt_some

theorem look1_any {n cap b off Bp : Nat} {L : List I5} {sl : Bool} (k : Nat) (hL : L.length = n) (hk : k < n) (hfit : Fit (ia L k)) {w : World} (hI : ∀ i (hi : i < L.length), FiveO w b (off + i * 5) L[i]) (hP : Two w Bp (.slice (some ⟨b, off, none⟩) n cap) (.bool sl)) :
    Calls Tryd.prog 32 #[.int .i64 (k : Int), .pointer (some ⟨Bp, 0, none⟩)] w fun e w' => e = .returned (.int .i64 (lk L sl 0 k)) ∧ Ch [] w w' := by
  obtain ⟨c0, c1, c2, c3, c4⟩ := InsAt.at hI (k := k) (by omega)
  have hkn : (k : Int) < (n : Int) := by omega
  have p0 := hP.c0
  have HC := Lib.hid (fun w => check_any hfit w)
  unfold lk
  rw [if_pos rfl]
  clear hfit hI hP
  unfold iv at HC
  generalize chk (ia L k) = r at *
  generalize ia L k = x at *
  obtain ⟨op, d, s, o, i⟩ := x
  simp only at *
  go_enter Tryd.func32, Tryd.ntmps32
  go_wp2_with (first
    | (with_reducible refine (HC.out _).mono ?_; rintro e w' ⟨rfl, hc⟩)
    | fail)
  go_ret
  exact ⟨rfl, hc⟩
theorem look2_any {n cap b off Bp : Nat} {L : List I5} {sl : Bool} (k : Nat) (hL : L.length = n) (hn : n ≤ 1000) (hk : k < n) (hfit : Fit (ia L k)) {w : World} (hI : ∀ i (hi : i < L.length), FiveO w b (off + i * 5) L[i]) (hT : Tb w) (hP : Two w Bp (.slice (some ⟨b, off, none⟩) n cap) (.bool sl)) :
    Calls Tryd.prog 34 #[.int .i64 (k : Int), .pointer (some ⟨Bp, 0, none⟩)] w fun e w' => e = .returned (.int .i64 (lk L sl 1 k)) ∧ Ch [] w w' := by
  have p0 := hP.c0
  have p1 := hP.c1
  have HW := Lib.hid (wrong_any (cap := cap) sl k hL hn hk hfit hI hT)
  unfold lk
  rw [if_neg (by decide), if_pos rfl, hL]
  clear hfit hI hP hT
  generalize wrg n sl (ia L k) k = r at *
  go_enter Tryd.func34, Tryd.ntmps34
  go_wp2_with (first
    | (with_reducible refine HW.out.mono ?_; rintro e w' ⟨rfl, hc⟩)
    | fail)
  go_ret
  exact ⟨rfl, hc⟩
theorem look3_any {Bm M : Nat} {L : List I5} {sl : Bool} (k : Nat) (hM : RM L M) {w : World} (hm : w.cell? ⟨Bm, 0, none⟩ = some (.int .u64 (M : Int))) :
    Calls Tryd.prog 36 #[.int .i64 (k : Int), .pointer (some ⟨Bm, 0, none⟩)] w fun e w' => e = .returned (.int .i64 (lk L sl 2 k)) ∧ Ch [] w w' := by
  have HH := Mk.has_any M (k : Int) hM.1 w
  rw [rb_mask hM] at HH
  have HH := Lib.hid HH
  unfold lk
  rw [if_neg (by decide), if_neg (by decide)]
  clear hM
  obtain ⟨r, hr⟩ : ∃ r, rb L k = r := ⟨_, rfl⟩
  rw [hr] at HH ⊢
  clear hr
  cases r
  all_goals
    go_enter Tryd.func36, Tryd.ntmps36
    go_wp2_with (first
      | (with_reducible refine HH.out.mono ?_; rintro e w' ⟨rfl, rfl⟩)
      | fail)
    go_ret
    exact ⟨rfl, Ch.refl _ _⟩

theorem check_long {n cap : Nat} {a : Option Addr} {L : List I5} {sl : Bool} (hL : L.length = n) (h : n < 1 ∨ 64 < n) (w : World) :
    Calls Tryd.prog 10 #[.agg #[.slice a n cap, .bool sl]] w fun e w' => e = .returned (.tuple #[.int .i64 (((res L sl).1 : Nat) : Int), .int .i64 (res L sl).2]) ∧ Ch [] w w' := by
  have hr := res_long (L := L) (sl := sl) (by rw [hL]; exact h)
  rw [hr]
  have HC := Lib.hid ((Ch.refl [] w).alloc (.cells #[.slice a n cap, .bool sl] 27))
  clear hL hr
  by_cases h1 : n < 1
  · have h1' : (n : Int) < 1 := by omega
    go_enter Tryd.func10, Tryd.ntmps10
    go_wp2_with fail
    go_step3
    go_wp2_with fail
    try rw [Exit.noGoto_ret]
    go_ret2
    exact ⟨rfl, HC.out⟩
  · have h1' : ¬ (n : Int) < 1 := by omega
    have h2' : (64 : Int) < (n : Int) := by omega
    go_enter Tryd.func10, Tryd.ntmps10
    go_wp2_with fail
    go_step3
    go_wp2_with fail
    try rw [Exit.noGoto_ret]
    go_ret2
    exact ⟨rfl, HC.out⟩

set_option maxRecDepth 10000 in
set_option maxHeartbeats 8000000 in
theorem check_body {n cap b off : Nat} {L : List I5} {sl : Bool} (hL : L.length = n) (h0 : 1 ≤ n) (hn : n ≤ 64) (hfit : ∀ x ∈ L, Fit x) {w : World} (hI : ∀ i (hi : i < L.length), FiveO w b (off + i * 5) L[i]) (hT : Tb w) :
    Calls Tryd.prog 10 #[.agg #[.slice (some ⟨b, off, none⟩) n cap, .bool sl]] w fun e w' => e = .returned (.tuple #[.int .i64 (((res L sl).1 : Nat) : Int), .int .i64 (res L sl).2]) ∧ Ch [] w w' := by
  obtain ⟨r, hr⟩ : ∃ r, r = res L sl := ⟨_, rfl⟩
  rw [← hr]
  have HRs := Lib.hid hr
  have HT := Lib.hid hT
  have HI := Lib.hid hI
  have HP := Lib.hid (Two.new w (.slice (some ⟨b, off, none⟩) n cap) (.bool sl) 27)
  have HC := Lib.hid ((Ch.refl [] w).alloc (.cells #[.slice (some ⟨b, off, none⟩) n cap, .bool sl] 27))
  obtain ⟨w0, hw0⟩ : ∃ w0, w.alloc (.cells #[.slice (some ⟨b, off, none⟩) n cap, .bool sl] 27) = w0 := ⟨_, rfl⟩
  have HW0 := Lib.hid hw0
  rw [hw0] at HP HC
  have HRe := Lib.hid (reached_any (cap := cap) hL (by omega) hfit w0 (.inr ⟨b, off, rfl, fun i hi => (hI i hi).ch HC.out (by simp)⟩) ((hT.ch HC.out).tab))
  have hmf : ∀ (fn : Fn) (first cap : Array Value) (w : World), (Instr.makeFunc fn first cap).run Tryd.prog w = .ok (.func fn first cap) w := fun _ _ _ _ => rfl
  have h1' : ¬ (n : Int) < 1 := by omega
  have h2' : ¬ (64 : Int) < (n : Int) := by omega
  clear hr hT hI hw0
  go_enter Tryd.func10, Tryd.ntmps10
  go_wp2_with fail
  go_step3
  go_wp2_with fail
  rw [HW0.out]
  with_reducible refine HRe.out.mono ?_
  rintro e w1 ⟨M, hM, rfl, hc1⟩
  have HM := Lib.hid hM
  have HC1 := Lib.hid (HC.out.trans hc1)
  have HP1 := Lib.hid (And.intro ((hc1.cell (p := ⟨w.heap.size, 0, none⟩) (cell_lt HP.out.c0) (by simp)).trans HP.out.c0) ((hc1.cell (p := ⟨w.heap.size, 1, none⟩) (cell_lt HP.out.c1) (by simp)).trans HP.out.c1))
  clear hM hc1 HRe HP
  go_wp2_with fail
  -- FROM THE LABEL ON
  obtain ⟨w2, hw2⟩ : ∃ w2, (w1.alloc (.cells #[.int .u64 (M : Int)] 91)).alloc (.cells #[.func (.func 32) #[] #[.pointer (some ⟨w.heap.size, 0, none⟩)], .func (.func 34) #[] #[.pointer (some ⟨w.heap.size, 0, none⟩)], .func (.func 36) #[] #[.pointer (some ⟨w1.heap.size, 0, none⟩)]] 97) = w2 := ⟨_, rfl⟩
  have hc2 : Ch [] w1 w2 := by rw [← hw2]; exact ((Ch.refl [] w1).alloc _).alloc _
  have l0 : w2.cell? ⟨w1.heap.size + 1, 0, none⟩ = some (.func (.func 32) #[] #[.pointer (some ⟨w.heap.size, 0, none⟩)]) := by rw [← hw2, World.cell?_alloc_at _ _ _ _ (by simp)]; rfl
  have l1 : w2.cell? ⟨w1.heap.size + 1, 1, none⟩ = some (.func (.func 34) #[] #[.pointer (some ⟨w.heap.size, 0, none⟩)]) := by rw [← hw2, World.cell?_alloc_at _ _ _ _ (by simp)]; rfl
  have l2 : w2.cell? ⟨w1.heap.size + 1, 2, none⟩ = some (.func (.func 36) #[] #[.pointer (some ⟨w1.heap.size, 0, none⟩)]) := by rw [← hw2, World.cell?_alloc_at _ _ _ _ (by simp)]; rfl
  have hm2 : w2.cell? ⟨w1.heap.size, 0, none⟩ = some (.int .u64 (M : Int)) := by rw [← hw2, World.cell?_alloc_past _ _ _ (by simp), World.cell?_alloc_at _ _ _ _ rfl]; rfl
  have HM2 := Lib.hid hm2
  have HC2 := Lib.hid (HC1.out.trans hc2)
  have HP2 := Lib.hid (And.intro ((hc2.cell (p := ⟨w.heap.size, 0, none⟩) (cell_lt HP1.out.1) (by simp)).trans HP1.out.1) ((hc2.cell (p := ⟨w.heap.size, 1, none⟩) (cell_lt HP1.out.2) (by simp)).trans HP1.out.2))
  rw [hw2]
  clear hw2 hc2 hm2 HP1 HC1
  have hx0 : ∀ W, (Instr.index 97 (.agg #[.func (.func 32) #[] #[.pointer (some ⟨w.heap.size, 0, none⟩)], .func (.func 34) #[] #[.pointer (some ⟨w.heap.size, 0, none⟩)], .func (.func 36) #[] #[.pointer (some ⟨w1.heap.size, 0, none⟩)]]) (.int .i64 0)).run Tryd.prog W = .ok (.func (.func 32) #[] #[.pointer (some ⟨w.heap.size, 0, none⟩)]) W := fun _ => rfl
  have hx1 : ∀ W, (Instr.index 97 (.agg #[.func (.func 32) #[] #[.pointer (some ⟨w.heap.size, 0, none⟩)], .func (.func 34) #[] #[.pointer (some ⟨w.heap.size, 0, none⟩)], .func (.func 36) #[] #[.pointer (some ⟨w1.heap.size, 0, none⟩)]]) (.int .i64 1)).run Tryd.prog W = .ok (.func (.func 34) #[] #[.pointer (some ⟨w.heap.size, 0, none⟩)]) W := fun _ => rfl
  have hx2 : ∀ W, (Instr.index 97 (.agg #[.func (.func 32) #[] #[.pointer (some ⟨w.heap.size, 0, none⟩)], .func (.func 34) #[] #[.pointer (some ⟨w.heap.size, 0, none⟩)], .func (.func 36) #[] #[.pointer (some ⟨w1.heap.size, 0, none⟩)]]) (.int .i64 2)).run Tryd.prog W = .ok (.func (.func 36) #[] #[.pointer (some ⟨w1.heap.size, 0, none⟩)]) W := fun _ => rfl
  have HTw := Lib.hid (fun (W : World) (h : Ch [] w2 W) => And.intro (show Two W w.heap.size (.slice (some ⟨b, off, none⟩) n cap) (.bool sl) from ⟨(h.cell (p := ⟨w.heap.size, 0, none⟩) (cell_lt HP2.out.1) (by simp)).trans HP2.out.1, (h.cell (p := ⟨w.heap.size, 1, none⟩) (cell_lt HP2.out.2) (by simp)).trans HP2.out.2⟩) (show ∀ i (hi : i < L.length), FiveO W b (off + i * 5) L[i] from fun i hi => (HI.out i hi).ch (HC2.out.trans h) (by simp)))
  have HMw := Lib.hid (fun (W : World) (h : Ch [] w2 W) => (h.cell (p := ⟨w1.heap.size, 0, none⟩) (cell_lt HM2.out) (by simp)).trans HM2.out)
  have HL0 := Lib.hid (fun (k : Nat) (hk : k < n) (W : World) (h : Ch [] w2 W) => look1_any (cap := cap) (sl := sl) k hL hk (by rw [← ia_at (by omega)]; exact hfit _ (List.getElem_mem _)) (HTw.out W h).2 (HTw.out W h).1)
  have HL1 := Lib.hid (fun (k : Nat) (hk : k < n) (W : World) (h : Ch [] w2 W) => look2_any (cap := cap) (sl := sl) k hL (by omega) hk (by rw [← ia_at (by omega)]; exact hfit _ (List.getElem_mem _)) (HTw.out W h).2 (HT.out.ch (HC2.out.trans h)) (HTw.out W h).1)
  have HL2 := Lib.hid (fun (k : Nat) (W : World) (h : Ch [] w2 W) => look3_any (L := L) (sl := sl) k HM.out (HMw.out W h))
  have HLen := Lib.hid hL
  have HOk := Lib.hid (show (∀ j, j < 3 → ∀ c, c < n → lk L sl j c = 0) → res L sl = (0, 0) from fun h => res_ok (by rw [hL]; omega) (by rw [hL]; exact h))
  have HAt := Lib.hid (fun (j k : Nat) (hj : j < 3) (hk : k < n) (hz : lk L sl j k ≠ 0) (hl : ∀ c, c < k → lk L sl j c = 0) (hq : ∀ i, i < j → ∀ c, c < n → lk L sl i c = 0) => res_at (L := L) (sl := sl) (by rw [hL]; omega) hj (by rw [hL]; exact hk) hz hl (by rw [hL]; exact hq))
  clear hL hfit h1' h2' HM hmf
  go_step3
  go_wp2_with fail
  clear l0 l1 l2
  go_loopw [6, 7, 29] (fun p e i wr => ∃ (j : Nat) (z : Int), z = (j : Int) ∧ j ≤ 3 ∧ i = .int .i64 z ∧ p = .int .i64 0 ∧ e = .int .i64 0 ∧ Ch [] w2 wr ∧ ∀ i, i < j → ∀ c, c < n → lk L sl i c = 0) (fun _ _ i _ => 3 - (intOf i).toNat)
  case atStart => exact ⟨0, 0, rfl, by omega, rfl, rfl, rfl, Ch.refl _ _, fun i h => absurd h (by omega)⟩
  case round =>
    obtain ⟨j, z, hjz, hj, rfl, rfl, rfl, hc, hq⟩ := hrel
    have HQ := Lib.hid hq
    have HC := Lib.hid hc
    have hp := (HTw.out _ hc).1.c0
    clear hc hq
    obtain rfl | rfl | rfl | rfl : j = 0 ∨ j = 1 ∨ j = 2 ∨ j = 3 := by omega
    · obtain rfl : z = 0 := by simpa using hjz
      clear hjz
      go_wp2_with fail
      go_loopw [6, 7, 35] (fun p e i wr => ∃ k : Nat, k ≤ n ∧ i = .int .i64 (k : Int) ∧ p = .int .i64 0 ∧ e = .int .i64 0 ∧ Ch [] w2 wr ∧ ∀ c, c < k → lk L sl 0 c = 0) (fun _ _ i _ => n - (intOf i).toNat)
      case atStart => exact ⟨0, by omega, rfl, rfl, rfl, HC.out, fun c h => absurd h (by omega)⟩
      case round =>
        obtain ⟨k, hk, rfl, rfl, rfl, hck, hz⟩ := hrel
        have HZ := Lib.hid hz
        have HCk := Lib.hid hck
        clear hck hz
        by_cases hk2 : k < n
        · have hk2' : (k : Int) < (n : Int) := by omega
          have HCa := Lib.hid (HL0.out k hk2 _ HCk.out)
          have HV := Lib.hid (show lk L sl 0 k = 0 → ∀ c, c < k + 1 → lk L sl 0 c = 0 from fun h c hc => by
            by_cases e : c = k
            · rw [e]; exact h
            · exact HZ.out c (by omega))
          have HW := Lib.hid (show lk L sl 0 k ≠ 0 → res L sl = (k, lk L sl 0 k) from fun h => HAt.out 0 k (by omega) hk2 h HZ.out HQ.out)
          by_cases hv : lk L sl 0 k = 0
          · have HV := Lib.hid (HV.out hv)
            rw [hv] at HCa
            clear hv hk2
            go_wp2_with (first
              | (with_reducible refine HCa.out.mono ?_; rintro e w9 ⟨rfl, hc9⟩; have HC9 := Lib.hid (HCk.out.trans hc9); clear hc9)
              | fail)
            go_roundw
            case rel => exact ⟨k + 1, by omega, by go_num, rfl, rfl, HC9.out, HV.out⟩
            case measure => simp [intOf]; omega
          · have HW := Lib.hid (HW.out hv)
            generalize lk L sl 0 k = v at *
            have hvb : (v != 0) = true := by simpa using hv
            clear hv hk2
            go_wp2_with (first
              | (with_reducible refine HCa.out.mono ?_; rintro e w9 ⟨rfl, hc9⟩; have HC9 := Lib.hid (HC2.out.trans (HCk.out.trans hc9)); clear hc9)
              | fail)
            try rw [Exit.noGoto_ret]
            go_ret2
            exact ⟨by rw [HRs.out, HW.out]; rfl, HC9.out⟩
        · have HE := Lib.hid (show ∀ i, i < 0 + 1 → ∀ c, c < n → lk L sl i c = 0 from fun i hi c hc => by
            by_cases e : i = 0
            · rw [e]; exact HZ.out c (by omega)
            · exact HQ.out i (by omega) c hc)
          have hk2' : ¬ (k : Int) < (n : Int) := by omega
          clear hk2
          go_wp2_with fail
          go_roundw
          case rel => exact ⟨0 + 1, _, by go_num, by omega, rfl, rfl, rfl, HCk.out, HE.out⟩
          case measure => simp [intOf]
    · obtain rfl : z = 1 := by simpa using hjz
      clear hjz
      go_wp2_with fail
      go_loopw [6, 7, 35] (fun p e i wr => ∃ k : Nat, k ≤ n ∧ i = .int .i64 (k : Int) ∧ p = .int .i64 0 ∧ e = .int .i64 0 ∧ Ch [] w2 wr ∧ ∀ c, c < k → lk L sl 1 c = 0) (fun _ _ i _ => n - (intOf i).toNat)
      case atStart => exact ⟨0, by omega, rfl, rfl, rfl, HC.out, fun c h => absurd h (by omega)⟩
      case round =>
        obtain ⟨k, hk, rfl, rfl, rfl, hck, hz⟩ := hrel
        have HZ := Lib.hid hz
        have HCk := Lib.hid hck
        clear hck hz
        by_cases hk2 : k < n
        · have hk2' : (k : Int) < (n : Int) := by omega
          have HCa := Lib.hid (HL1.out k hk2 _ HCk.out)
          have HV := Lib.hid (show lk L sl 1 k = 0 → ∀ c, c < k + 1 → lk L sl 1 c = 0 from fun h c hc => by
            by_cases e : c = k
            · rw [e]; exact h
            · exact HZ.out c (by omega))
          have HW := Lib.hid (show lk L sl 1 k ≠ 0 → res L sl = (k, lk L sl 1 k) from fun h => HAt.out 1 k (by omega) hk2 h HZ.out HQ.out)
          by_cases hv : lk L sl 1 k = 0
          · have HV := Lib.hid (HV.out hv)
            rw [hv] at HCa
            clear hv hk2
            go_wp2_with (first
              | (with_reducible refine HCa.out.mono ?_; rintro e w9 ⟨rfl, hc9⟩; have HC9 := Lib.hid (HCk.out.trans hc9); clear hc9)
              | fail)
            go_roundw
            case rel => exact ⟨k + 1, by omega, by go_num, rfl, rfl, HC9.out, HV.out⟩
            case measure => simp [intOf]; omega
          · have HW := Lib.hid (HW.out hv)
            generalize lk L sl 1 k = v at *
            have hvb : (v != 0) = true := by simpa using hv
            clear hv hk2
            go_wp2_with (first
              | (with_reducible refine HCa.out.mono ?_; rintro e w9 ⟨rfl, hc9⟩; have HC9 := Lib.hid (HC2.out.trans (HCk.out.trans hc9)); clear hc9)
              | fail)
            try rw [Exit.noGoto_ret]
            go_ret2
            exact ⟨by rw [HRs.out, HW.out]; rfl, HC9.out⟩
        · have HE := Lib.hid (show ∀ i, i < 1 + 1 → ∀ c, c < n → lk L sl i c = 0 from fun i hi c hc => by
            by_cases e : i = 1
            · rw [e]; exact HZ.out c (by omega)
            · exact HQ.out i (by omega) c hc)
          have hk2' : ¬ (k : Int) < (n : Int) := by omega
          clear hk2
          go_wp2_with fail
          go_roundw
          case rel => exact ⟨1 + 1, _, by go_num, by omega, rfl, rfl, rfl, HCk.out, HE.out⟩
          case measure => simp [intOf]
    · obtain rfl : z = 2 := by simpa using hjz
      clear hjz
      go_wp2_with fail
      go_loopw [6, 7, 35] (fun p e i wr => ∃ k : Nat, k ≤ n ∧ i = .int .i64 (k : Int) ∧ p = .int .i64 0 ∧ e = .int .i64 0 ∧ Ch [] w2 wr ∧ ∀ c, c < k → lk L sl 2 c = 0) (fun _ _ i _ => n - (intOf i).toNat)
      case atStart => exact ⟨0, by omega, rfl, rfl, rfl, HC.out, fun c h => absurd h (by omega)⟩
      case round =>
        obtain ⟨k, hk, rfl, rfl, rfl, hck, hz⟩ := hrel
        have HZ := Lib.hid hz
        have HCk := Lib.hid hck
        clear hck hz
        by_cases hk2 : k < n
        · have hk2' : (k : Int) < (n : Int) := by omega
          have HCa := Lib.hid (HL2.out k _ HCk.out)
          have HV := Lib.hid (show lk L sl 2 k = 0 → ∀ c, c < k + 1 → lk L sl 2 c = 0 from fun h c hc => by
            by_cases e : c = k
            · rw [e]; exact h
            · exact HZ.out c (by omega))
          have HW := Lib.hid (show lk L sl 2 k ≠ 0 → res L sl = (k, lk L sl 2 k) from fun h => HAt.out 2 k (by omega) hk2 h HZ.out HQ.out)
          by_cases hv : lk L sl 2 k = 0
          · have HV := Lib.hid (HV.out hv)
            rw [hv] at HCa
            clear hv hk2
            go_wp2_with (first
              | (with_reducible refine HCa.out.mono ?_; rintro e w9 ⟨rfl, hc9⟩; have HC9 := Lib.hid (HCk.out.trans hc9); clear hc9)
              | fail)
            go_roundw
            case rel => exact ⟨k + 1, by omega, by go_num, rfl, rfl, HC9.out, HV.out⟩
            case measure => simp [intOf]; omega
          · have HW := Lib.hid (HW.out hv)
            generalize lk L sl 2 k = v at *
            have hvb : (v != 0) = true := by simpa using hv
            clear hv hk2
            go_wp2_with (first
              | (with_reducible refine HCa.out.mono ?_; rintro e w9 ⟨rfl, hc9⟩; have HC9 := Lib.hid (HC2.out.trans (HCk.out.trans hc9)); clear hc9)
              | fail)
            try rw [Exit.noGoto_ret]
            go_ret2
            exact ⟨by rw [HRs.out, HW.out]; rfl, HC9.out⟩
        · have HE := Lib.hid (show ∀ i, i < 2 + 1 → ∀ c, c < n → lk L sl i c = 0 from fun i hi c hc => by
            by_cases e : i = 2
            · rw [e]; exact HZ.out c (by omega)
            · exact HQ.out i (by omega) c hc)
          have hk2' : ¬ (k : Int) < (n : Int) := by omega
          clear hk2
          go_wp2_with fail
          go_roundw
          case rel => exact ⟨2 + 1, _, by go_num, by omega, rfl, rfl, rfl, HCk.out, HE.out⟩
          case measure => simp [intOf]
    · obtain rfl : z = 3 := by simpa using hjz
      clear hjz hj
      go_wp2_with fail
      try rw [Exit.noGoto_ret]
      go_ret2
      exact ⟨by rw [HRs.out, HOk.out (fun i hi c hc => HQ.out i (by omega) c hc)]; rfl, HC2.out.trans HC.out⟩
theorem pcheck_any {n cap : Nat} {a : Option Addr} {L : List I5} {sl : Bool} (hL : L.length = n) (hfit : ∀ x ∈ L, Fit x) {w : World} (hI : InsAt w a L) (hT : Tb w) :
    Calls Tryd.prog 10 #[.agg #[.slice a n cap, .bool sl]] w fun e w' => e = .returned (.tuple #[.int .i64 (((res L sl).1 : Nat) : Int), .int .i64 (res L sl).2]) ∧ Ch [] w w' := by
  by_cases h : n < 1 ∨ 64 < n
  · exact check_long hL h w
  · rcases hI with h0 | ⟨b, off, rfl, hc⟩
    · rw [h0] at hL; simp at hL; omega
    · exact check_body hL (by omega) (by omega) hfit hc hT
end Go.Proofs.YtpbdmlipdfdblaaDoor
