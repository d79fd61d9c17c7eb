/-
  The program's astray, wrong.
-/
import Derived.Deep.RegionHeld3
import Derived.Test.YtadogffllkompaaDoorCkH
namespace Go.Proofs.YtadogffllkompaaDoor
open Go.RowKit Go.BigFrame

attribute [local go_sem] Oper.semAt_some

set_option maxHeartbeats 4000000 in
theorem astray_any {n cap b off : Nat} {L : List I5} (k : Nat) (hL : L.length = n) (hk : k < n) (hfit : Fit (ia L k)) {w : World} (hI : ∀ i (hi : i < L.length), FiveO w b (off + i * 5) L[i]) :
    Calls Tryd.prog 51 #[.slice (some ⟨b, off, none⟩) n cap, .int .i64 (k : Int)] w fun e w' => e = .returned (.bool (astr n (ia L k) k)) ∧ Ch [] w w' := by
  obtain ⟨c0, c1, c2, c3, c4⟩ := InsAt.at hI (k := k) (by omega)
  have hkn : (k : Int) < (n : Int) := by omega
  have HG := Lib.hid (fun w' (h : Ch [] w w') => target_any (cap := cap) (w := w') k hL hk (fun i hi => (hI i hi).ch h (by simp)))
  have HTh := Lib.hid (fun z W => there_any n cap (some ⟨b, off, none⟩) z W)
  have HCl := Lib.hid (fun w => class_any hfit.op.1 hfit.op.2 w)
  clear hI hfit
  unfold astr
  generalize tg (k : Int) (ia L k).o = t at *
  obtain ⟨cl, hcl⟩ : ∃ c, cls (ia L k).op = c := ⟨_, rfl⟩
  rw [hcl] at HCl ⊢
  have HCC := Lib.hid hcl
  clear hcl
  generalize ia L k = x at *
  obtain ⟨op, d, s, o, i⟩ := x
  simp only at *
  have HF := Lib.hid (Five.new w ⟨op, d, s, o, i⟩ 51)
  have HC1 := Lib.hid ((Ch.refl [] w).alloc (.cells #[.int .i64 op, .int .i64 d, .int .i64 s, .int .i64 o, .int .i64 i] 51))
  by_cases h2 : cl = 2
  · subst h2
    rw [if_pos rfl]
    have HGw := Lib.hid (HG.out _ HC1.out)
    have HTt := Lib.hid (fun W => HTh.out t W)
    generalize inn n t = r at *
    clear HG HTh
    go_enter Tryd.func51, Tryd.ntmps51
    go_wp2_with (first
      | (with_reducible refine (HCl.out _).mono ?_; rintro e w' ⟨rfl, rfl⟩)
      | (with_reducible refine HGw.out.mono ?_; rintro e w' ⟨rfl, rfl⟩)
      | (with_reducible refine (HTt.out _).mono ?_; rintro e w' ⟨rfl, rfl⟩)
      | fail)
    go_ret
    exact ⟨by cases r <;> rfl, HC1.out⟩
  · rw [if_neg h2]
    by_cases h3 : cl = 3
    · subst h3
      rw [if_pos rfl]
      obtain ⟨b1, hb1⟩ : ∃ b, decide (o < 0) = b := ⟨_, rfl⟩
      clear HG HTh
      by_cases h64 : op = 64 ∨ op = 65
      · rw [if_pos h64]
        obtain ⟨b2, hb2⟩ : ∃ b, decide ((8 : Int) ≤ o) = b := ⟨_, rfl⟩
        rw [hb1, hb2]
        rcases h64 with rfl | rfl
        all_goals
          cases b1 <;> cases b2
          all_goals
            go_enter Tryd.func51, Tryd.ntmps51
            go_wp2_with (first
              | (with_reducible refine (HCl.out _).mono ?_; rintro e w' ⟨rfl, rfl⟩)
              | fail)
            go_ret
            exact ⟨rfl, HC1.out⟩
      · rw [if_neg h64]
        obtain ⟨b2, hb2⟩ : ∃ b, decide ((4 : Int) ≤ o) = b := ⟨_, rfl⟩
        rw [hb1, hb2]
        have e64 : (op == 64) = false := by simp; omega
        have e65 : (op == 65) = false := by simp; omega
        clear h64
        cases b1 <;> cases b2
        all_goals
          go_enter Tryd.func51, Tryd.ntmps51
          go_wp2_with (first
            | (with_reducible refine (HCl.out _).mono ?_; rintro e w' ⟨rfl, rfl⟩)
            | fail)
          go_ret
          exact ⟨rfl, HC1.out⟩
    · rw [if_neg h3]
      have e2 : (cl == 2) = false := by simpa using h2
      have e3 : (cl == 3) = false := by simpa using h3
      clear HG HTh h2 h3
      go_enter Tryd.func51, Tryd.ntmps51
      go_wp2_with (first
        | (with_reducible refine (HCl.out _).mono ?_; rintro e w' ⟨rfl, rfl⟩)
        | fail)
      go_ret
      exact ⟨rfl, HC1.out⟩

set_option maxHeartbeats 16000000 in
theorem wrong_any {n cap b off : Nat} {L : List I5} (sl : Bool) (k : Nat) (hL : L.length = n) (hn : n ≤ 1000) (hk : k < n) (hfit : Fit (ia L k)) {w : World} (hI : ∀ i (hi : i < L.length), FiveO w b (off + i * 5) L[i]) (hT : Tb w) :
    Calls Tryd.prog 35 #[.agg #[.slice (some ⟨b, off, none⟩) n cap, .bool sl], .int .i64 (k : Int)] w fun e w' => e = .returned (.int .i64 (wrg n sl (ia L k) k)) ∧ Ch [] w w' := by
  have HT := Lib.hid hT
  have HI := Lib.hid hI
  have HAs := Lib.hid (fun w' (h : Ch [] w w') => astray_any (cap := cap) (w := w') k hL hk hfit (fun i hi => (hI i hi).ch h (by simp)))
  have HX := Lib.hid (Two.new w (.slice (some ⟨b, off, none⟩) n cap) (.bool sl) 48)
  have HC0 := Lib.hid ((Ch.refl [] w).alloc (.cells #[.slice (some ⟨b, off, none⟩) n cap, .bool sl] 48))
  have hf := InsAt.at hI (k := k) (by omega)
  have HFo := Lib.hid hf
  obtain ⟨w0, hw0⟩ : ∃ w0, w.alloc (.cells #[.slice (some ⟨b, off, none⟩) n cap, .bool sl] 48) = w0 := ⟨_, rfl⟩
  have HW0 := Lib.hid hw0
  rw [hw0] at HX HC0
  have hlst : IntKind.i64.wrap ((n : Int) - 1) = (n : Int) - 1 := by rw [IntKind.wrap_i64]; omega
  have hkn : (k : Int) < (n : Int) := by omega
  obtain ⟨r, hr⟩ : ∃ r, r = wrg n sl (ia L k) k := ⟨_, rfl⟩
  rw [← hr]
  unfold wrg at hr
  have HRr := Lib.hid hr
  clear hr
  generalize astr n (ia L k) k = ast at *
  generalize ia L k = x at *
  obtain ⟨op, d, s, o, i⟩ := x
  simp only at *
  clear hT hI hw0 hf hfit
  go_enter Tryd.func35, Tryd.ntmps35
  refine wp_seq_k (fun K0 hK0 => ?_)
  have HK0 := Lib.hid hK0
  clear hK0
  go_wp2
  refine HK0.out _ _ ?_
  clear HK0
  rw [HW0.out]
  refine wp_seq_k (fun K0 hK0 => ?_)
  have HK0 := Lib.hid hK0
  clear hK0
  have x0 := HX.out.c0
  have x1 := HX.out.c1
  have hcc := HFo.out.ch HC0.out (by simp)
  obtain ⟨c0, c1, c2, c3, c4⟩ := hcc
  simp only at c0 c1 c2 c3 c4
  have n1 : w0.heap.size ≠ w.heap.size := Nat.ne_of_gt (cell_lt x0)
  have n2 : w0.heap.size ≠ b := Nat.ne_of_gt (cell_lt c0)
  go_region_held (fun w' => w'.cell? ⟨w.heap.size, 0, none⟩ = some (.slice (some ⟨b, off, none⟩) n cap) ∧ w'.cell? ⟨b, off + k * 5, none⟩ = some (.int .i64 op) ∧ w'.cell? ⟨b, off + k * 5 + 1, none⟩ = some (.int .i64 d) ∧ w'.cell? ⟨b, off + k * 5 + 2, none⟩ = some (.int .i64 s) ∧ w'.cell? ⟨b, off + k * 5 + 3, none⟩ = some (.int .i64 o) ∧ w'.cell? ⟨b, off + k * 5 + 4, none⟩ = some (.int .i64 i)) (go_keep) (fail)
  simp only [Exit.then]
  refine HK0.out _ _ ?_
  clear HK0
  refine wp_seq_k (fun K0 hK0 => ?_)
  have HK0 := Lib.hid hK0
  clear hK0
  obtain ⟨W1, hW1⟩ : ∃ W1, (w0.alloc (.cells #[.int .i64 op, .int .i64 d, .int .i64 s, .int .i64 o, .int .i64 i] 51)).drew = W1 := ⟨_, rfl⟩
  have HC1 := Lib.hid (show Ch [] w0 W1 by rw [← hW1]; exact ((Ch.refl [] w0).alloc _).drew)
  have HF1 := Lib.hid (show Five W1 w0.heap.size ⟨op, d, s, o, i⟩ by rw [← hW1]; exact (Five.new w0 ⟨op, d, s, o, i⟩ 51).ch (Ch.refl [] _).drew (by simp))
  rw [hW1]
  have a4 := HF1.out.c4
  simp only at a4
  clear hW1 x0 x1 c0 c1 c2 c3 c4 n1 n2
  have HH := Lib.hid (help_any i (HT.out.ch (HC0.out.trans HC1.out)))
  unfold hV at HH
  go_wp2_with fail
  with_reducible refine HH.out.mono ?_
  rintro e W2 ⟨rfl, nd, hnd⟩
  have HC2 := Lib.hid (show Ch [] w0 W2 by rw [hnd]; exact HC1.out.drewN nd)
  have HF2 := Lib.hid (show Five W2 w0.heap.size ⟨op, d, s, o, i⟩ by rw [hnd]; exact HF1.out.ch ((Ch.refl [] _).drewN nd) (by simp))
  clear hnd HH HF1 HC1 a4
  go_wp2_with fail
  refine HK0.out _ _ ?_
  clear HK0
  have hx2 : W2.cell? ⟨w.heap.size, 0, none⟩ = some (.slice (some ⟨b, off, none⟩) n cap) := (HC2.out.cell (p := ⟨w.heap.size, 0, none⟩) (cell_lt HX.out.c0) (by simp)).trans HX.out.c0
  have HAw := Lib.hid (HAs.out W2 (HC0.out.trans HC2.out))
  clear HAs
  refine wp_seq_k (fun K0 hK0 => ?_)
  have HK0 := Lib.hid hK0
  clear hK0
  have HSt := Lib.hid (fun (w3 : World) (hc3 : Ch [] W2 w3) => And.intro (HF2.out.ch hc3 (by simp)) (And.intro ((hc3.cell (p := ⟨w.heap.size, 1, none⟩) (cell_lt ((HC2.out.cell (p := ⟨w.heap.size, 1, none⟩) (cell_lt HX.out.c1) (by simp)).trans HX.out.c1)) (by simp)).trans ((HC2.out.cell (p := ⟨w.heap.size, 1, none⟩) (cell_lt HX.out.c1) (by simp)).trans HX.out.c1)) ((HC0.out.trans HC2.out).trans hc3)))
  clear HX HFo HI HT
  cases ast with
  | true =>
    go_wp2_with (first
      | (with_reducible refine HAw.out.mono ?_; rintro e w3 ⟨rfl, hc3⟩; obtain ⟨hf3, a9, hc3⟩ := HSt.out w3 hc3; obtain ⟨a0, a1, a2, a3, a4⟩ := hf3; simp only at a0 a1 a2 a3 a4; have HC3 := Lib.hid hc3; clear hc3)
      | fail)
    go_ret
    refine ⟨congrArg (fun z => Ending.returned (.int .i64 z)) ?_, HC3.out⟩
    show (2 : Int) = _
    rw [HRr.out]
    simp []
  | false =>
    by_cases h72 : op = 72
    · subst h72
      cases hh : hlp i with
      | false =>
        have HHh := Lib.hid hh
        clear hh
        go_wp2_with (first
          | (with_reducible refine HAw.out.mono ?_; rintro e w3 ⟨rfl, hc3⟩; obtain ⟨hf3, a9, hc3⟩ := HSt.out w3 hc3; obtain ⟨a0, a1, a2, a3, a4⟩ := hf3; simp only at a0 a1 a2 a3 a4; have HC3 := Lib.hid hc3; clear hc3)
          | fail)
        go_ret
        refine ⟨congrArg (fun z => Ending.returned (.int .i64 z)) ?_, HC3.out⟩
        show (4 : Int) = _
        rw [HRr.out]
        simp [HHh.out]
      | true =>
        have HHh := Lib.hid hh
        clear hh
        by_cases h16 : i = 16
        · subst h16
          cases sl with
          | false =>
            go_wp2_with (first
              | (with_reducible refine HAw.out.mono ?_; rintro e w3 ⟨rfl, hc3⟩; obtain ⟨hf3, a9, hc3⟩ := HSt.out w3 hc3; obtain ⟨a0, a1, a2, a3, a4⟩ := hf3; simp only at a0 a1 a2 a3 a4; have HC3 := Lib.hid hc3; clear hc3)
              | fail)
            go_ret
            refine ⟨congrArg (fun z => Ending.returned (.int .i64 z)) ?_, HC3.out⟩
            show (17 : Int) = _
            rw [HRr.out]
            simp [HHh.out]
          | true =>
            by_cases hl : k + 1 = n
            · have elb : ((k : Int) == (n : Int) - 1) = true := by simp; omega
              have HL := Lib.hid hl
              clear hl
              go_wp2_with (first
                | (with_reducible refine HAw.out.mono ?_; rintro e w3 ⟨rfl, hc3⟩; obtain ⟨hf3, a9, hc3⟩ := HSt.out w3 hc3; obtain ⟨a0, a1, a2, a3, a4⟩ := hf3; simp only at a0 a1 a2 a3 a4; have HC3 := Lib.hid hc3; clear hc3)
                | fail)
              go_ret
              refine ⟨congrArg (fun z => Ending.returned (.int .i64 z)) ?_, HC3.out⟩
              show (10 : Int) = _
              rw [HRr.out]
              simp [HHh.out, HL.out]
            · have elb : ((k : Int) == (n : Int) - 1) = false := by simp; omega
              have HL := Lib.hid hl
              clear hl
              go_wp2_with (first
                | (with_reducible refine HAw.out.mono ?_; rintro e w3 ⟨rfl, hc3⟩; obtain ⟨hf3, a9, hc3⟩ := HSt.out w3 hc3; obtain ⟨a0, a1, a2, a3, a4⟩ := hf3; simp only at a0 a1 a2 a3 a4; have HC3 := Lib.hid hc3; clear hc3)
                | fail)
              refine HK0.out _ _ ?_
              go_wp2_with fail
              go_ret
              refine ⟨congrArg (fun z => Ending.returned (.int .i64 z)) ?_, HC3.out⟩
              show (0 : Int) = _
              rw [HRr.out]
              simp [HHh.out, HL.out]
        · have e16 : (i == 16) = false := by simpa using h16
          have H16 := Lib.hid h16
          clear h16
          by_cases hl : k + 1 = n
          · have elb : ((k : Int) == (n : Int) - 1) = true := by simp; omega
            have HL := Lib.hid hl
            clear hl
            go_wp2_with (first
              | (with_reducible refine HAw.out.mono ?_; rintro e w3 ⟨rfl, hc3⟩; obtain ⟨hf3, a9, hc3⟩ := HSt.out w3 hc3; obtain ⟨a0, a1, a2, a3, a4⟩ := hf3; simp only at a0 a1 a2 a3 a4; have HC3 := Lib.hid hc3; clear hc3)
              | fail)
            go_ret
            refine ⟨congrArg (fun z => Ending.returned (.int .i64 z)) ?_, HC3.out⟩
            show (10 : Int) = _
            rw [HRr.out]
            simp [HHh.out, H16.out, HL.out]
          · have elb : ((k : Int) == (n : Int) - 1) = false := by simp; omega
            have HL := Lib.hid hl
            clear hl
            go_wp2_with (first
              | (with_reducible refine HAw.out.mono ?_; rintro e w3 ⟨rfl, hc3⟩; obtain ⟨hf3, a9, hc3⟩ := HSt.out w3 hc3; obtain ⟨a0, a1, a2, a3, a4⟩ := hf3; simp only at a0 a1 a2 a3 a4; have HC3 := Lib.hid hc3; clear hc3)
              | fail)
            refine HK0.out _ _ ?_
            go_wp2_with fail
            go_ret
            refine ⟨congrArg (fun z => Ending.returned (.int .i64 z)) ?_, HC3.out⟩
            show (0 : Int) = _
            rw [HRr.out]
            simp [HHh.out, H16.out, HL.out]
    · have e72 : (op == 72) = false := by simpa using h72
      have H72 := Lib.hid h72
      clear h72
      by_cases hl : k + 1 = n
      · have elb : ((k : Int) == (n : Int) - 1) = true := by simp; omega
        have HL := Lib.hid hl
        clear hl
        by_cases h73 : op = 73
        · subst h73
          go_wp2_with (first
            | (with_reducible refine HAw.out.mono ?_; rintro e w3 ⟨rfl, hc3⟩; obtain ⟨hf3, a9, hc3⟩ := HSt.out w3 hc3; obtain ⟨a0, a1, a2, a3, a4⟩ := hf3; simp only at a0 a1 a2 a3 a4; have HC3 := Lib.hid hc3; clear hc3)
            | fail)
          refine HK0.out _ _ ?_
          go_wp2_with fail
          go_ret
          refine ⟨congrArg (fun z => Ending.returned (.int .i64 z)) ?_, HC3.out⟩
          show (0 : Int) = _
          rw [HRr.out]
          simp [H72.out, HL.out]
        · have e73 : (op != 73) = true := by simpa using h73
          by_cases h32 : op = 32
          · subst h32
            go_wp2_with (first
              | (with_reducible refine HAw.out.mono ?_; rintro e w3 ⟨rfl, hc3⟩; obtain ⟨hf3, a9, hc3⟩ := HSt.out w3 hc3; obtain ⟨a0, a1, a2, a3, a4⟩ := hf3; simp only at a0 a1 a2 a3 a4; have HC3 := Lib.hid hc3; clear hc3)
              | fail)
            refine HK0.out _ _ ?_
            go_wp2_with fail
            go_ret
            refine ⟨congrArg (fun z => Ending.returned (.int .i64 z)) ?_, HC3.out⟩
            show (0 : Int) = _
            rw [HRr.out]
            simp [H72.out, HL.out]
          · have e32 : (op != 32) = true := by simpa using h32
            have H73 := Lib.hid h73
            have H32 := Lib.hid h32
            clear h73 h32
            go_wp2_with (first
              | (with_reducible refine HAw.out.mono ?_; rintro e w3 ⟨rfl, hc3⟩; obtain ⟨hf3, a9, hc3⟩ := HSt.out w3 hc3; obtain ⟨a0, a1, a2, a3, a4⟩ := hf3; simp only at a0 a1 a2 a3 a4; have HC3 := Lib.hid hc3; clear hc3)
              | fail)
            go_ret
            refine ⟨congrArg (fun z => Ending.returned (.int .i64 z)) ?_, HC3.out⟩
            show (10 : Int) = _
            rw [HRr.out]
            simp [H72.out, HL.out, H73.out, H32.out]
      · have elb : ((k : Int) == (n : Int) - 1) = false := by simp; omega
        have HL := Lib.hid hl
        clear hl
        go_wp2_with (first
          | (with_reducible refine HAw.out.mono ?_; rintro e w3 ⟨rfl, hc3⟩; obtain ⟨hf3, a9, hc3⟩ := HSt.out w3 hc3; obtain ⟨a0, a1, a2, a3, a4⟩ := hf3; simp only at a0 a1 a2 a3 a4; have HC3 := Lib.hid hc3; clear hc3)
          | fail)
        refine HK0.out _ _ ?_
        go_wp2_with fail
        go_ret
        refine ⟨congrArg (fun z => Ending.returned (.int .i64 z)) ?_, HC3.out⟩
        show (0 : Int) = _
        rw [HRr.out]
        simp [H72.out, HL.out]
end Go.Proofs.YtadogffllkompaaDoor
