/-
  Do.
-/
import Derived.Test.YtlffcccicpdnfaaFrG
namespace Go.Proofs.Ytlffcccicpdnfaa
open Go.RowKit Go.BigFrame

attribute [local go_sem] Oper.semAt_some

theorem do1_any {w : World} {b : Nat} {F : FV} (h : FR w b F) {k d : Nat} (hk : k < 8) (hd : d < 10) {Bf Bi : Nat} (hf : w.cell? ⟨Bf, 0, none⟩ = some (.pointer (some ⟨b, 0, none⟩))) (hi : w.cell? ⟨Bi, 1, none⟩ = some (.int .i64 (d : Int))) :
    Calls Try.prog 40 #[.pointer (some ⟨b, 50 + k * 5, none⟩), .pointer (some ⟨Bf, 0, none⟩), .pointer (some ⟨Bi, 0, none⟩)] w fun e w' => e = .returned (.tuple #[]) ∧ FR w' b (upd F d (F (10 + k))) ∧ Ch [b] w w' := by
  obtain ⟨c0, c1, c2, c3, c4⟩ := h.word hk
  obtain ⟨d0, d1, d2, d3, d4⟩ := h.reg hd
  have hfr := h.fr
  have hd' : (d : Int) < 10 := by omega
  have HK := Lib.hid (show FR (st5 w b (d * 5) (F (10 + k))) b (upd F d (F (10 + k))) ∧ Ch [b] w (st5 w b (d * 5) (F (10 + k))) from ⟨h.set (by omega) _, st5_ch w b _ _⟩)
  generalize F (10 + k) = X at *
  clear h hk
  go_enter Try.func40, Try.ntmps40
  go_region
  exact ⟨rfl, .tuple #[], by simp [results, Try.f40, go_sem], rfl, HK.out.1.quiet (Ch.refl [] _).drew, HK.out.2.drew⟩
theorem with_do1 {w : World} {b : Nat} {F : FV} (h : FR w b F) {k d : Nat} (hk : k < 8) (hd : d < 10) {Bf Bi : Nat} (hf : w.cell? ⟨Bf, 0, none⟩ = some (.pointer (some ⟨b, 0, none⟩))) (hi : w.cell? ⟨Bi, 1, none⟩ = some (.int .i64 (d : Int))) :
    Calls Try.prog 26 #[.slice (some ⟨b, 50, none⟩) 8 8, .int .i64 (k : Int), .func (.func 40) #[] #[.pointer (some ⟨Bf, 0, none⟩), .pointer (some ⟨Bi, 0, none⟩)]] w fun e w' => e = .returned (.int .i64 0) ∧ FR w' b (upd F d (F (10 + k))) ∧ Ch [b] w w' := by
  have HC := Lib.hid (do1_any h hk hd hf hi)
  have d1 : (k : Int) < 8 := by omega
  have d2 : ¬ 8 ≤ k := by omega
  clear h hk hd hf hi
  go_enter Try.func26, Try.ntmps26
  go_wp2_with (first | (with_reducible refine HC.out.mono ?_; rintro e w1 ⟨rfl, hF, hc⟩) | fail)
  go_ret
  exact ⟨rfl, hF, hc⟩

/-- What an instruction makes of a frame; the error. -/
def fdo (F : FV) (x : I5) : FV × Int :=
  if chk x ≠ 0 then (F, chk x)
  else if cls x.op = 1 then sumV F x
  else if x.op = 64 then (if 0 ≤ x.o ∧ x.o ≤ 7 then (upd F x.d.toNat (F (10 + x.o.toNat)), 0) else (F, 2))
  else if x.op = 65 then (if 0 ≤ x.o ∧ x.o ≤ 7 then (upd F (10 + x.o.toNat) (F x.s.toNat), 0) else (F, 2))
  else (F, 11)

set_option maxHeartbeats 4000000 in
theorem fdo_any {w : World} {b : Nat} {F : FV} (h : FR w b F) (hW : FW F) {x : I5} (hx : Fit x) :
    Calls Try.prog 22 #[.pointer (some ⟨b, 0, none⟩), iv x] w fun e w' => e = .returned (.int .i64 (fdo F x).2) ∧ FR w' b (fdo F x).1 ∧ Ch [b] w w' := by
  have HChk := Lib.hid (fun w => check_any hx w)
  have HCls := Lib.hid (fun w => class_any hx.op.1 hx.op.2 w)
  obtain ⟨op, d, s, o, i⟩ := x
  obtain ⟨W, hWd⟩ : ∃ W, W = (w.alloc (.cells #[.pointer (some ⟨b, 0, none⟩)] 23)).alloc (.cells #[.int .i64 op, .int .i64 d, .int .i64 s, .int .i64 o, .int .i64 i] 63) := ⟨_, rfl⟩
  have hc : Ch [] w W := by rw [hWd]; exact ((Ch.refl [] w).alloc _).alloc _
  have hp : W.cell? ⟨w.heap.size, 0, none⟩ = some (.pointer (some ⟨b, 0, none⟩)) := by rw [hWd]; exact (World.cell?_alloc_past _ _ _ (by simp)).trans (cell_new w _ _).1
  have hI : Five W (w.heap.size + 1) ⟨op, d, s, o, i⟩ := by have := Five.new (w.alloc (.cells #[.pointer (some ⟨b, 0, none⟩)] 23)) ⟨op, d, s, o, i⟩ 63; rw [World.size_alloc] at this; rw [hWd]; exact this
  have HF := Lib.hid (h.quiet hc)
  have HP := Lib.hid hp
  have HI := Lib.hid hI
  have HC := Lib.hid hc
  have HWd := Lib.hid hWd
  have HFW := Lib.hid hW
  have HX := Lib.hid hx
  have HBl := Lib.hid h.lt
  obtain ⟨G, hG⟩ : ∃ G, fdo F ⟨op, d, s, o, i⟩ = G := ⟨_, rfl⟩
  rw [hG]
  have HG := Lib.hid hG
  obtain ⟨a0, a1, a2, a3, a4⟩ := hI
  simp only at *
  unfold iv at *
  by_cases h0 : chk ⟨op, d, s, o, i⟩ = 0
  · rw [h0] at HChk
    obtain ⟨c, hcl⟩ : ∃ c, cls op = c := ⟨_, rfl⟩
    rw [hcl] at HCls
    obtain ⟨-, hB, -⟩ := chk_zero h0
    unfold inB at hB
    simp only at hB
    obtain ⟨kd, rfl⟩ : ∃ k : Nat, d = (k : Int) := ⟨d.toNat, by omega⟩
    obtain ⟨ks, rfl⟩ : ∃ k : Nat, s = (k : Int) := ⟨s.toNat, by omega⟩
    have hkd : kd < 10 := by omega
    have hks : ks < 10 := by omega
    have hks' : (ks : Int) < 10 := by omega
    have hg : G = if c = 1 then sumV F ⟨op, kd, ks, o, i⟩ else if op = 64 then (if 0 ≤ o ∧ o ≤ 7 then (upd F kd (F (10 + o.toNat)), 0) else (F, 2)) else if op = 65 then (if 0 ≤ o ∧ o ≤ 7 then (upd F (10 + o.toNat) (F ks), 0) else (F, 2)) else (F, 11) := by
      rw [← hG]; unfold fdo; rw [if_neg (by rw [h0]; simp)]; simp only [hcl, Int.toNat_natCast]
    have HG := Lib.hid hg
    have HSm := Lib.hid (fun W (h : FR W b F) (h1 : c = 1) => fsum_any h hW (x := ⟨op, kd, ks, o, i⟩) hx.op (hcl.trans h1) (by simp only; omega) (by simp only; omega))
    unfold iv at HSm
    clear hG h0 h hW hx hc hWd hg hcl hB
    go_enter Try.func22, Try.ntmps22
    go_wp2_with fail
    rw [← HWd.out]
    with_reducible refine (HChk.out _).mono ?_
    rintro e w1 ⟨rfl, hc1⟩
    have HF1 := Lib.hid (HF.out.quiet hc1)
    have HC1 := Lib.hid (HC.out.trans hc1)
    have hp1 := hc1.cell (p := ⟨w.heap.size, 0, none⟩) (cell_lt hp) (by simp)
    rw [hp] at hp1
    clear a0 a1 a2 a3 a4 hp HP HC HF
    obtain ⟨a0, a1, a2, a3, a4⟩ := HI.out.ch hc1 (by simp)
    simp only at a0 a1 a2 a3 a4
    clear hc1 HI HWd HChk HFW HX
    go_wp2_with fail
    with_reducible refine (HCls.out _).mono ?_
    rintro e w1 ⟨rfl, rfl⟩
    clear HCls
    by_cases h1 : c = 1
    · have HZ := Lib.hid (show G = sumV F ⟨op, kd, ks, o, i⟩ by rw [HG.out, if_pos h1])
      have HSm1 := Lib.hid (HSm.out w1 HF1.out h1)
      subst h1
      generalize sumV F ⟨op, kd, ks, o, i⟩ = V at *
      clear HG HSm
      go_wp2_with fail
      with_reducible refine HSm1.out.mono ?_
      rintro e w2 ⟨rfl, hF2, hc2⟩
      have HK := Lib.hid (And.intro hF2 ((HC1.out.mono (by simp)).trans hc2))
      clear hF2 hc2 HSm1
      go_wp2_with fail
      go_ret
      rw [HZ.out]
      exact ⟨rfl, HK.out⟩
    · have e1 : (c == 1) = false := by simpa using h1
      have hg2 := HG.out
      rw [if_neg h1] at hg2
      have HG2 := Lib.hid hg2
      clear HG HSm h1 hg2
      by_cases h64 : op = 64
      · subst h64
        have hg3 := HG2.out
        rw [if_pos rfl] at hg3
        by_cases ho : 0 ≤ o ∧ o ≤ 7
        · rw [if_pos ho] at hg3
          obtain ⟨ko, rfl⟩ : ∃ k : Nat, o = (k : Int) := ⟨o.toNat, by omega⟩
          have hko : ko < 8 := by omega
          rw [Int.toNat_natCast] at hg3
          have HZ := Lib.hid hg3
          have HWi := Lib.hid (with_do1 (w := w1.drew) (HF1.out.quiet (Ch.refl [] w1).drew) hko hkd (Bf := w.heap.size) (Bi := w.heap.size + 1) hp1 a1)
          clear HG2 hg3 ho
          go_wp2_with fail
          go_region_held (fun w' => w'.cell? ⟨w.heap.size, 0, none⟩ = some (.pointer (some ⟨b, 0, none⟩)) ∧ w'.cell? ⟨w.heap.size + 1, 3, none⟩ = some (.int .i64 (ko : Int))) (go_keep) (first
            | (with_reducible refine HWi.out.mono ?_; rintro e w2 ⟨rfl, hF2, hc2⟩; have hc12 := (Ch.refl [b] w1).drew.trans hc2; have u0 := hc12.cell (p := ⟨w.heap.size, 0, none⟩) (cell_lt hp1) (by have := HBl.out; simp; omega); have u1 := hc12.cell (p := ⟨w.heap.size + 1, 3, none⟩) (cell_lt a3) (by have := HBl.out; simp; omega); have HK := Lib.hid (And.intro hF2 ((HC1.out.mono (by simp)).trans hc12)); clear hF2 hc2 hc12)
            | fail)
          simp only [Exit.then]
          go_wp2_with fail
          go_ret
          rw [HZ.out]
          exact ⟨rfl, HK.out⟩
        · rw [if_neg ho] at hg3
          have HZ := Lib.hid hg3
          have HWo := Lib.hid (fun V w => with_out b 50 8 (at' := o) (by omega) V w)
          have HK := Lib.hid (And.intro (HF1.out.quiet (Ch.refl [] w1).drew) ((HC1.out.mono (T := [b]) (by simp)).drew))
          clear HG2 hg3 ho
          go_wp2_with fail
          go_region_held (fun w' => w'.cell? ⟨w.heap.size, 0, none⟩ = some (.pointer (some ⟨b, 0, none⟩)) ∧ w'.cell? ⟨w.heap.size + 1, 3, none⟩ = some (.int .i64 o)) (go_keep) (first
            | (with_reducible refine (HWo.out _ _).mono ?_; rintro e w2 ⟨rfl, rfl⟩)
            | fail)
          simp only [Exit.then]
          go_wp2_with fail
          go_ret
          rw [HZ.out]
          exact ⟨rfl, HK.out⟩
      · have hg3 := HG2.out
        rw [if_neg h64] at hg3
        have e64 : (op == 64) = false := by simpa using h64
        clear HG2 h64
        by_cases h65 : op = 65
        · subst h65
          rw [if_pos rfl] at hg3
          obtain ⟨x0, x1, x2, x3, x4⟩ := HF1.out.reg hks
          by_cases ho : 0 ≤ o ∧ o ≤ 7
          · rw [if_pos ho] at hg3
            obtain ⟨ko, rfl⟩ : ∃ k : Nat, o = (k : Int) := ⟨o.toNat, by omega⟩
            have hko : ko < 8 := by omega
            rw [Int.toNat_natCast] at hg3
            have HZ := Lib.hid hg3
            have HSt := Lib.hid (setword_in (w := w1.drew) (HF1.out.quiet (Ch.refl [] w1).drew) hko (F ks))
            have HRg := Lib.hid (fun W (h : FR W b (upd F (10 + ko) (F ks))) => show At5 W b (ks * 5) (F ks) from by have := h.reg hks; rwa [upd_other F (F ks) (by omega : ks ≠ 10 + ko)] at this)
            unfold vv at HSt
            generalize F ks = X at *
            clear hg3 ho
            go_wp2_with fail
            go_region_held (fun w' => w'.cell? ⟨w.heap.size, 0, none⟩ = some (.pointer (some ⟨b, 0, none⟩)) ∧ w'.cell? ⟨w.heap.size + 1, 2, none⟩ = some (.int .i64 (ks : Int)) ∧ w'.cell? ⟨w.heap.size + 1, 3, none⟩ = some (.int .i64 (ko : Int)) ∧ w'.cell? ⟨b, ks * 5, none⟩ = some (.bool X.r) ∧ w'.cell? ⟨b, ks * 5 + 1, none⟩ = some (.int .i64 X.m) ∧ w'.cell? ⟨b, ks * 5 + 2, none⟩ = some (.int .i64 X.s) ∧ w'.cell? ⟨b, ks * 5 + 3, none⟩ = some (.int .i64 X.g) ∧ w'.cell? ⟨b, ks * 5 + 4, none⟩ = some (.int .u64 (X.n : Int))) (go_keep) (first
              | (with_reducible refine HSt.out.mono ?_; rintro e w2 ⟨rfl, hF2, hc2⟩; have hc12 := (Ch.refl [b] w1).drew.trans hc2; have u0 := hc12.cell (p := ⟨w.heap.size, 0, none⟩) (cell_lt hp1) (by have := HBl.out; simp; omega); have u2 := hc12.cell (p := ⟨w.heap.size + 1, 2, none⟩) (cell_lt a2) (by have := HBl.out; simp; omega); have u1 := hc12.cell (p := ⟨w.heap.size + 1, 3, none⟩) (cell_lt a3) (by have := HBl.out; simp; omega); obtain ⟨v0, v1, v2, v3, v4⟩ := HRg.out w2 hF2; have HK := Lib.hid (And.intro hF2 ((HC1.out.mono (by simp)).trans hc12)); clear hF2 hc2 hc12)
              | fail)
            simp only [Exit.then]
            go_wp2_with fail
            go_ret
            rw [HZ.out]
            exact ⟨rfl, HK.out⟩
          · rw [if_neg ho] at hg3
            have HZ := Lib.hid hg3
            have HSt := Lib.hid (setword_out (w := w1.drew) b (k := o) (by omega) (F ks))
            unfold vv at HSt
            generalize F ks = X at *
            clear hg3 ho
            go_wp2_with fail
            go_region_held (fun w' => w'.cell? ⟨w.heap.size, 0, none⟩ = some (.pointer (some ⟨b, 0, none⟩)) ∧ w'.cell? ⟨w.heap.size + 1, 2, none⟩ = some (.int .i64 (ks : Int)) ∧ w'.cell? ⟨w.heap.size + 1, 3, none⟩ = some (.int .i64 o) ∧ w'.cell? ⟨b, ks * 5, none⟩ = some (.bool X.r) ∧ w'.cell? ⟨b, ks * 5 + 1, none⟩ = some (.int .i64 X.m) ∧ w'.cell? ⟨b, ks * 5 + 2, none⟩ = some (.int .i64 X.s) ∧ w'.cell? ⟨b, ks * 5 + 3, none⟩ = some (.int .i64 X.g) ∧ w'.cell? ⟨b, ks * 5 + 4, none⟩ = some (.int .u64 (X.n : Int))) (go_keep) (first
              | (with_reducible refine HSt.out.mono ?_; rintro e w2 ⟨rfl, hc2⟩; have hc12 := (Ch.refl [] w1).drew.trans hc2; have u0 := hc12.cell (p := ⟨w.heap.size, 0, none⟩) (cell_lt hp1) (by simp); have u2 := hc12.cell (p := ⟨w.heap.size + 1, 2, none⟩) (cell_lt a2) (by simp); have u1 := hc12.cell (p := ⟨w.heap.size + 1, 3, none⟩) (cell_lt a3) (by simp); have v0 := hc12.cell (p := ⟨b, ks * 5, none⟩) (cell_lt x0) (by simp); have v1 := hc12.cell (p := ⟨b, ks * 5 + 1, none⟩) (cell_lt x1) (by simp); have v2 := hc12.cell (p := ⟨b, ks * 5 + 2, none⟩) (cell_lt x2) (by simp); have v3 := hc12.cell (p := ⟨b, ks * 5 + 3, none⟩) (cell_lt x3) (by simp); have v4 := hc12.cell (p := ⟨b, ks * 5 + 4, none⟩) (cell_lt x4) (by simp); have HK := Lib.hid (And.intro (HF1.out.quiet hc12) ((HC1.out.trans hc12).mono (T := [b]) (by simp))); clear hc2 hc12)
              | fail)
            simp only [Exit.then]
            go_wp2_with fail
            go_ret
            rw [HZ.out]
            exact ⟨rfl, HK.out⟩
        · rw [if_neg h65] at hg3
          have HZ := Lib.hid hg3
          have e65 : (op == 65) = false := by simpa using h65
          have HK := Lib.hid (And.intro HF1.out (HC1.out.mono (T := [b]) (by simp)))
          clear hg3 h65
          go_wp2_with fail
          go_ret
          rw [HZ.out]
          exact ⟨rfl, HK.out⟩
  · have HZ := Lib.hid (show G = (F, chk ⟨op, d, s, o, i⟩) by rw [← hG]; unfold fdo; rw [if_pos h0])
    have hn : (chk ⟨op, d, s, o, i⟩ != 0) = true := by simpa using h0
    generalize chk ⟨op, d, s, o, i⟩ = c at *
    clear hG h0 h hW hx hc hWd
    go_enter Try.func22, Try.ntmps22
    go_wp2_with fail
    rw [← HWd.out]
    with_reducible refine (HChk.out _).mono ?_
    rintro e w1 ⟨rfl, hc1⟩
    have HC1 := Lib.hid hc1
    clear hc1 a0 a1 a2 a3 a4 hp
    go_wp2_with fail
    go_ret
    rw [HZ.out]
    exact ⟨rfl, HF.out.quiet HC1.out, (HC.out.trans HC1.out).mono (by simp)⟩
end Go.Proofs.Ytlffcccicpdnfaa
