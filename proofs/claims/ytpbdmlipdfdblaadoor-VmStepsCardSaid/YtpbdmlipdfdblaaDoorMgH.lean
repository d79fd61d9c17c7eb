/-
  Several texts in one: What an instruction of class Alu does. · Do. · Jumps; the chapter's example. · The chapter's example. · Large values: a frame of ninety cells, five things: made, read, written.
-/
import Derived.Test.YtpbdmlipdfdblaaDoorMgG
import Derived.Deep.RegionHeld
import Derived.Test.YtpbdmlipdfdblaaDoorMgB
import Derived.Great.Walk
import Derived.Laws.ResultCell
namespace Go.Proofs.YtpbdmlipdfdblaaDoor
open Go.RowKit Go.BigFrame

attribute [local go_sem] Oper.semAt_some

theorem at5_new2 (w : World) (x y : V5) (t : TypeId) : ∀ i (hi : i < [x, y].length), At5 (w.alloc (.cells #[.bool x.r, .int .i64 x.m, .int .i64 x.s, .int .i64 x.g, .int .u64 (x.n : Int), .bool y.r, .int .i64 y.m, .int .i64 y.s, .int .i64 y.g, .int .u64 (y.n : Int)] t)) w.heap.size (0 + i * 5) [x, y][i] := by
  intro i hi
  match i, hi with
  | 0, _ => exact ⟨by rw [World.cell?_alloc_at _ _ _ _ rfl]; rfl, by rw [World.cell?_alloc_at _ _ _ _ rfl]; rfl, by rw [World.cell?_alloc_at _ _ _ _ rfl]; rfl, by rw [World.cell?_alloc_at _ _ _ _ rfl]; rfl, by rw [World.cell?_alloc_at _ _ _ _ rfl]; rfl⟩
  | 1, _ => exact ⟨by rw [World.cell?_alloc_at _ _ _ _ rfl]; rfl, by rw [World.cell?_alloc_at _ _ _ _ rfl]; rfl, by rw [World.cell?_alloc_at _ _ _ _ rfl]; rfl, by rw [World.cell?_alloc_at _ _ _ _ rfl]; rfl, by rw [World.cell?_alloc_at _ _ _ _ rfl]; rfl⟩

/-- What it makes of a frame; the error. -/
def sumV (F : FV) (x : I5) : FV × Int :=
  if x.op = 11 ∨ x.op = 27 then (upd F x.d.toNat (oth F x 12), 0)
  else if ((F x.d.toNat).r || (oth F x 12).r) = true then (F, 17)
  else (upd F x.d.toNat (num (doV x.op (F x.d.toNat).n (oth F x 12).n)), 0)

set_option maxHeartbeats 4000000 in
theorem fsum_any {w : World} {b : Nat} {F : FV} (h : FR w b F) (hW : FW F) {x : I5} (hf : fit x.op) (hc1 : cls x.op = 1) (hd : 0 ≤ x.d ∧ x.d ≤ 9) (hs : 0 ≤ x.s ∧ x.s ≤ 9) :
    Calls Tryd.prog 84 #[.pointer (some ⟨b, 0, none⟩), iv x] w fun e w' => e = .returned (.int .i64 (sumV F x).2) ∧ FR w' b (sumV F x).1 ∧ Cf b w w' := by
  have HO := Lib.hid (fun W (h : FR W b F) => operand_any h hs 12)
  obtain ⟨Y, hY⟩ : ∃ Y, oth F x 12 = Y := ⟨_, rfl⟩
  have hYn : W64 Y.n := by rw [← hY]; exact oth_fw hW x 12
  have hE : doE x.op = 0 := by unfold doE; rw [if_pos hc1]
  have HD := Lib.hid (fun w => do_any hf (hW x.d.toNat) hYn w)
  rw [hE] at HD
  have hS : sumV F x = if x.op = 11 ∨ x.op = 27 then (upd F x.d.toNat Y, 0) else if ((F x.d.toNat).r || Y.r) = true then (F, 17) else (upd F x.d.toNat (num (doV x.op (F x.d.toNat).n Y.n)), 0) := by
    unfold sumV; rw [hY]
  rw [hS]
  rw [hY] at HO
  obtain ⟨op, d, s, o, i⟩ := x
  obtain ⟨k, rfl⟩ : ∃ k : Nat, d = (k : Int) := ⟨d.toNat, by simp at hd; omega⟩
  have hk : k < 10 := by simp at hd; omega
  have hk' : (k : Int) < 10 := by omega
  simp only [Int.toNat_natCast] at *
  have hh := h.reg hk
  obtain ⟨X, hX⟩ : ∃ X, F k = X := ⟨_, rfl⟩
  have HX := Lib.hid hX
  rw [hX] at HD hh ⊢
  obtain ⟨G, hG⟩ : ∃ G, (if op = 11 ∨ op = 27 then (upd F k Y, (0 : Int)) else if (X.r || Y.r) = true then (F, 17) else (upd F k (num (doV op X.n Y.n)), 0)) = G := ⟨_, rfl⟩
  rw [hG]
  have HM := Lib.hid (show (op = 11 ∨ op = 27) → G = (upd F k Y, 0) from fun h => by rw [← hG, if_pos h])
  have HR := Lib.hid (show ¬ (op = 11 ∨ op = 27) → (X.r || Y.r) = true → G = (F, 17) from fun h h2 => by rw [← hG, if_neg h, if_pos h2])
  have HS := Lib.hid (show ¬ (op = 11 ∨ op = 27) → (X.r || Y.r) = false → G = (upd F k (num (doV op X.n Y.n)), 0) from fun h h2 => by rw [← hG, if_neg h, if_neg (by rw [h2]; simp)])
  obtain ⟨q, hq⟩ : ∃ q, (X.r || Y.r) = q := ⟨_, rfl⟩
  rw [hq] at HR HS
  have HQ := Lib.hid (show [X, Y].any (·.r) = q by rw [← hq]; simp)
  have HNu := Lib.hid (fun w => num_any (doV op X.n Y.n) w)
  generalize doV op X.n Y.n = N at *
  clear hG hq
  obtain ⟨w1, hw1⟩ : ∃ W, W = w.alloc (.cells #[.int .i64 op, .int .i64 (k : Int), .int .i64 s, .int .i64 o, .int .i64 i] 59) := ⟨_, rfl⟩
  have hc : Ch [] w w1 := by rw [hw1]; exact (Ch.refl [] w).alloc _
  have hI : Five w1 w.heap.size ⟨op, k, s, o, i⟩ := by rw [hw1]; exact Five.new w ⟨op, k, s, o, i⟩ 59
  have HI := Lib.hid hI
  have HF := Lib.hid (h.quiet hc)
  have HC := Lib.hid hc
  have HW := Lib.hid hw1
  have HO1 := Lib.hid (HO.out w1.drew (h.quiet hc.drew))
  have HO2 := Lib.hid (HO.out (w1.alloc (.cells #[.bool false, .int .i64 0, .int .i64 0, .int .i64 0, .int .u64 0] 41)).drew (h.quiet (hc.alloc _).drew))
  have hN : B5 (w1.alloc (.cells #[.bool false, .int .i64 0, .int .i64 0, .int .i64 0, .int .u64 0] 41)).drew w1.heap.size (num 0) := (B5.new w1 (num 0) 41).quiet (Ch.refl [] _).drew
  have HN := Lib.hid hN
  have n1 : w1.heap.size ≠ w.heap.size := Nat.ne_of_gt hI.lt
  unfold iv vv at HO1 HO2
  unfold iv
  clear h hW hf hc1 hd hs hY hE hS hc hw1 hX hh hYn HO hN
  obtain ⟨a0, a1, a2, a3, a4⟩ := hI
  simp only at a0 a1 a2 a3 a4
  go_enter Tryd.func84, Tryd.ntmps84
  go_wp2_with fail
  rw [← HW.out]
  clear HW
  go_region_held (fun w' => w'.cell? ⟨w.heap.size, 0, none⟩ = some (.int .i64 op) ∧ w'.cell? ⟨w.heap.size, 1, none⟩ = some (.int .i64 (k : Int)) ∧ w'.cell? ⟨w.heap.size, 2, none⟩ = some (.int .i64 s) ∧ w'.cell? ⟨w.heap.size, 3, none⟩ = some (.int .i64 o) ∧ w'.cell? ⟨w.heap.size, 4, none⟩ = some (.int .i64 i)) (go_keep) (first
    | (with_reducible refine HO1.out.mono ?_; rintro e w2 ⟨rfl, hc2⟩; have HC2 := Lib.hid (Ch.trans (Ch.refl [] w1).drew hc2); obtain ⟨q0, q1, q2, q3, q4⟩ := HI.out.ch ((Ch.refl [] w1).drew.trans hc2) (by simp); simp only at q0 q1 q2 q3 q4; clear hc2)
    | (with_reducible refine HO2.out.mono ?_; rintro e w2 ⟨rfl, hc2⟩; have HC2 := Lib.hid (((Ch.refl [] w1).alloc (.cells #[.bool false, .int .i64 0, .int .i64 0, .int .i64 0, .int .u64 0] 41)).drew.trans hc2); obtain ⟨q0, q1, q2, q3, q4⟩ := HI.out.ch HC2.out (by simp); simp only at q0 q1 q2 q3 q4; obtain ⟨⟨y0, y1, y2, y3, y4⟩, yf⟩ := HN.out.quiet hc2; clear hc2)
    | fail)
  all_goals simp only [Exit.then]
  all_goals first
    | (obtain ⟨W, hW⟩ : ∃ W, w2.alloc (.cells #[.bool Y.r, .int .i64 Y.m, .int .i64 Y.s, .int .i64 Y.g, .int .u64 (Y.n : Int)] 41) = W := ⟨_, rfl⟩
       obtain ⟨B, hB⟩ : ∃ B, w2.heap.size = B := ⟨_, rfl⟩
       have hcW : Ch [] w1 W := by rw [← hW]; exact HC2.out.alloc _
       have hYB : B5 W B Y := by rw [← hW, ← hB]; exact B5.new w2 Y 41
       have hBl : w1.heap.size ≤ B := by rw [← hB]; exact HC2.out.size
       rw [hW, hB]
       clear hW hB q0 q1 q2 q3 q4)
    | (obtain ⟨W, hW⟩ : ∃ W, st5 w2 w1.heap.size 0 Y = W := ⟨_, rfl⟩
       obtain ⟨B, hB⟩ : ∃ B, w1.heap.size = B := ⟨_, rfl⟩
       have hcW : Ch [] w1 W := by rw [← hW]; exact HC2.out.fresh (st5_ch w2 w1.heap.size 0 Y) (by simp)
       have hYB : B5 W B Y := by rw [← hW, ← hB]; exact B5.set (y := num 0) ⟨⟨y0, y1, y2, y3, y4⟩, yf⟩ Y
       have hBl : w1.heap.size ≤ B := by rw [← hB]; exact Nat.le_refl _
       unfold st5 at hW
       simp only [Nat.zero_add] at hW
       rw [hW, hB]
       clear hW hB q0 q1 q2 q3 q4 y0 y1 y2 y3 y4 yf)
  all_goals
    have hFW : FR W b F := HF.out.quiet hcW
    have hb1 := HF.out.lt
    have hb2 := HI.out.lt
    have hB1 : w.heap.size ≠ B := by omega
    have hbB : b ≠ B := by omega
    have HFW := Lib.hid hFW
    have HCW := Lib.hid (HC.out.trans hcW)
    clear a0 a1 a2 a3 a4
    obtain ⟨a0, a1, a2, a3, a4⟩ := HI.out.ch hcW (by simp)
    simp only at a0 a1 a2 a3 a4
    have xx := hFW.reg hk
    rw [HX.out] at xx
    obtain ⟨x0, x1, x2, x3, x4⟩ := xx
    have xf := hFW.fr
    obtain ⟨⟨y0, y1, y2, y3, y4⟩, yf⟩ := hYB
    simp only [Nat.zero_add] at y1 y2 y3 y4
    clear hFW hb1 hb2 hcW hBl n1 HC2 HF HC HN HI
    by_cases h11 : op = 11 ∨ op = 27
    · have HZ := Lib.hid (HM.out h11)
      have HK := Lib.hid (show FR (st5 W b (k * 5) Y) b (upd F k Y) ∧ Cf b w (st5 W b (k * 5) Y) from ⟨HFW.out.set (by omega) Y, (Cf.of (b := b) HCW.out).trans (st5_cf W b _ Y (by omega))⟩)
      clear HM HR HS HQ HNu HD HO1 HO2
      rcases h11 with rfl | rfl
      all_goals
        go_wp2_with fail
        go_ret
        rw [HZ.out]
        exact ⟨rfl, HK.out⟩
    · have e11 : (op == 11) = false := by rw [beq_eq_false_iff_ne]; exact fun h => h11 (.inl h)
      have e27 : (op == 27) = false := by rw [beq_eq_false_iff_ne]; exact fun h => h11 (.inr h)
      have HR1 := Lib.hid (HR.out h11)
      have HS1 := Lib.hid (HS.out h11)
      have HH := Lib.hid (fun t => hasref_any (w := (W.alloc (.cells #[.bool X.r, .int .i64 X.m, .int .i64 X.s, .int .i64 X.g, .int .u64 (X.n : Int), .bool Y.r, .int .i64 Y.m, .int .i64 Y.s, .int .i64 Y.g, .int .u64 (Y.n : Int)] t)).drew) (n := 2) (cap := 2) (L := [X, Y]) rfl (by decide) (.inr ⟨W.heap.size, 0, rfl, fun i hi => (at5_new2 W X Y t i hi).ch (Ch.refl [] _).drew (by simp)⟩))
      rw [HQ.out] at HH
      have HAl := Lib.hid (fun t => ((Ch.refl [] W).alloc (.cells #[.bool X.r, .int .i64 X.m, .int .i64 X.s, .int .i64 X.g, .int .u64 (X.n : Int), .bool Y.r, .int .i64 Y.m, .int .i64 Y.s, .int .i64 Y.g, .int .u64 (Y.n : Int)] t)).drew)
      clear HM HR HS HQ HO1 HO2 h11
      go_wp2_with fail
      go_region_held (fun w' => w'.cell? ⟨b, k * 5, none⟩ = some (.bool X.r) ∧ w'.cell? ⟨b, k * 5 + 1, none⟩ = some (.int .i64 X.m) ∧ w'.cell? ⟨b, k * 5 + 2, none⟩ = some (.int .i64 X.s) ∧ w'.cell? ⟨b, k * 5 + 3, none⟩ = some (.int .i64 X.g) ∧ w'.cell? ⟨b, k * 5 + 4, none⟩ = some (.int .u64 (X.n : Int)) ∧ w'.cell? ⟨B, 0, none⟩ = some (.bool Y.r) ∧ w'.cell? ⟨B, 1, none⟩ = some (.int .i64 Y.m) ∧ w'.cell? ⟨B, 2, none⟩ = some (.int .i64 Y.s) ∧ w'.cell? ⟨B, 3, none⟩ = some (.int .i64 Y.g) ∧ w'.cell? ⟨B, 4, none⟩ = some (.int .u64 (Y.n : Int))) (go_keep) (first
        | (with_reducible refine (HH.out _).mono ?_; rintro e w5 ⟨rfl, hc5⟩; have HC5 := Lib.hid ((HAl.out _).trans hc5); have hq0 := HC5.out.cell (p := ⟨b, k * 5, none⟩) (cell_lt x0) (by simp); have hq1 := HC5.out.cell (p := ⟨b, k * 5 + 1, none⟩) (cell_lt x1) (by simp); have hq2 := HC5.out.cell (p := ⟨b, k * 5 + 2, none⟩) (cell_lt x2) (by simp); have hq3 := HC5.out.cell (p := ⟨b, k * 5 + 3, none⟩) (cell_lt x3) (by simp); have hq4 := HC5.out.cell (p := ⟨b, k * 5 + 4, none⟩) (cell_lt x4) (by simp); have hr0 := HC5.out.cell (p := ⟨B, 0, none⟩) (cell_lt y0) (by simp); have hr1 := HC5.out.cell (p := ⟨B, 1, none⟩) (cell_lt y1) (by simp); have hr2 := HC5.out.cell (p := ⟨B, 2, none⟩) (cell_lt y2) (by simp); have hr3 := HC5.out.cell (p := ⟨B, 3, none⟩) (cell_lt y3) (by simp); have hr4 := HC5.out.cell (p := ⟨B, 4, none⟩) (cell_lt y4) (by simp); clear hc5)
        | fail)
      simp only [Exit.then]
      have HF5 := Lib.hid (HFW.out.quiet HC5.out)
      have HC6 := Lib.hid (HCW.out.trans HC5.out)
      clear hq0 hq1 hq2 hq3 hq4 hr0 hr1 hr2 hr3 hr4 HH HAl
      cases q
      · have HZ := Lib.hid (HS1.out rfl)
        have o0 := HC5.out.cell (p := ⟨w.heap.size, 0, none⟩) (cell_lt a0) (by simp)
        have p4 := HC5.out.cell (p := ⟨b, k * 5 + 4, none⟩) (cell_lt x4) (by simp)
        have r4 := HC5.out.cell (p := ⟨B, 4, none⟩) (cell_lt y4) (by simp)
        rw [a0] at o0
        rw [x4] at p4
        rw [y4] at r4
        clear HR1 HS1 a0 a1 a2 a3 a4 x0 x1 x2 x3 x4 y0 y1 y2 y3 y4 xf yf
        go_wp2_with fail
        go_region_held (fun w' => w'.cell? ⟨w.heap.size, 0, none⟩ = some (.int .i64 op) ∧ w'.cell? ⟨b, k * 5 + 4, none⟩ = some (.int .u64 (X.n : Int)) ∧ w'.cell? ⟨B, 4, none⟩ = some (.int .u64 (Y.n : Int))) (go_keep) (first
          | (with_reducible refine (HD.out _).mono ?_; rintro e w7 ⟨rfl, hc7⟩; have HC7 := Lib.hid ((Ch.refl [] w5).drew.trans hc7); have u0 := HC7.out.cell (p := ⟨w.heap.size, 0, none⟩) (cell_lt o0) (by simp); have u1 := HC7.out.cell (p := ⟨b, k * 5 + 4, none⟩) (cell_lt p4) (by simp); have u2 := HC7.out.cell (p := ⟨B, 4, none⟩) (cell_lt r4) (by simp); clear hc7)
          | fail)
        simp only [Exit.then]
        have HF7 := Lib.hid (HF5.out.quiet HC7.out)
        have HC8 := Lib.hid (HC6.out.trans HC7.out)
        clear u0 u1 u2 o0 p4 r4 HD HC7 HC6 HF5 HC5 HFW HCW
        go_wp2_with fail
        with_reducible refine (HNu.out _).mono ?_
        rintro e w9 ⟨rfl, hc9⟩
        have hF9 := HF7.out.quiet hc9
        have HC9 := Lib.hid (HC8.out.trans hc9)
        obtain ⟨x0, x1, x2, x3, x4⟩ := hF9.reg hk
        have xf := hF9.fr
        have HK := Lib.hid (show FR (st5 w9 b (k * 5) (num N)) b (upd F k (num N)) ∧ Cf b w (st5 w9 b (k * 5) (num N)) from ⟨hF9.set (by omega) _, (Cf.of (b := b) HC9.out).trans (st5_cf w9 b _ _ (by omega))⟩)
        generalize num N = Z at *
        unfold vv
        clear hc9 hF9 HF7 HC8
        go_wp2_with fail
        go_ret
        rw [HZ.out]
        exact ⟨rfl, HK.out⟩
      · have HZ := Lib.hid (HR1.out rfl)
        clear HR1 HS1
        go_wp2_with fail
        go_ret
        rw [HZ.out]
        exact ⟨rfl, HF5.out, Cf.of (b := b) HC6.out⟩
end Go.Proofs.YtpbdmlipdfdblaaDoor

namespace Go.Proofs.YtpbdmlipdfdblaaDoor
open Go.RowKit Go.BigFrame

attribute [local go_sem] Oper.semAt_some

theorem do1_any {w : World} {b : Nat} {F : FV} (h : FR w b F) {k d : Nat} (hk : k < 8) (hd : d < 10) {Bf Bi : Nat} (hf : w.cell? ⟨Bf, 0, none⟩ = some (.pointer (some ⟨b, 0, none⟩))) (hi : w.cell? ⟨Bi, 1, none⟩ = some (.int .i64 (d : Int))) :
    Calls Tryd.prog 85 #[.pointer (some ⟨b, 50 + k * 5, none⟩), .pointer (some ⟨Bf, 0, none⟩), .pointer (some ⟨Bi, 0, none⟩)] w fun e w' => e = .returned (.tuple #[]) ∧ FR w' b (upd F d (F (10 + k))) ∧ Cf b w w' := by
  obtain ⟨c0, c1, c2, c3, c4⟩ := h.word hk
  obtain ⟨d0, d1, d2, d3, d4⟩ := h.reg hd
  have hfr := h.fr
  have hd' : (d : Int) < 10 := by omega
  have HK := Lib.hid (show FR (st5 w b (d * 5) (F (10 + k))) b (upd F d (F (10 + k))) ∧ Cf b w (st5 w b (d * 5) (F (10 + k))) from ⟨h.set (by omega) _, st5_cf w b _ _ (by omega)⟩)
  generalize F (10 + k) = X at *
  clear h hk
  go_enter Tryd.func85, Tryd.ntmps85
  go_region
  exact ⟨rfl, .tuple #[], by simp [results, Tryd.f85, go_sem], rfl, HK.out.1.quiet (Ch.refl [] _).drew, HK.out.2.drew⟩
theorem with_do1 {w : World} {b : Nat} {F : FV} (h : FR w b F) {k d : Nat} (hk : k < 8) (hd : d < 10) {Bf Bi : Nat} (hf : w.cell? ⟨Bf, 0, none⟩ = some (.pointer (some ⟨b, 0, none⟩))) (hi : w.cell? ⟨Bi, 1, none⟩ = some (.int .i64 (d : Int))) :
    Calls Tryd.prog 64 #[.slice (some ⟨b, 50, none⟩) 8 8, .int .i64 (k : Int), .func (.func 85) #[] #[.pointer (some ⟨Bf, 0, none⟩), .pointer (some ⟨Bi, 0, none⟩)]] w fun e w' => e = .returned (.int .i64 0) ∧ FR w' b (upd F d (F (10 + k))) ∧ Cf b w w' := by
  have HC := Lib.hid (do1_any h hk hd hf hi)
  have d1 : (k : Int) < 8 := by omega
  have d2 : ¬ 8 ≤ k := by omega
  clear h hk hd hf hi
  go_enter Tryd.func64, Tryd.ntmps64
  go_wp2_with (first | (with_reducible refine HC.out.mono ?_; rintro e w1 ⟨rfl, hF, hc⟩) | fail)
  go_ret
  exact ⟨rfl, hF, hc⟩

/-- What an instruction makes of a frame; the error. -/
def fdo (F : FV) (x : I5) : FV × Int :=
  if chk x ≠ 0 then (F, chk x)
  else if cls x.op = 1 then sumV F x
  else if x.op = 64 then (if 0 ≤ x.o ∧ x.o ≤ 7 then (upd F x.d.toNat (F (10 + x.o.toNat)), 0) else (F, 2))
  else if x.op = 65 then (if 0 ≤ x.o ∧ x.o ≤ 7 then (upd F (10 + x.o.toNat) (F x.s.toNat), 0) else (F, 2))
  else (F, 11)

set_option maxHeartbeats 4000000 in
theorem fdo_any {w : World} {b : Nat} {F : FV} (h : FR w b F) (hW : FW F) {x : I5} (hx : Fit x) :
    Calls Tryd.prog 78 #[.pointer (some ⟨b, 0, none⟩), iv x] w fun e w' => e = .returned (.int .i64 (fdo F x).2) ∧ FR w' b (fdo F x).1 ∧ Cf b w w' := by
  have HChk := Lib.hid (fun w => check_any hx w)
  have HCls := Lib.hid (fun w => class_any hx.op.1 hx.op.2 w)
  obtain ⟨op, d, s, o, i⟩ := x
  obtain ⟨W, hWd⟩ : ∃ W, W = (w.alloc (.cells #[.pointer (some ⟨b, 0, none⟩)] 81)).alloc (.cells #[.int .i64 op, .int .i64 d, .int .i64 s, .int .i64 o, .int .i64 i] 59) := ⟨_, rfl⟩
  have hc : Ch [] w W := by rw [hWd]; exact ((Ch.refl [] w).alloc _).alloc _
  have hp : W.cell? ⟨w.heap.size, 0, none⟩ = some (.pointer (some ⟨b, 0, none⟩)) := by rw [hWd]; exact (World.cell?_alloc_past _ _ _ (by simp)).trans (cell_new w _ _).1
  have hI : Five W (w.heap.size + 1) ⟨op, d, s, o, i⟩ := by have := Five.new (w.alloc (.cells #[.pointer (some ⟨b, 0, none⟩)] 81)) ⟨op, d, s, o, i⟩ 59; rw [World.size_alloc] at this; rw [hWd]; exact this
  have HF := Lib.hid (h.quiet hc)
  have HP := Lib.hid hp
  have HI := Lib.hid hI
  have HC := Lib.hid hc
  have HWd := Lib.hid hWd
  have HFW := Lib.hid hW
  have HX := Lib.hid hx
  have HBl := Lib.hid h.lt
  obtain ⟨G, hG⟩ : ∃ G, fdo F ⟨op, d, s, o, i⟩ = G := ⟨_, rfl⟩
  rw [hG]
  have HG := Lib.hid hG
  obtain ⟨a0, a1, a2, a3, a4⟩ := hI
  simp only at *
  unfold iv at *
  by_cases h0 : chk ⟨op, d, s, o, i⟩ = 0
  · rw [h0] at HChk
    obtain ⟨c, hcl⟩ : ∃ c, cls op = c := ⟨_, rfl⟩
    rw [hcl] at HCls
    obtain ⟨-, hB, -⟩ := chk_zero h0
    unfold inB at hB
    simp only at hB
    obtain ⟨kd, rfl⟩ : ∃ k : Nat, d = (k : Int) := ⟨d.toNat, by omega⟩
    obtain ⟨ks, rfl⟩ : ∃ k : Nat, s = (k : Int) := ⟨s.toNat, by omega⟩
    have hkd : kd < 10 := by omega
    have hks : ks < 10 := by omega
    have hks' : (ks : Int) < 10 := by omega
    have hg : G = if c = 1 then sumV F ⟨op, kd, ks, o, i⟩ else if op = 64 then (if 0 ≤ o ∧ o ≤ 7 then (upd F kd (F (10 + o.toNat)), 0) else (F, 2)) else if op = 65 then (if 0 ≤ o ∧ o ≤ 7 then (upd F (10 + o.toNat) (F ks), 0) else (F, 2)) else (F, 11) := by
      rw [← hG]; unfold fdo; rw [if_neg (by rw [h0]; simp)]; simp only [hcl, Int.toNat_natCast]
    have HG := Lib.hid hg
    have HSm := Lib.hid (fun W (h : FR W b F) (h1 : c = 1) => fsum_any h hW (x := ⟨op, kd, ks, o, i⟩) hx.op (hcl.trans h1) (by simp only; omega) (by simp only; omega))
    unfold iv at HSm
    clear hG h0 h hW hx hc hWd hg hcl hB
    go_enter Tryd.func78, Tryd.ntmps78
    go_wp2_with fail
    rw [← HWd.out]
    with_reducible refine (HChk.out _).mono ?_
    rintro e w1 ⟨rfl, hc1⟩
    have HF1 := Lib.hid (HF.out.quiet hc1)
    have HC1 := Lib.hid (HC.out.trans hc1)
    have hp1 := hc1.cell (p := ⟨w.heap.size, 0, none⟩) (cell_lt hp) (by simp)
    rw [hp] at hp1
    clear a0 a1 a2 a3 a4 hp HP HC HF
    obtain ⟨a0, a1, a2, a3, a4⟩ := HI.out.ch hc1 (by simp)
    simp only at a0 a1 a2 a3 a4
    clear hc1 HI HWd HChk HFW HX
    go_wp2_with fail
    with_reducible refine (HCls.out _).mono ?_
    rintro e w1 ⟨rfl, rfl⟩
    clear HCls
    by_cases h1 : c = 1
    · have HZ := Lib.hid (show G = sumV F ⟨op, kd, ks, o, i⟩ by rw [HG.out, if_pos h1])
      have HSm1 := Lib.hid (HSm.out w1 HF1.out h1)
      subst h1
      generalize sumV F ⟨op, kd, ks, o, i⟩ = V at *
      clear HG HSm
      go_wp2_with fail
      with_reducible refine HSm1.out.mono ?_
      rintro e w2 ⟨rfl, hF2, hc2⟩
      have HK := Lib.hid (And.intro hF2 ((Cf.of (b := b) HC1.out).trans hc2))
      clear hF2 hc2 HSm1
      go_wp2_with fail
      go_ret
      rw [HZ.out]
      exact ⟨rfl, HK.out⟩
    · have e1 : (c == 1) = false := by simpa using h1
      have hg2 := HG.out
      rw [if_neg h1] at hg2
      have HG2 := Lib.hid hg2
      clear HG HSm h1 hg2
      by_cases h64 : op = 64
      · subst h64
        have hg3 := HG2.out
        rw [if_pos rfl] at hg3
        by_cases ho : 0 ≤ o ∧ o ≤ 7
        · rw [if_pos ho] at hg3
          obtain ⟨ko, rfl⟩ : ∃ k : Nat, o = (k : Int) := ⟨o.toNat, by omega⟩
          have hko : ko < 8 := by omega
          rw [Int.toNat_natCast] at hg3
          have HZ := Lib.hid hg3
          have HWi := Lib.hid (with_do1 (w := w1.drew) (HF1.out.quiet (Ch.refl [] w1).drew) hko hkd (Bf := w.heap.size) (Bi := w.heap.size + 1) hp1 a1)
          clear HG2 hg3 ho
          go_wp2_with fail
          go_region_held (fun w' => w'.cell? ⟨w.heap.size, 0, none⟩ = some (.pointer (some ⟨b, 0, none⟩)) ∧ w'.cell? ⟨w.heap.size + 1, 3, none⟩ = some (.int .i64 (ko : Int))) (go_keep) (first
            | (with_reducible refine HWi.out.mono ?_; rintro e w2 ⟨rfl, hF2, hc2⟩; have hc12 := (Cf.refl b w1).drew.trans hc2; have u0 := hc12.cell (p := ⟨w.heap.size, 0, none⟩) (cell_lt hp1) (by have := HBl.out; simp; omega); have u1 := hc12.cell (p := ⟨w.heap.size + 1, 3, none⟩) (cell_lt a3) (by have := HBl.out; simp; omega); have HK := Lib.hid (And.intro hF2 ((Cf.of (b := b) HC1.out).trans hc12)); clear hF2 hc2 hc12)
            | fail)
          simp only [Exit.then]
          go_wp2_with fail
          go_ret
          rw [HZ.out]
          exact ⟨rfl, HK.out⟩
        · rw [if_neg ho] at hg3
          have HZ := Lib.hid hg3
          have HWo := Lib.hid (fun V w => with_out b 50 8 (at' := o) (by omega) V w)
          have HK := Lib.hid (And.intro (HF1.out.quiet (Ch.refl [] w1).drew) ((Cf.of (b := b) HC1.out).drew))
          clear HG2 hg3 ho
          go_wp2_with fail
          go_region_held (fun w' => w'.cell? ⟨w.heap.size, 0, none⟩ = some (.pointer (some ⟨b, 0, none⟩)) ∧ w'.cell? ⟨w.heap.size + 1, 3, none⟩ = some (.int .i64 o)) (go_keep) (first
            | (with_reducible refine (HWo.out _ _).mono ?_; rintro e w2 ⟨rfl, rfl⟩)
            | fail)
          simp only [Exit.then]
          go_wp2_with fail
          go_ret
          rw [HZ.out]
          exact ⟨rfl, HK.out⟩
      · have hg3 := HG2.out
        rw [if_neg h64] at hg3
        have e64 : (op == 64) = false := by simpa using h64
        clear HG2 h64
        by_cases h65 : op = 65
        · subst h65
          rw [if_pos rfl] at hg3
          obtain ⟨x0, x1, x2, x3, x4⟩ := HF1.out.reg hks
          by_cases ho : 0 ≤ o ∧ o ≤ 7
          · rw [if_pos ho] at hg3
            obtain ⟨ko, rfl⟩ : ∃ k : Nat, o = (k : Int) := ⟨o.toNat, by omega⟩
            have hko : ko < 8 := by omega
            rw [Int.toNat_natCast] at hg3
            have HZ := Lib.hid hg3
            have HSt := Lib.hid (setword_in (w := w1.drew) (HF1.out.quiet (Ch.refl [] w1).drew) hko (F ks))
            have HRg := Lib.hid (fun W (h : FR W b (upd F (10 + ko) (F ks))) => show At5 W b (ks * 5) (F ks) from by have := h.reg hks; rwa [upd_other F (F ks) (by omega : ks ≠ 10 + ko)] at this)
            unfold vv at HSt
            generalize F ks = X at *
            clear hg3 ho
            go_wp2_with fail
            go_region_held (fun w' => w'.cell? ⟨w.heap.size, 0, none⟩ = some (.pointer (some ⟨b, 0, none⟩)) ∧ w'.cell? ⟨w.heap.size + 1, 2, none⟩ = some (.int .i64 (ks : Int)) ∧ w'.cell? ⟨w.heap.size + 1, 3, none⟩ = some (.int .i64 (ko : Int)) ∧ w'.cell? ⟨b, ks * 5, none⟩ = some (.bool X.r) ∧ w'.cell? ⟨b, ks * 5 + 1, none⟩ = some (.int .i64 X.m) ∧ w'.cell? ⟨b, ks * 5 + 2, none⟩ = some (.int .i64 X.s) ∧ w'.cell? ⟨b, ks * 5 + 3, none⟩ = some (.int .i64 X.g) ∧ w'.cell? ⟨b, ks * 5 + 4, none⟩ = some (.int .u64 (X.n : Int))) (go_keep) (first
              | (with_reducible refine HSt.out.mono ?_; rintro e w2 ⟨rfl, hF2, hc2⟩; have hc12 := (Cf.refl b w1).drew.trans hc2; have u0 := hc12.cell (p := ⟨w.heap.size, 0, none⟩) (cell_lt hp1) (by have := HBl.out; simp; omega); have u2 := hc12.cell (p := ⟨w.heap.size + 1, 2, none⟩) (cell_lt a2) (by have := HBl.out; simp; omega); have u1 := hc12.cell (p := ⟨w.heap.size + 1, 3, none⟩) (cell_lt a3) (by have := HBl.out; simp; omega); obtain ⟨v0, v1, v2, v3, v4⟩ := HRg.out w2 hF2; have HK := Lib.hid (And.intro hF2 ((Cf.of (b := b) HC1.out).trans hc12)); clear hF2 hc2 hc12)
              | fail)
            simp only [Exit.then]
            go_wp2_with fail
            go_ret
            rw [HZ.out]
            exact ⟨rfl, HK.out⟩
          · rw [if_neg ho] at hg3
            have HZ := Lib.hid hg3
            have HSt := Lib.hid (setword_out (w := w1.drew) b (k := o) (by omega) (F ks))
            unfold vv at HSt
            generalize F ks = X at *
            clear hg3 ho
            go_wp2_with fail
            go_region_held (fun w' => w'.cell? ⟨w.heap.size, 0, none⟩ = some (.pointer (some ⟨b, 0, none⟩)) ∧ w'.cell? ⟨w.heap.size + 1, 2, none⟩ = some (.int .i64 (ks : Int)) ∧ w'.cell? ⟨w.heap.size + 1, 3, none⟩ = some (.int .i64 o) ∧ w'.cell? ⟨b, ks * 5, none⟩ = some (.bool X.r) ∧ w'.cell? ⟨b, ks * 5 + 1, none⟩ = some (.int .i64 X.m) ∧ w'.cell? ⟨b, ks * 5 + 2, none⟩ = some (.int .i64 X.s) ∧ w'.cell? ⟨b, ks * 5 + 3, none⟩ = some (.int .i64 X.g) ∧ w'.cell? ⟨b, ks * 5 + 4, none⟩ = some (.int .u64 (X.n : Int))) (go_keep) (first
              | (with_reducible refine HSt.out.mono ?_; rintro e w2 ⟨rfl, hc2⟩; have hc12 := (Ch.refl [] w1).drew.trans hc2; have u0 := hc12.cell (p := ⟨w.heap.size, 0, none⟩) (cell_lt hp1) (by simp); have u2 := hc12.cell (p := ⟨w.heap.size + 1, 2, none⟩) (cell_lt a2) (by simp); have u1 := hc12.cell (p := ⟨w.heap.size + 1, 3, none⟩) (cell_lt a3) (by simp); have v0 := hc12.cell (p := ⟨b, ks * 5, none⟩) (cell_lt x0) (by simp); have v1 := hc12.cell (p := ⟨b, ks * 5 + 1, none⟩) (cell_lt x1) (by simp); have v2 := hc12.cell (p := ⟨b, ks * 5 + 2, none⟩) (cell_lt x2) (by simp); have v3 := hc12.cell (p := ⟨b, ks * 5 + 3, none⟩) (cell_lt x3) (by simp); have v4 := hc12.cell (p := ⟨b, ks * 5 + 4, none⟩) (cell_lt x4) (by simp); have HK := Lib.hid (And.intro (HF1.out.quiet hc12) (Cf.of (b := b) (HC1.out.trans hc12))); clear hc2 hc12)
              | fail)
            simp only [Exit.then]
            go_wp2_with fail
            go_ret
            rw [HZ.out]
            exact ⟨rfl, HK.out⟩
        · rw [if_neg h65] at hg3
          have HZ := Lib.hid hg3
          have e65 : (op == 65) = false := by simpa using h65
          have HK := Lib.hid (And.intro HF1.out (Cf.of (b := b) HC1.out))
          clear hg3 h65
          go_wp2_with fail
          go_ret
          rw [HZ.out]
          exact ⟨rfl, HK.out⟩
  · have HZ := Lib.hid (show G = (F, chk ⟨op, d, s, o, i⟩) by rw [← hG]; unfold fdo; rw [if_pos h0])
    have hn : (chk ⟨op, d, s, o, i⟩ != 0) = true := by simpa using h0
    generalize chk ⟨op, d, s, o, i⟩ = c at *
    clear hG h0 h hW hx hc hWd
    go_enter Tryd.func78, Tryd.ntmps78
    go_wp2_with fail
    rw [← HWd.out]
    with_reducible refine (HChk.out _).mono ?_
    rintro e w1 ⟨rfl, hc1⟩
    have HC1 := Lib.hid hc1
    clear hc1 a0 a1 a2 a3 a4 hp
    go_wp2_with fail
    go_ret
    rw [HZ.out]
    exact ⟨rfl, HF.out.quiet HC1.out, Cf.of (b := b) (HC.out.trans HC1.out)⟩
end Go.Proofs.YtpbdmlipdfdblaaDoor

namespace Go.Proofs.YtpbdmlipdfdblaaDoor
open Go.RowKit Go.BigFrame

attribute [local go_sem] Oper.semAt_some

/-- Does a jump go? The error. -/
def fjp (F : FV) (x : I5) : Bool × Int :=
  if chk x ≠ 0 then (false, chk x) else if cls x.op = 2 then (goV x.op (F x.d.toNat).n (oth F x 41).n, 0) else (false, 11)

set_option maxRecDepth 10000 in
set_option maxHeartbeats 4000000 in
theorem fjp_any {w : World} {b : Nat} {F : FV} (h : FR w b F) (hW : FW F) {x : I5} (hx : Fit x) :
    Calls Tryd.prog 77 #[.pointer (some ⟨b, 0, none⟩), iv x] w fun e w' => e = .returned (.tuple #[.bool (fjp F x).1, .int .i64 (fjp F x).2]) ∧ Ch [] w w' := by
  have HChk := Lib.hid (fun w => check_any hx w)
  have HCls := Lib.hid (fun w => class_any hx.op.1 hx.op.2 w)
  obtain ⟨op, d, s, o, i⟩ := x
  obtain ⟨W, hWd⟩ : ∃ W, W = w.alloc (.cells #[.int .i64 op, .int .i64 d, .int .i64 s, .int .i64 o, .int .i64 i] 59) := ⟨_, rfl⟩
  have hc : Ch [] w W := by rw [hWd]; exact (Ch.refl [] w).alloc _
  have hI : Five W w.heap.size ⟨op, d, s, o, i⟩ := by rw [hWd]; exact Five.new w ⟨op, d, s, o, i⟩ 59
  have HF := Lib.hid (h.quiet hc)
  have HI := Lib.hid hI
  have HC := Lib.hid hc
  have HWd := Lib.hid hWd
  obtain ⟨G, hG⟩ : ∃ G, fjp F ⟨op, d, s, o, i⟩ = G := ⟨_, rfl⟩
  rw [hG]
  obtain ⟨a0, a1, a2, a3, a4⟩ := hI
  simp only at *
  by_cases h0 : chk ⟨op, d, s, o, i⟩ = 0
  · rw [h0] at HChk
    obtain ⟨-, hB, -⟩ := chk_zero h0
    unfold inB at hB
    simp only at hB
    obtain ⟨kd, rfl⟩ : ∃ k : Nat, d = (k : Int) := ⟨d.toNat, by omega⟩
    have hkd : kd < 10 := by omega
    have hkd' : (kd : Int) < 10 := by omega
    by_cases hc2 : cls op = 2
    · rw [hc2] at HCls
      have hE : goE op = 0 := by unfold goE; rw [if_pos hc2]
      obtain ⟨Y, hY⟩ : ∃ Y, oth F ⟨op, kd, s, o, i⟩ 41 = Y := ⟨_, rfl⟩
      have hYn : W64 Y.n := by rw [← hY]; exact oth_fw hW _ 41
      have HO := Lib.hid (fun W (h : FR W b F) => operand_any h (x := ⟨op, kd, s, o, i⟩) (by simp only; omega) 41)
      have HJ := Lib.hid (fun w => jumps_any hx.op (hW kd) hYn w)
      rw [hY] at HO
      rw [hE] at HJ
      have HZ := Lib.hid (show G = (goV op (F kd).n Y.n, 0) by rw [← hG]; unfold fjp; rw [if_neg (by rw [h0]; simp), if_pos hc2]; simp only [hY, Int.toNat_natCast])
      simp only at HJ
      generalize goV op (F kd).n Y.n = q at *
      unfold iv at *
      unfold vv at HO
      have HFW := Lib.hid (fun (W : World) (h : FR W b F) => (h.reg hkd).c4)
      generalize F kd = X at *
      clear hG h0 h hW hx hc hWd hB hY hYn hE hc2
      go_enter Tryd.func77, Tryd.ntmps77
      go_wp2_with fail
      rw [← HWd.out]
      with_reducible refine (HChk.out _).mono ?_
      rintro e w1 ⟨rfl, hc1⟩
      have HF1 := Lib.hid (HF.out.quiet hc1)
      have HC1 := Lib.hid (HC.out.trans hc1)
      clear a0 a1 a2 a3 a4 HF HC HChk HWd
      obtain ⟨a0, a1, a2, a3, a4⟩ := HI.out.ch hc1 (by simp)
      simp only at a0 a1 a2 a3 a4
      clear hc1 HI
      go_wp2_with fail
      with_reducible refine (HCls.out _).mono ?_
      rintro e w1 ⟨rfl, rfl⟩
      have x4 := HFW.out w1 HF1.out
      have HO1 := Lib.hid (HO.out w1.drew (HF1.out.quiet (Ch.refl [] w1).drew))
      have hfd : ∀ w : World, (Instr.field 41 (.agg #[.bool Y.r, .int .i64 Y.m, .int .i64 Y.s, .int .i64 Y.g, .int .u64 (Y.n : Int)]) 3).run Tryd.prog w = .ok (.int .u64 (Y.n : Int)) w := fun _ => by kernel_rfl
      clear HCls HO
      go_wp2_with fail
      go_region_held (fun w' => w'.cell? ⟨w.heap.size, 0, none⟩ = some (.int .i64 op) ∧ w'.cell? ⟨w.heap.size, 1, none⟩ = some (.int .i64 (kd : Int)) ∧ w'.cell? ⟨w.heap.size, 2, none⟩ = some (.int .i64 s) ∧ w'.cell? ⟨w.heap.size, 3, none⟩ = some (.int .i64 o) ∧ w'.cell? ⟨w.heap.size, 4, none⟩ = some (.int .i64 i) ∧ w'.cell? ⟨b, kd * 5 + 4, none⟩ = some (.int .u64 (X.n : Int))) (go_keep) (first
        | (with_reducible refine HO1.out.mono ?_; rintro e w2 ⟨rfl, hc2⟩; have hc12 := (Ch.refl [] w1).drew.trans hc2; have u0 := hc12.cell (p := ⟨w.heap.size, 0, none⟩) (cell_lt a0) (by simp); have u1 := hc12.cell (p := ⟨w.heap.size, 1, none⟩) (cell_lt a1) (by simp); have u2 := hc12.cell (p := ⟨w.heap.size, 2, none⟩) (cell_lt a2) (by simp); have u3 := hc12.cell (p := ⟨w.heap.size, 3, none⟩) (cell_lt a3) (by simp); have u4 := hc12.cell (p := ⟨w.heap.size, 4, none⟩) (cell_lt a4) (by simp); have v4 := hc12.cell (p := ⟨b, kd * 5 + 4, none⟩) (cell_lt x4) (by simp); have HK := Lib.hid (HC1.out.trans hc12); clear hc2 hc12)
        | (with_reducible refine (HJ.out _).mono ?_; rintro e w2 ⟨rfl, rfl⟩)
        | fail)
      simp only [Exit.then]
      go_wp2_with fail
      go_ret2
      rw [HZ.out]
      exact ⟨rfl, HK.out⟩
    · have HZ := Lib.hid (show G = (false, 11) by rw [← hG]; unfold fjp; rw [if_neg (by rw [h0]; simp), if_neg hc2])
      have hn : (cls op != 2) = true := by simpa using hc2
      generalize cls op = c at *
      unfold iv at *
      clear hG h0 h hW hx hc hWd hc2
      go_enter Tryd.func77, Tryd.ntmps77
      go_wp2_with fail
      rw [← HWd.out]
      with_reducible refine (HChk.out _).mono ?_
      rintro e w1 ⟨rfl, hc1⟩
      have HC1 := Lib.hid (HC.out.trans hc1)
      clear a0 a1 a2 a3 a4
      obtain ⟨a0, a1, a2, a3, a4⟩ := HI.out.ch hc1 (by simp)
      simp only at a0 a1 a2 a3 a4
      clear hc1
      go_wp2_with fail
      with_reducible refine (HCls.out _).mono ?_
      rintro e w1 ⟨rfl, rfl⟩
      go_wp2_with fail
      go_ret2
      rw [HZ.out]
      exact ⟨rfl, HC1.out⟩
  · have HZ := Lib.hid (show G = (false, chk ⟨op, d, s, o, i⟩) by rw [← hG]; unfold fjp; rw [if_pos h0])
    have hn : (chk ⟨op, d, s, o, i⟩ != 0) = true := by simpa using h0
    generalize chk ⟨op, d, s, o, i⟩ = c at *
    unfold iv at *
    clear hG h0 h hW hx hc hWd
    go_enter Tryd.func77, Tryd.ntmps77
    go_wp2_with fail
    rw [← HWd.out]
    with_reducible refine (HChk.out _).mono ?_
    rintro e w1 ⟨rfl, hc1⟩
    have HC1 := Lib.hid hc1
    clear hc1 a0 a1 a2 a3 a4
    go_wp2_with fail
    go_ret2
    rw [HZ.out]
    exact ⟨rfl, HC.out.trans HC1.out⟩
end Go.Proofs.YtpbdmlipdfdblaaDoor

namespace Go.Proofs.YtpbdmlipdfdblaaDoor
open Go.RowKit Go.BigFrame

attribute [local go_sem] Oper.semAt_some

theorem sumV_fw {F : FV} (h : FW F) (x : I5) : FW (sumV F x).1 := by
  unfold sumV
  split
  · exact h.upd _ (oth_fw h x 12)
  · split
    · exact h
    · exact h.upd _ (show W64 (num _).n from doV_lt _ (h _) (oth_fw h x 12))
theorem fdo_fw {F : FV} (h : FW F) (x : I5) : FW (fdo F x).1 := by
  unfold fdo
  split
  · exact h
  · split
    · exact sumV_fw h x
    · split
      · split
        · exact h.upd _ (h _)
        · exact h
      · split
        · split
          · exact h.upd _ (h _)
          · exact h
        · exact h
theorem updL_fw (L : List V5) (F : FV) (k : Nat) (h : FW F) (hL : ∀ x ∈ L, W64 x.n) : FW (updL F k L) := updL_ref (fun x => W64 x.n) L F k h hL

def eFA : FV := updL F0 1 [num 5]
def eFB : FV := updL F0 1 [refTo 1 0 1]
def eAdd : I5 := ⟨0, 1, 0, 0, 2⟩
def eMov : I5 := ⟨27, 2, 1, 0, 0⟩
def eJne : I5 := ⟨34, 2, 0, 3, 0⟩
theorem eA : (fdo eFA eAdd).2 = 0 ∧ (fdo eFA eAdd).1 1 = num 7 := by decide +kernel
theorem eB : (fdo eFB eAdd).2 = 17 ∧ (fdo (fdo eFB eAdd).1 eMov).2 = 0 ∧ (fdo (fdo eFB eAdd).1 eMov).1 2 = refTo 1 0 1 ∧ fjp (fdo (fdo eFB eAdd).1 eMov).1 eJne = (true, 0) := by decide +kernel
theorem eFit (x : I5) (h : x = eAdd ∨ x = eMov ∨ x = eJne) : Fit x := by
  rcases h with rfl | rfl | rfl <;> exact ⟨by unfold fit; decide, by unfold fit; decide, by unfold fit; decide, by unfold fit; decide, by unfold fit; decide⟩
theorem at5_new1 (w : World) (x : V5) (t : TypeId) : ∀ i (hi : i < [x].length), At5 (w.alloc (.cells #[.bool x.r, .int .i64 x.m, .int .i64 x.s, .int .i64 x.g, .int .u64 (x.n : Int)] t)) w.heap.size (0 + i * 5) [x][i] := by
  intro i hi
  obtain rfl : i = 0 := by simpa using hi
  exact (B5.new w x t).a
theorem new_one {w : World} {b : Nat} {x : V5} (h : At5 w b 0 x) :
    Calls Tryd.prog 29 #[.slice (some ⟨b, 0, none⟩) 1 1] w fun e w' => e = .returned (.tuple #[.pointer (some ⟨w.heap.size, 0, none⟩), .int .i64 0]) ∧ FR w' w.heap.size (updL F0 1 [x]) ∧ Ch [] w w' :=
  new_any (n := 1) (cap := 1) (L := [x]) rfl (by decide) (.inr ⟨b, 0, rfl, fun i hi => by
    obtain rfl : i = 0 := by simpa using hi
    exact h⟩) (fun e => by cases e)

end Go.Proofs.YtpbdmlipdfdblaaDoor

namespace Go.Proofs.YtpbdmlipdfdblaaDoor
open Go.RowKit Go.BigFrame

def z25 : Array Value := #[.bool false, .int .i64 0, .int .i64 0, .int .i64 0, .int .u64 0, .bool false, .int .i64 0, .int .i64 0, .int .i64 0, .int .u64 0, .bool false, .int .i64 0, .int .i64 0, .int .i64 0, .int .u64 0, .bool false, .int .i64 0, .int .i64 0, .int .i64 0, .int .u64 0, .bool false, .int .i64 0, .int .i64 0, .int .i64 0, .int .u64 0]
theorem z25_zero (w : World) : Sem.run Tryd.prog (zeroValue 42) w = .ok (.agg z25) w := by kernel_rfl
theorem z25_built : Tryd.prog.built 42 [] = some z25 := by kernel_rfl
section
variable {ops : Array Oper} {rest : List Oper} {op : Oper} {a : Act} {w : World} {Q : Exit → Act → World → Prop}
/-- A variable is made, its zero value as it is told. -/
theorem wpList_allocZ {t : TypeId} {zero : Array Value} (hz : ∀ w, Sem.run Tryd.prog (zeroValue t) w = .ok (.agg zero) w) (ho : op.op = .alloc t) (hw : Region.wanted op (yielded ops a.tmps) = true)
    (h : wpList Tryd.prog ops Q rest (a.put op.dst (.pointer (some ⟨w.heap.size, 0, none⟩))) (w.alloc (.cells zero t))) : wpList Tryd.prog ops Q (op :: rest) a w :=
  wpList_want hw fun _ hK => by
    unfold Oper.wp execOp
    simp only [ho, Sem.run_bind, Instr.alloc, hz, newVar, newRow, Value.cells, run_newObj_alloc, Sem.run_pure, Result.andThen_ok]
    exact hK _ _ h
theorem wpList_buildZ {t : TypeId} {cells : Array Value} (hb : Tryd.prog.built t [] = some cells) (ho : op.op = .build t #[]) (hg : op.guard = none)
    (h : wpList Tryd.prog ops Q rest (a.put op.dst (.agg cells)) w) : wpList Tryd.prog ops Q (op :: rest) a w :=
  wpList_build hg t #[] ho (by simp [hb]) (by simpa [hb] using h)
/-- A frame is read. -/
theorem wpList_readF {x : Operand} (ho : op.op = .load 62 x) {b : Nat} {F : FV} (hF : FR w b F) (hw : Region.wanted op (yielded ops a.tmps) = true) (hx : a.eval x = .pointer (some ⟨b, 0, none⟩))
    (h : wpList Tryd.prog ops Q rest (a.put op.dst (.agg (fl F).toArray)) w) : wpList Tryd.prog ops Q (op :: rest) a w :=
  wpList_want hw fun _ hK => wp_load_mid 62 x ho b 0 hx (fl F) _ hF.range Tryd.underlying62 rfl (by rw [fl_len]; kernel_rfl) (hK _ _ h)
/-- It is written. -/
theorem wpList_writeF {x y : Operand} (ho : op.op = .store 62 x y) {b : Nat} {G : FV} (hG : FR w b G) (F : FV) (hw : Region.wanted op (yielded ops a.tmps) = true) (hx : a.eval x = .pointer (some ⟨b, 0, none⟩)) (hy : a.eval y = .agg (fl F).toArray)
    (h : wpList Tryd.prog ops Q rest (a.put op.dst undef) (w.setCells b 0 (fl F))) : wpList Tryd.prog ops Q (op :: rest) a w :=
  wpList_want hw fun _ hK => wp_store_mid 62 x y ho b 0 (fl F).toArray hx hy (by rw [List.size_toArray, fl_len]; exact hG.there) (by rw [List.size_toArray, fl_len]; kernel_rfl) (all_oneCell_toArray (fl_one F)) (hK _ _ (by simpa using h))
/-- Zero things are written over others. -/
theorem wpList_write25 {x y : Operand} (ho : op.op = .store 42 x y) {b : Nat} (ht : w.there b 0 25) (hw : Region.wanted op (yielded ops a.tmps) = true) (hx : a.eval x = .pointer (some ⟨b, 0, none⟩)) (hy : a.eval y = .agg z25)
    (h : wpList Tryd.prog ops Q rest (a.put op.dst undef) (w.setCells b 0 z25.toList)) : wpList Tryd.prog ops Q (op :: rest) a w :=
  wpList_want hw fun _ hK => wp_store_mid 42 x y ho b 0 z25 hx hy ht (by kernel_rfl) (by kernel_rfl) (hK _ _ h)
end
theorem load_frame {w : World} {b : Nat} {F : FV} (h : FR w b F) : (loadVar 62 ⟨b, 0, none⟩).run Tryd.prog w = .ok (.agg (fl F).toArray) w :=
  run_loadVar_mid w b 0 62 (fl F) _ h.range Tryd.underlying62 rfl (by rw [fl_len]; kernel_rfl)
theorem load_z25 {w : World} {b : Nat} (h : w.rangeAt b 0 z25.toList) : (loadVar 42 ⟨b, 0, none⟩).run Tryd.prog w = .ok (.agg z25) w :=
  run_loadVar_mid w b 0 42 z25.toList _ h Tryd.underlying42 rfl (by kernel_rfl)
theorem results_one {P : Program} {fn : Func} {p : Tmp} {ty : TypeId} {v : Value} {ad : Addr} {w : World} (h : fn.results = #[.cell p ty]) {tmps : Array Value} (hp : tmps.getD p undef = .pointer (some ad)) (hl : (loadVar ty ad).run P w = .ok v w) : (results fn tmps).run P w = .ok v w := by
  have hp' : tmps[p]?.getD undef = .pointer (some ad) := by simpa using hp
  simp only [results, h]
  simp [asAddr, hp', hl]
theorem results_two {P : Program} {fn : Func} {p u : Tmp} {ty : TypeId} {v : Value} {ad : Addr} {w : World} (h : fn.results = #[.cell p ty, .tmp u]) {tmps : Array Value} (hp : tmps.getD p undef = .pointer (some ad)) (hl : (loadVar ty ad).run P w = .ok v w) : (results fn tmps).run P w = .ok (.tuple #[v, tmps.getD u undef]) w := by
  rw [results_cell_tmp h, hp]
  simp [asAddr, hl, Result.andThen]
theorem there_new (w : World) (cells : Array Value) (t : TypeId) : (w.alloc (.cells cells t)).there w.heap.size 0 cells.size := fun j hj => by
  refine ⟨?_, World.frozen?_alloc_new w _ _ _⟩
  rw [Nat.zero_add, World.cell?_alloc_at _ _ _ _ rfl]
  simp [hj]
end Go.Proofs.YtpbdmlipdfdblaaDoor
