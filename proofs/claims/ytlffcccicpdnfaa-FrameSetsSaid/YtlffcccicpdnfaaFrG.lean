/-
  What an instruction of class Alu does.
-/
import Derived.Test.YtlffcccicpdnfaaFrF
import Derived.Deep.RegionHeld
namespace Go.Proofs.Ytlffcccicpdnfaa
open Go.RowKit Go.BigFrame

attribute [local go_sem] Oper.semAt_some

theorem at5_new2 (w : World) (x y : V5) (t : TypeId) : ∀ i (hi : i < [x, y].length), At5 (w.alloc (.cells #[.bool x.r, .int .i64 x.m, .int .i64 x.s, .int .i64 x.g, .int .u64 (x.n : Int), .bool y.r, .int .i64 y.m, .int .i64 y.s, .int .i64 y.g, .int .u64 (y.n : Int)] t)) w.heap.size (0 + i * 5) [x, y][i] := by
  intro i hi
  match i, hi with
  | 0, _ => exact ⟨by rw [World.cell?_alloc_at _ _ _ _ rfl]; rfl, by rw [World.cell?_alloc_at _ _ _ _ rfl]; rfl, by rw [World.cell?_alloc_at _ _ _ _ rfl]; rfl, by rw [World.cell?_alloc_at _ _ _ _ rfl]; rfl, by rw [World.cell?_alloc_at _ _ _ _ rfl]; rfl⟩
  | 1, _ => exact ⟨by rw [World.cell?_alloc_at _ _ _ _ rfl]; rfl, by rw [World.cell?_alloc_at _ _ _ _ rfl]; rfl, by rw [World.cell?_alloc_at _ _ _ _ rfl]; rfl, by rw [World.cell?_alloc_at _ _ _ _ rfl]; rfl, by rw [World.cell?_alloc_at _ _ _ _ rfl]; rfl⟩

/-- What it makes of a frame; the error. -/
def sumV (F : FV) (x : I5) : FV × Int :=
  if x.op = 11 ∨ x.op = 27 then (upd F x.d.toNat (oth F x 12), 0)
  else if ((F x.d.toNat).r || (oth F x 12).r) = true then (F, 17)
  else (upd F x.d.toNat (num (doV x.op (F x.d.toNat).n (oth F x 12).n)), 0)

set_option maxHeartbeats 4000000 in
theorem fsum_any {w : World} {b : Nat} {F : FV} (h : FR w b F) (hW : FW F) {x : I5} (hf : fit x.op) (hc1 : cls x.op = 1) (hd : 0 ≤ x.d ∧ x.d ≤ 9) (hs : 0 ≤ x.s ∧ x.s ≤ 9) :
    Calls Try.prog 39 #[.pointer (some ⟨b, 0, none⟩), iv x] w fun e w' => e = .returned (.int .i64 (sumV F x).2) ∧ FR w' b (sumV F x).1 ∧ Ch [b] w w' := by
  have HO := Lib.hid (fun W (h : FR W b F) => operand_any h hs 12)
  obtain ⟨Y, hY⟩ : ∃ Y, oth F x 12 = Y := ⟨_, rfl⟩
  have hYn : W64 Y.n := by rw [← hY]; exact oth_fw hW x 12
  have hE : doE x.op = 0 := by unfold doE; rw [if_pos hc1]
  have HD := Lib.hid (fun w => do_any hf (hW x.d.toNat) hYn w)
  rw [hE] at HD
  have hS : sumV F x = if x.op = 11 ∨ x.op = 27 then (upd F x.d.toNat Y, 0) else if ((F x.d.toNat).r || Y.r) = true then (F, 17) else (upd F x.d.toNat (num (doV x.op (F x.d.toNat).n Y.n)), 0) := by
    unfold sumV; rw [hY]
  rw [hS]
  rw [hY] at HO
  obtain ⟨op, d, s, o, i⟩ := x
  obtain ⟨k, rfl⟩ : ∃ k : Nat, d = (k : Int) := ⟨d.toNat, by simp at hd; omega⟩
  have hk : k < 10 := by simp at hd; omega
  have hk' : (k : Int) < 10 := by omega
  simp only [Int.toNat_natCast] at *
  have hh := h.reg hk
  obtain ⟨X, hX⟩ : ∃ X, F k = X := ⟨_, rfl⟩
  have HX := Lib.hid hX
  rw [hX] at HD hh ⊢
  obtain ⟨G, hG⟩ : ∃ G, (if op = 11 ∨ op = 27 then (upd F k Y, (0 : Int)) else if (X.r || Y.r) = true then (F, 17) else (upd F k (num (doV op X.n Y.n)), 0)) = G := ⟨_, rfl⟩
  rw [hG]
  have HM := Lib.hid (show (op = 11 ∨ op = 27) → G = (upd F k Y, 0) from fun h => by rw [← hG, if_pos h])
  have HR := Lib.hid (show ¬ (op = 11 ∨ op = 27) → (X.r || Y.r) = true → G = (F, 17) from fun h h2 => by rw [← hG, if_neg h, if_pos h2])
  have HS := Lib.hid (show ¬ (op = 11 ∨ op = 27) → (X.r || Y.r) = false → G = (upd F k (num (doV op X.n Y.n)), 0) from fun h h2 => by rw [← hG, if_neg h, if_neg (by rw [h2]; simp)])
  obtain ⟨q, hq⟩ : ∃ q, (X.r || Y.r) = q := ⟨_, rfl⟩
  rw [hq] at HR HS
  have HQ := Lib.hid (show [X, Y].any (·.r) = q by rw [← hq]; simp)
  have HNu := Lib.hid (fun w => num_any (doV op X.n Y.n) w)
  generalize doV op X.n Y.n = N at *
  clear hG hq
  obtain ⟨w1, hw1⟩ : ∃ W, W = w.alloc (.cells #[.int .i64 op, .int .i64 (k : Int), .int .i64 s, .int .i64 o, .int .i64 i] 63) := ⟨_, rfl⟩
  have hc : Ch [] w w1 := by rw [hw1]; exact (Ch.refl [] w).alloc _
  have hI : Five w1 w.heap.size ⟨op, k, s, o, i⟩ := by rw [hw1]; exact Five.new w ⟨op, k, s, o, i⟩ 63
  have HI := Lib.hid hI
  have HF := Lib.hid (h.quiet hc)
  have HC := Lib.hid hc
  have HW := Lib.hid hw1
  have HO1 := Lib.hid (HO.out w1.drew (h.quiet hc.drew))
  have HO2 := Lib.hid (HO.out (w1.alloc (.cells #[.bool false, .int .i64 0, .int .i64 0, .int .i64 0, .int .u64 0] 38)).drew (h.quiet (hc.alloc _).drew))
  have hN : B5 (w1.alloc (.cells #[.bool false, .int .i64 0, .int .i64 0, .int .i64 0, .int .u64 0] 38)).drew w1.heap.size (num 0) := (B5.new w1 (num 0) 38).quiet (Ch.refl [] _).drew
  have HN := Lib.hid hN
  have n1 : w1.heap.size ≠ w.heap.size := Nat.ne_of_gt hI.lt
  unfold iv vv at HO1 HO2
  unfold iv
  clear h hW hf hc1 hd hs hY hE hS hc hw1 hX hh hYn HO hN
  obtain ⟨a0, a1, a2, a3, a4⟩ := hI
  simp only at a0 a1 a2 a3 a4
  go_enter Try.func39, Try.ntmps39
  go_wp2_with fail
  rw [← HW.out]
  clear HW
  go_region_held (fun w' => w'.cell? ⟨w.heap.size, 0, none⟩ = some (.int .i64 op) ∧ w'.cell? ⟨w.heap.size, 1, none⟩ = some (.int .i64 (k : Int)) ∧ w'.cell? ⟨w.heap.size, 2, none⟩ = some (.int .i64 s) ∧ w'.cell? ⟨w.heap.size, 3, none⟩ = some (.int .i64 o) ∧ w'.cell? ⟨w.heap.size, 4, none⟩ = some (.int .i64 i)) (go_keep) (first
    | (with_reducible refine HO1.out.mono ?_; rintro e w2 ⟨rfl, hc2⟩; have HC2 := Lib.hid (Ch.trans (Ch.refl [] w1).drew hc2); obtain ⟨q0, q1, q2, q3, q4⟩ := HI.out.ch ((Ch.refl [] w1).drew.trans hc2) (by simp); simp only at q0 q1 q2 q3 q4; clear hc2)
    | (with_reducible refine HO2.out.mono ?_; rintro e w2 ⟨rfl, hc2⟩; have HC2 := Lib.hid (((Ch.refl [] w1).alloc (.cells #[.bool false, .int .i64 0, .int .i64 0, .int .i64 0, .int .u64 0] 38)).drew.trans hc2); obtain ⟨q0, q1, q2, q3, q4⟩ := HI.out.ch HC2.out (by simp); simp only at q0 q1 q2 q3 q4; obtain ⟨⟨y0, y1, y2, y3, y4⟩, yf⟩ := HN.out.quiet hc2; clear hc2)
    | fail)
  all_goals simp only [Exit.then]
  all_goals first
    | (obtain ⟨W, hW⟩ : ∃ W, w2.alloc (.cells #[.bool Y.r, .int .i64 Y.m, .int .i64 Y.s, .int .i64 Y.g, .int .u64 (Y.n : Int)] 38) = W := ⟨_, rfl⟩
       obtain ⟨B, hB⟩ : ∃ B, w2.heap.size = B := ⟨_, rfl⟩
       have hcW : Ch [] w1 W := by rw [← hW]; exact HC2.out.alloc _
       have hYB : B5 W B Y := by rw [← hW, ← hB]; exact B5.new w2 Y 38
       have hBl : w1.heap.size ≤ B := by rw [← hB]; exact HC2.out.size
       rw [hW, hB]
       clear hW hB q0 q1 q2 q3 q4)
    | (obtain ⟨W, hW⟩ : ∃ W, st5 w2 w1.heap.size 0 Y = W := ⟨_, rfl⟩
       obtain ⟨B, hB⟩ : ∃ B, w1.heap.size = B := ⟨_, rfl⟩
       have hcW : Ch [] w1 W := by rw [← hW]; exact HC2.out.fresh (st5_ch w2 w1.heap.size 0 Y) (by simp)
       have hYB : B5 W B Y := by rw [← hW, ← hB]; exact B5.set (y := num 0) ⟨⟨y0, y1, y2, y3, y4⟩, yf⟩ Y
       have hBl : w1.heap.size ≤ B := by rw [← hB]; exact Nat.le_refl _
       unfold st5 at hW
       simp only [Nat.zero_add] at hW
       rw [hW, hB]
       clear hW hB q0 q1 q2 q3 q4 y0 y1 y2 y3 y4 yf)
  all_goals
    have hFW : FR W b F := HF.out.quiet hcW
    have hb1 := HF.out.lt
    have hb2 := HI.out.lt
    have hB1 : w.heap.size ≠ B := by omega
    have hbB : b ≠ B := by omega
    have HFW := Lib.hid hFW
    have HCW := Lib.hid (HC.out.trans hcW)
    clear a0 a1 a2 a3 a4
    obtain ⟨a0, a1, a2, a3, a4⟩ := HI.out.ch hcW (by simp)
    simp only at a0 a1 a2 a3 a4
    have xx := hFW.reg hk
    rw [HX.out] at xx
    obtain ⟨x0, x1, x2, x3, x4⟩ := xx
    have xf := hFW.fr
    obtain ⟨⟨y0, y1, y2, y3, y4⟩, yf⟩ := hYB
    simp only [Nat.zero_add] at y1 y2 y3 y4
    clear hFW hb1 hb2 hcW hBl n1 HC2 HF HC HN HI
    by_cases h11 : op = 11 ∨ op = 27
    · have HZ := Lib.hid (HM.out h11)
      have HK := Lib.hid (show FR (st5 W b (k * 5) Y) b (upd F k Y) ∧ Ch [b] w (st5 W b (k * 5) Y) from ⟨HFW.out.set (by omega) Y, (HCW.out.mono (by simp)).trans (st5_ch W b _ Y)⟩)
      clear HM HR HS HQ HNu HD HO1 HO2
      rcases h11 with rfl | rfl
      all_goals
        go_wp2_with fail
        go_ret
        rw [HZ.out]
        exact ⟨rfl, HK.out⟩
    · have e11 : (op == 11) = false := by rw [beq_eq_false_iff_ne]; exact fun h => h11 (.inl h)
      have e27 : (op == 27) = false := by rw [beq_eq_false_iff_ne]; exact fun h => h11 (.inr h)
      have HR1 := Lib.hid (HR.out h11)
      have HS1 := Lib.hid (HS.out h11)
      have HH := Lib.hid (fun t => hasref_any (w := (W.alloc (.cells #[.bool X.r, .int .i64 X.m, .int .i64 X.s, .int .i64 X.g, .int .u64 (X.n : Int), .bool Y.r, .int .i64 Y.m, .int .i64 Y.s, .int .i64 Y.g, .int .u64 (Y.n : Int)] t)).drew) (n := 2) (cap := 2) (L := [X, Y]) rfl (by decide) (.inr ⟨W.heap.size, 0, rfl, fun i hi => (at5_new2 W X Y t i hi).ch (Ch.refl [] _).drew (by simp)⟩))
      rw [HQ.out] at HH
      have HAl := Lib.hid (fun t => ((Ch.refl [] W).alloc (.cells #[.bool X.r, .int .i64 X.m, .int .i64 X.s, .int .i64 X.g, .int .u64 (X.n : Int), .bool Y.r, .int .i64 Y.m, .int .i64 Y.s, .int .i64 Y.g, .int .u64 (Y.n : Int)] t)).drew)
      clear HM HR HS HQ HO1 HO2 h11
      go_wp2_with fail
      go_region_held (fun w' => w'.cell? ⟨b, k * 5, none⟩ = some (.bool X.r) ∧ w'.cell? ⟨b, k * 5 + 1, none⟩ = some (.int .i64 X.m) ∧ w'.cell? ⟨b, k * 5 + 2, none⟩ = some (.int .i64 X.s) ∧ w'.cell? ⟨b, k * 5 + 3, none⟩ = some (.int .i64 X.g) ∧ w'.cell? ⟨b, k * 5 + 4, none⟩ = some (.int .u64 (X.n : Int)) ∧ w'.cell? ⟨B, 0, none⟩ = some (.bool Y.r) ∧ w'.cell? ⟨B, 1, none⟩ = some (.int .i64 Y.m) ∧ w'.cell? ⟨B, 2, none⟩ = some (.int .i64 Y.s) ∧ w'.cell? ⟨B, 3, none⟩ = some (.int .i64 Y.g) ∧ w'.cell? ⟨B, 4, none⟩ = some (.int .u64 (Y.n : Int))) (go_keep) (first
        | (with_reducible refine (HH.out _).mono ?_; rintro e w5 ⟨rfl, hc5⟩; have HC5 := Lib.hid ((HAl.out _).trans hc5); have hq0 := HC5.out.cell (p := ⟨b, k * 5, none⟩) (cell_lt x0) (by simp); have hq1 := HC5.out.cell (p := ⟨b, k * 5 + 1, none⟩) (cell_lt x1) (by simp); have hq2 := HC5.out.cell (p := ⟨b, k * 5 + 2, none⟩) (cell_lt x2) (by simp); have hq3 := HC5.out.cell (p := ⟨b, k * 5 + 3, none⟩) (cell_lt x3) (by simp); have hq4 := HC5.out.cell (p := ⟨b, k * 5 + 4, none⟩) (cell_lt x4) (by simp); have hr0 := HC5.out.cell (p := ⟨B, 0, none⟩) (cell_lt y0) (by simp); have hr1 := HC5.out.cell (p := ⟨B, 1, none⟩) (cell_lt y1) (by simp); have hr2 := HC5.out.cell (p := ⟨B, 2, none⟩) (cell_lt y2) (by simp); have hr3 := HC5.out.cell (p := ⟨B, 3, none⟩) (cell_lt y3) (by simp); have hr4 := HC5.out.cell (p := ⟨B, 4, none⟩) (cell_lt y4) (by simp); clear hc5)
        | fail)
      simp only [Exit.then]
      have HF5 := Lib.hid (HFW.out.quiet HC5.out)
      have HC6 := Lib.hid (HCW.out.trans HC5.out)
      clear hq0 hq1 hq2 hq3 hq4 hr0 hr1 hr2 hr3 hr4 HH HAl
      cases q
      · have HZ := Lib.hid (HS1.out rfl)
        have o0 := HC5.out.cell (p := ⟨w.heap.size, 0, none⟩) (cell_lt a0) (by simp)
        have p4 := HC5.out.cell (p := ⟨b, k * 5 + 4, none⟩) (cell_lt x4) (by simp)
        have r4 := HC5.out.cell (p := ⟨B, 4, none⟩) (cell_lt y4) (by simp)
        rw [a0] at o0
        rw [x4] at p4
        rw [y4] at r4
        clear HR1 HS1 a0 a1 a2 a3 a4 x0 x1 x2 x3 x4 y0 y1 y2 y3 y4 xf yf
        go_wp2_with fail
        go_region_held (fun w' => w'.cell? ⟨w.heap.size, 0, none⟩ = some (.int .i64 op) ∧ w'.cell? ⟨b, k * 5 + 4, none⟩ = some (.int .u64 (X.n : Int)) ∧ w'.cell? ⟨B, 4, none⟩ = some (.int .u64 (Y.n : Int))) (go_keep) (first
          | (with_reducible refine (HD.out _).mono ?_; rintro e w7 ⟨rfl, hc7⟩; have HC7 := Lib.hid ((Ch.refl [] w5).drew.trans hc7); have u0 := HC7.out.cell (p := ⟨w.heap.size, 0, none⟩) (cell_lt o0) (by simp); have u1 := HC7.out.cell (p := ⟨b, k * 5 + 4, none⟩) (cell_lt p4) (by simp); have u2 := HC7.out.cell (p := ⟨B, 4, none⟩) (cell_lt r4) (by simp); clear hc7)
          | fail)
        simp only [Exit.then]
        have HF7 := Lib.hid (HF5.out.quiet HC7.out)
        have HC8 := Lib.hid (HC6.out.trans HC7.out)
        clear u0 u1 u2 o0 p4 r4 HD HC7 HC6 HF5 HC5 HFW HCW
        go_wp2_with fail
        with_reducible refine (HNu.out _).mono ?_
        rintro e w9 ⟨rfl, hc9⟩
        have hF9 := HF7.out.quiet hc9
        have HC9 := Lib.hid (HC8.out.trans hc9)
        obtain ⟨x0, x1, x2, x3, x4⟩ := hF9.reg hk
        have xf := hF9.fr
        have HK := Lib.hid (show FR (st5 w9 b (k * 5) (num N)) b (upd F k (num N)) ∧ Ch [b] w (st5 w9 b (k * 5) (num N)) from ⟨hF9.set (by omega) _, (HC9.out.mono (by simp)).trans (st5_ch w9 b _ _)⟩)
        generalize num N = Z at *
        unfold vv
        clear hc9 hF9 HF7 HC8
        go_wp2_with fail
        go_ret
        rw [HZ.out]
        exact ⟨rfl, HK.out⟩
      · have HZ := Lib.hid (HR1.out rfl)
        clear HR1 HS1
        go_wp2_with fail
        go_ret
        rw [HZ.out]
        exact ⟨rfl, HF5.out, HC6.out.mono (by simp)⟩
end Go.Proofs.Ytlffcccicpdnfaa
